/-
  Lemmas: SeqM.
-/
import Derived.Test.YtkiojiibppdjjaaTp28
import Derived.Test.YtkiojiibppdjjaaTp18
/-
  The tasks of a record with a version: Task: what it makes, what it refuses.
-/
namespace Go.Proofs.Ytkiojiibppdjjaa
open Go.RowKit
set_option linter.unusedVariables false
set_option linter.unusedSimpArgs false
set_option maxRecDepth 20000
namespace Seq

theorem callTask (args : Array Value) (w : World) : (callFunc 24 args).run Try.prog w = .ok (.enter 24 args) w := by simp [go_sem]

set_option maxHeartbeats 4000000 in
theorem task1 (w : World) (sh : Shp) (a b c hh : Int) (h1 : 1 ≤ sh.f) (h2 : sh.f ≤ 64) :
    Calls Try.prog 24 #[sh.val, .int .i64 0, (⟨1, a, b, c, hh⟩ : Jb).val] w fun e w' => ∃ bb, e = .returned (.tuple #[.iface 98 (.pointer (some ⟨bb, 0, none⟩)), .int .i64 0]) ∧
      w'.rowIs bb 100 7 (wrC sh.f 0 0 0 hh ⟨false, 0⟩) ∧ w.heap.size ≤ bb ∧ w.grownBy w' none := by
  obtain ⟨s0, s1, s2, s3, s4, s5⟩ := sh
  simp only [Shp.val, Jb.val] at h1 h2 ⊢
  go_enter Try.func24, Try.ntmps24
  go_wp2_with (go_at_call 35; refine (room_ok _ ⟨s0, s1, s2, s3, s4, s5⟩ h1 h2).mono ?_; rintro e w1 ⟨rfl, hg1⟩; have HG := hide hg1; have sz1 := hg1.size; simp only [World.size_alloc] at sz1; have lj : w.heap.size + 1 < w1.heap.size := (by omega); have lj0 : w.heap.size < w1.heap.size := (by omega); have sh5 : w1.cell? ⟨w.heap.size, 5, none⟩ = some (.int .i64 s5) := hg1.cell (a := ⟨w.heap.size, 5, none⟩) (by simp) (by simp); have j0 : w1.cell? ⟨w.heap.size + 1, 0, none⟩ = some (.int .i64 1) := hg1.cell (a := ⟨w.heap.size + 1, 0, none⟩) (by simp) (by simp); have j4 : w1.cell? ⟨w.heap.size + 1, 4, none⟩ = some (.int .u64 hh) := hg1.cell (a := ⟨w.heap.size + 1, 4, none⟩) (by simp) (by simp); clear hg1)
  go_ret2
  refine ⟨w1.heap.size, rfl, ?_, by omega, grown_alloc (grown_trans (grown_alloc (grown_alloc (grown_refl _ _) _) _) HG.out) _⟩
  exact rowIs_cells (w := w1) #[.int .i64 s5, .int .i64 0, .int .i64 0, .int .u64 0, .int .u64 hh, .bool false, .int .u64 0] 100 _ 7 rfl (fun i hi => by
      match i, hi with
      | 0, _ | 1, _ | 2, _ | 3, _ | 4, _ | 5, _ | 6, _ => rfl)

set_option maxHeartbeats 4000000 in
theorem task2 (w : World) (sh : Shp) (hand a b c hh : Int) (h1 : 1 ≤ sh.f) (h2 : sh.f ≤ 64) :
    Calls Try.prog 24 #[sh.val, .int .i64 hand, (⟨2, a, b, c, hh⟩ : Jb).val] w fun e w' => ∃ bb, e = .returned (.tuple #[.iface 101 (.pointer (some ⟨bb, 0, none⟩)), .int .i64 0]) ∧
      w'.rowIs bb 103 9 (rdC hand sh.f 0 0 0 ⟨false, 0⟩ ⟨false, 0⟩) ∧ w.heap.size ≤ bb ∧ w.grownBy w' none := by
  obtain ⟨s0, s1, s2, s3, s4, s5⟩ := sh
  simp only [Shp.val, Jb.val] at h1 h2 ⊢
  go_enter Try.func24, Try.ntmps24
  go_wp2_with (go_at_call 35; refine (room_ok _ ⟨s0, s1, s2, s3, s4, s5⟩ h1 h2).mono ?_; rintro e w1 ⟨rfl, hg1⟩; have HG := hide hg1; have sz1 := hg1.size; simp only [World.size_alloc] at sz1; have lj : w.heap.size + 1 < w1.heap.size := (by omega); have lj0 : w.heap.size < w1.heap.size := (by omega); have sh5 : w1.cell? ⟨w.heap.size, 5, none⟩ = some (.int .i64 s5) := hg1.cell (a := ⟨w.heap.size, 5, none⟩) (by simp) (by simp); have j0 : w1.cell? ⟨w.heap.size + 1, 0, none⟩ = some (.int .i64 2) := hg1.cell (a := ⟨w.heap.size + 1, 0, none⟩) (by simp) (by simp); have j4 : w1.cell? ⟨w.heap.size + 1, 4, none⟩ = some (.int .u64 hh) := hg1.cell (a := ⟨w.heap.size + 1, 4, none⟩) (by simp) (by simp); clear hg1)
  go_ret2
  refine ⟨w1.heap.size, rfl, ?_, by omega, grown_alloc (grown_trans (grown_alloc (grown_alloc (grown_refl _ _) _) _) HG.out) _⟩
  exact rowIs_cells (w := w1) #[.int .i64 hand, .int .i64 s5, .int .i64 0, .int .i64 0, .int .u64 0, .bool false, .int .u64 0, .bool false, .int .u64 0] 103 _ 9 rfl (fun i hi => by
      match i, hi with
      | 0, _ | 1, _ | 2, _ | 3, _ | 4, _ | 5, _ | 6, _ | 7, _ | 8, _ => rfl)

set_option maxHeartbeats 4000000 in
theorem task_err (w : World) (sh : Shp) (hand : Int) (j : Jb) (h1 : 1 ≤ sh.f) (h2 : sh.f ≤ 64) (h : ¬ serr hand j = 0) :
    Calls Try.prog 24 #[sh.val, .int .i64 hand, j.val] w fun e w' => e = .returned (.tuple #[.nilIface, .int .i64 (serr hand j)]) ∧ w.grownBy w' none := by
  obtain ⟨s0, s1, s2, s3, s4, s5⟩ := sh
  obtain ⟨kind, a, b, c, hh⟩ := j
  simp only [Shp.val, Jb.val] at h1 h2 h ⊢
  obtain ⟨er, hk⟩ : ∃ er, serr hand ⟨kind, a, b, c, hh⟩ = er ∧ ((kind = 1 ∧ ¬ hand = 0 ∧ er = 2) ∨ (¬ kind = 1 ∧ ¬ kind = 2 ∧ er = 200)) := ⟨_, rfl, by
    simp only [serr] at h ⊢
    by_cases c1 : kind = 1
    · rw [if_pos c1] at h ⊢
      by_cases c2 : hand = 0
      · rw [if_pos c2] at h; exact absurd rfl h
      · rw [if_neg c2]; exact .inl ⟨c1, c2, rfl⟩
    · rw [if_neg c1] at h ⊢
      by_cases c2 : kind = 2
      · rw [if_pos c2] at h; exact absurd rfl h
      · rw [if_neg c2]; exact .inr ⟨c1, c2, rfl⟩⟩
  rw [hk.1]
  replace hk := hk.2
  clear h
  rcases hk with ⟨rfl, k2, rfl⟩ | ⟨k1, k2, rfl⟩
  have k2' : (hand != 0) = true := by simpa using k2
  rotate_left 1
  have k1' : (kind == 1) = false := by simpa using k1
  have k2' : (kind == 2) = false := by simpa using k2
  · go_enter Try.func24, Try.ntmps24
    go_wp2_with (go_at_call 35; refine (room_ok _ ⟨s0, s1, s2, s3, s4, s5⟩ h1 h2).mono ?_; rintro e w1 ⟨rfl, hg1⟩; have HG := hide hg1; have sz1 := hg1.size; simp only [World.size_alloc] at sz1; have lj : w.heap.size + 1 < w1.heap.size := (by omega); have lj0 : w.heap.size < w1.heap.size := (by omega); have sh5 : w1.cell? ⟨w.heap.size, 5, none⟩ = some (.int .i64 s5) := hg1.cell (a := ⟨w.heap.size, 5, none⟩) (by simp) (by simp); have j0 : w1.cell? ⟨w.heap.size + 1, 0, none⟩ = some (.int .i64 kind) := hg1.cell (a := ⟨w.heap.size + 1, 0, none⟩) (by simp) (by simp); have j4 : w1.cell? ⟨w.heap.size + 1, 4, none⟩ = some (.int .u64 hh) := hg1.cell (a := ⟨w.heap.size + 1, 4, none⟩) (by simp) (by simp); clear hg1)
    go_ret2
    exact ⟨rfl, grown_trans (grown_alloc (grown_alloc (grown_refl _ _) _) _) HG.out⟩
  · go_enter Try.func24, Try.ntmps24
    go_wp2_with (go_at_call 35; refine (room_ok _ ⟨s0, s1, s2, s3, s4, s5⟩ h1 h2).mono ?_; rintro e w1 ⟨rfl, hg1⟩; have HG := hide hg1; have sz1 := hg1.size; simp only [World.size_alloc] at sz1; have lj : w.heap.size + 1 < w1.heap.size := (by omega); have lj0 : w.heap.size < w1.heap.size := (by omega); have sh5 : w1.cell? ⟨w.heap.size, 5, none⟩ = some (.int .i64 s5) := hg1.cell (a := ⟨w.heap.size, 5, none⟩) (by simp) (by simp); have j0 : w1.cell? ⟨w.heap.size + 1, 0, none⟩ = some (.int .i64 1) := hg1.cell (a := ⟨w.heap.size + 1, 0, none⟩) (by simp) (by simp); have j4 : w1.cell? ⟨w.heap.size + 1, 4, none⟩ = some (.int .u64 hh) := hg1.cell (a := ⟨w.heap.size + 1, 4, none⟩) (by simp) (by simp); clear hg1)
    go_ret2
    exact ⟨rfl, grown_trans (grown_alloc (grown_alloc (grown_refl _ _) _) _) HG.out⟩
set_option maxHeartbeats 4000000 in
theorem task_shape (w : World) (sh : Shp) (hand : Int) (j : Jb) (h : sh.f < 1 ∨ 64 < sh.f) :
    Calls Try.prog 24 #[sh.val, .int .i64 hand, j.val] w fun e w' => e = .returned (.tuple #[.nilIface, .int .i64 120]) ∧ w.grownBy w' none := by
  obtain ⟨s0, s1, s2, s3, s4, s5⟩ := sh
  obtain ⟨kind, a, b, c, hh⟩ := j
  simp only [Shp.val, Jb.val] at h ⊢
  go_enter Try.func24, Try.ntmps24
  go_wp2_with (go_at_call 35; refine (room_bad _ ⟨s0, s1, s2, s3, s4, s5⟩ h).mono ?_; rintro e w1 ⟨rfl, hg1⟩; have HG := hide hg1; clear hg1)
  go_ret2
  exact ⟨rfl, grown_trans (grown_alloc (grown_alloc (grown_refl _ _) _) _) HG.out⟩

/-- A job that is taken: its task. -/
theorem task_any (w : World) (sh : Shp) (hand : Int) (j : Jb) (h1 : 1 ≤ sh.f) (h2 : sh.f ≤ 64) (he : serr hand j = 0) :
    Calls Try.prog 24 #[sh.val, .int .i64 hand, j.val] w fun e w' => ∃ bb, e = .returned (.tuple #[.iface ((kSeq sh.f).tid j) (.pointer (some ⟨bb, 0, none⟩)), .int .i64 0]) ∧
      w'.rowIs bb ((kSeq sh.f).t j) ((kSeq sh.f).n j) (scell sh.f (sinit hand j)) ∧ w.heap.size ≤ bb ∧ w.grownBy w' none := by
  have hk := serr_cases he
  obtain ⟨kind, a, b, c, hh'⟩ := j
  simp only at hk
  rcases hk with ⟨rfl, rfl⟩ | rfl
  · exact task1 w sh a b c hh' h1 h2
  · exact task2 w sh hand a b c hh' h1 h2

/-- What makeTask does with seq's maker. -/
theorem makes {w : World} {tb sb : Nat} {sh : Shp} (h1 : 1 ≤ sh.f) (h2 : sh.f ≤ 64) (H : Boxes w tb sb 24 sh) : MakesAt (kSeq sh.f) (mkOf tb sb) w := by
  intro hand j _ _ hw
  exact ⟨fun he => maker_ok callTask H (fun w1 => task_any w1 sh hand j h1 h2 he), fun he => maker_err callTask H he (fun w1 => task_err w1 sh hand j h1 h2 he)⟩

end Seq
end Go.Proofs.Ytkiojiibppdjjaa
