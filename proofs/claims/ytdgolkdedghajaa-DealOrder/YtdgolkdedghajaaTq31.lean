/-
  Lemmas: DealM.
-/
import Derived.Test.YtdgolkdedghajaaTq30
import Derived.Test.YtdgolkdedghajaaTq17
/-
  The tasks of a deal: Task: what it makes, what it refuses.
-/
namespace Go.Proofs.Ytdgolkdedghajaa
open Go.RowKit
set_option linter.unusedVariables false
set_option linter.unusedSimpArgs false
set_option maxRecDepth 20000
namespace Deal

theorem callTask (args : Array Value) (w : World) : (callFunc 23 args).run Try.prog w = .ok (.enter 23 args) w := by simp [go_sem]

set_option maxHeartbeats 4000000 in
theorem task1 (w : World) (sh : Shp) (a b c hh : Int) (h1 : 1 ≤ sh.f) (h2 : sh.f ≤ 64) :
    Calls Try.prog 23 #[sh.val, .int .i64 0, (⟨1, a, b, c, hh⟩ : Jb).val] w fun e w' => ∃ bb, e = .returned (.tuple #[.iface 85 (.pointer (some ⟨bb, 0, none⟩)), .int .i64 0]) ∧
      w'.rowIs bb 87 8 (mvC 0 sh.f 0 0 0 hh ⟨false, 0⟩) ∧ w.heap.size ≤ bb ∧ w.grownBy w' none := by
  obtain ⟨s0, s1, s2, s3, s4, s5⟩ := sh
  simp only [Shp.val, Jb.val] at h1 h2 ⊢
  go_enter Try.func23, Try.ntmps23
  go_wp2_with (go_at_call 37; refine (room_ok _ ⟨s0, s1, s2, s3, s4, s5⟩ h1 h2).mono ?_; rintro e w1 ⟨rfl, hg1⟩; have HG := hide hg1; have sz1 := hg1.size; simp only [World.size_alloc] at sz1; have lj : w.heap.size + 1 < w1.heap.size := (by omega); have lj0 : w.heap.size < w1.heap.size := (by omega); have sh5 : w1.cell? ⟨w.heap.size, 5, none⟩ = some (.int .i64 s5) := hg1.cell (a := ⟨w.heap.size, 5, none⟩) (by simp) (by simp); have j0 : w1.cell? ⟨w.heap.size + 1, 0, none⟩ = some (.int .i64 1) := hg1.cell (a := ⟨w.heap.size + 1, 0, none⟩) (by simp) (by simp); have j4 : w1.cell? ⟨w.heap.size + 1, 4, none⟩ = some (.int .u64 hh) := hg1.cell (a := ⟨w.heap.size + 1, 4, none⟩) (by simp) (by simp); clear hg1)
  go_ret2
  refine ⟨w1.heap.size + 1, rfl, ?row, by omega, ?gro⟩
  case row =>
    exact rowIs_new (by simp) #[.int .i64 0, .int .i64 s5, .int .i64 0, .int .u64 0, .int .u64 0, .int .u64 hh, .bool false, .int .u64 0] 87 _ 8 rfl (fun i hi => by
      match i, hi with
      | 0, _ | 1, _ | 2, _ | 3, _ | 4, _ | 5, _ | 6, _ | 7, _ => rfl)
  case gro =>
    repeat (first | (with_reducible refine grown_alloc ?_ _) | (with_reducible refine grown_setCell ?_ _ (.inr ?side) _; case side => (simp; omega)))
    exact grown_trans (grown_alloc (grown_alloc (grown_refl _ _) _) _) HG.out

set_option maxHeartbeats 4000000 in
theorem task2 (w : World) (sh : Shp) (a b c hh : Int) (h1 : 1 ≤ sh.f) (h2 : sh.f ≤ 64) :
    Calls Try.prog 23 #[sh.val, .int .i64 0, (⟨2, a, b, c, hh⟩ : Jb).val] w fun e w' => ∃ bb, e = .returned (.tuple #[.iface 88 (.pointer (some ⟨bb, 0, none⟩)), .int .i64 0]) ∧
      w'.rowIs bb 89 8 (mvC 0 sh.f 0 0 0 0 ⟨false, 0⟩) ∧ w.heap.size ≤ bb ∧ w.grownBy w' none := by
  obtain ⟨s0, s1, s2, s3, s4, s5⟩ := sh
  simp only [Shp.val, Jb.val] at h1 h2 ⊢
  go_enter Try.func23, Try.ntmps23
  go_wp2_with (go_at_call 37; refine (room_ok _ ⟨s0, s1, s2, s3, s4, s5⟩ h1 h2).mono ?_; rintro e w1 ⟨rfl, hg1⟩; have HG := hide hg1; have sz1 := hg1.size; simp only [World.size_alloc] at sz1; have lj : w.heap.size + 1 < w1.heap.size := (by omega); have lj0 : w.heap.size < w1.heap.size := (by omega); have sh5 : w1.cell? ⟨w.heap.size, 5, none⟩ = some (.int .i64 s5) := hg1.cell (a := ⟨w.heap.size, 5, none⟩) (by simp) (by simp); have j0 : w1.cell? ⟨w.heap.size + 1, 0, none⟩ = some (.int .i64 2) := hg1.cell (a := ⟨w.heap.size + 1, 0, none⟩) (by simp) (by simp); have j4 : w1.cell? ⟨w.heap.size + 1, 4, none⟩ = some (.int .u64 hh) := hg1.cell (a := ⟨w.heap.size + 1, 4, none⟩) (by simp) (by simp); clear hg1)
  go_ret2
  refine ⟨w1.heap.size + 1, rfl, ?row, by omega, ?gro⟩
  case row =>
    exact rowIs_new (by simp) #[.int .i64 0, .int .i64 s5, .int .i64 0, .int .u64 0, .int .u64 0, .int .u64 0, .bool false, .int .u64 0] 89 _ 8 rfl (fun i hi => by
      match i, hi with
      | 0, _ | 1, _ | 2, _ | 3, _ | 4, _ | 5, _ | 6, _ | 7, _ => rfl)
  case gro =>
    repeat (first | (with_reducible refine grown_alloc ?_ _) | (with_reducible refine grown_setCell ?_ _ (.inr ?side) _; case side => (simp; omega)))
    exact grown_trans (grown_alloc (grown_alloc (grown_refl _ _) _) _) HG.out

set_option maxHeartbeats 4000000 in
theorem task3 (w : World) (sh : Shp) (hand a b c hh : Int) (h1 : 1 ≤ sh.f) (h2 : sh.f ≤ 64) :
    Calls Try.prog 23 #[sh.val, .int .i64 hand, (⟨3, a, b, c, hh⟩ : Jb).val] w fun e w' => ∃ bb, e = .returned (.tuple #[.iface 90 (.pointer (some ⟨bb, 0, none⟩)), .int .i64 0]) ∧
      w'.rowIs bb 91 8 (mvC hand sh.f 0 0 0 0 ⟨false, 0⟩) ∧ w.heap.size ≤ bb ∧ w.grownBy w' none := by
  obtain ⟨s0, s1, s2, s3, s4, s5⟩ := sh
  simp only [Shp.val, Jb.val] at h1 h2 ⊢
  go_enter Try.func23, Try.ntmps23
  go_wp2_with (go_at_call 37; refine (room_ok _ ⟨s0, s1, s2, s3, s4, s5⟩ h1 h2).mono ?_; rintro e w1 ⟨rfl, hg1⟩; have HG := hide hg1; have sz1 := hg1.size; simp only [World.size_alloc] at sz1; have lj : w.heap.size + 1 < w1.heap.size := (by omega); have lj0 : w.heap.size < w1.heap.size := (by omega); have sh5 : w1.cell? ⟨w.heap.size, 5, none⟩ = some (.int .i64 s5) := hg1.cell (a := ⟨w.heap.size, 5, none⟩) (by simp) (by simp); have j0 : w1.cell? ⟨w.heap.size + 1, 0, none⟩ = some (.int .i64 3) := hg1.cell (a := ⟨w.heap.size + 1, 0, none⟩) (by simp) (by simp); have j4 : w1.cell? ⟨w.heap.size + 1, 4, none⟩ = some (.int .u64 hh) := hg1.cell (a := ⟨w.heap.size + 1, 4, none⟩) (by simp) (by simp); clear hg1)
  go_ret2
  refine ⟨w1.heap.size + 1, rfl, ?row, by omega, ?gro⟩
  case row =>
    exact rowIs_new (by simp) #[.int .i64 hand, .int .i64 s5, .int .i64 0, .int .u64 0, .int .u64 0, .int .u64 0, .bool false, .int .u64 0] 91 _ 8 rfl (fun i hi => by
      match i, hi with
      | 0, _ | 1, _ | 2, _ | 3, _ | 4, _ | 5, _ | 6, _ | 7, _ => rfl)
  case gro =>
    repeat (first | (with_reducible refine grown_alloc ?_ _) | (with_reducible refine grown_setCell ?_ _ (.inr ?side) _; case side => (simp; omega)))
    exact grown_trans (grown_alloc (grown_alloc (grown_refl _ _) _) _) HG.out

set_option maxHeartbeats 4000000 in
theorem task_err (w : World) (sh : Shp) (hand : Int) (j : Jb) (h1 : 1 ≤ sh.f) (h2 : sh.f ≤ 64) (h : ¬ derr hand j = 0) :
    Calls Try.prog 23 #[sh.val, .int .i64 hand, j.val] w fun e w' => e = .returned (.tuple #[.nilIface, .int .i64 (derr hand j)]) ∧ w.grownBy w' none := by
  obtain ⟨s0, s1, s2, s3, s4, s5⟩ := sh
  obtain ⟨kind, a, b, c, hh⟩ := j
  simp only [Shp.val, Jb.val] at h1 h2 h ⊢
  obtain ⟨er, hk⟩ : ∃ er, derr hand ⟨kind, a, b, c, hh⟩ = er ∧ ((kind < 1 ∧ er = 200) ∨ (¬ kind < 1 ∧ 3 < kind ∧ er = 200) ∨ (¬ kind < 1 ∧ ¬ 3 < kind ∧ ¬ kind = 3 ∧ ¬ hand = 0 ∧ er = 2)) := ⟨_, rfl, by
    simp only [derr] at h ⊢
    by_cases c1 : kind < 1
    · rw [if_pos (.inl c1)]; exact .inl ⟨c1, rfl⟩
    · by_cases c2 : 3 < kind
      · rw [if_pos (.inr c2)]; exact .inr (.inl ⟨c1, c2, rfl⟩)
      · rw [if_neg (by omega)] at h ⊢
        by_cases c3 : kind = 3
        · rw [if_pos c3] at h; exact absurd rfl h
        · rw [if_neg c3] at h ⊢
          by_cases c4 : hand = 0
          · rw [if_pos c4] at h; exact absurd rfl h
          · rw [if_neg c4]; exact .inr (.inr ⟨c1, c2, c3, c4, rfl⟩)⟩
  rw [hk.1]
  replace hk := hk.2
  clear h
  rcases hk with ⟨k1, rfl⟩ | ⟨k1, k2, rfl⟩ | ⟨k1, k2, k3, k4, rfl⟩
  rotate_left 2
  have k3' : (kind != 3) = true := by simpa using k3
  have k4' : (hand != 0) = true := by simpa using k4
  rotate_left 1
  all_goals go_enter Try.func23, Try.ntmps23
  all_goals go_wp2_with (go_at_call 37; refine (room_ok _ ⟨s0, s1, s2, s3, s4, s5⟩ h1 h2).mono ?_; rintro e w1 ⟨rfl, hg1⟩; have HG := hide hg1; have sz1 := hg1.size; simp only [World.size_alloc] at sz1; have lj : w.heap.size + 1 < w1.heap.size := (by omega); have lj0 : w.heap.size < w1.heap.size := (by omega); have sh5 : w1.cell? ⟨w.heap.size, 5, none⟩ = some (.int .i64 s5) := hg1.cell (a := ⟨w.heap.size, 5, none⟩) (by simp) (by simp); have j0 : w1.cell? ⟨w.heap.size + 1, 0, none⟩ = some (.int .i64 kind) := hg1.cell (a := ⟨w.heap.size + 1, 0, none⟩) (by simp) (by simp); have j4 : w1.cell? ⟨w.heap.size + 1, 4, none⟩ = some (.int .u64 hh) := hg1.cell (a := ⟨w.heap.size + 1, 4, none⟩) (by simp) (by simp); clear hg1)
  all_goals go_ret2
  all_goals exact ⟨rfl, grown_trans (grown_alloc (grown_alloc (grown_refl _ _) _) _) HG.out⟩
set_option maxHeartbeats 4000000 in
theorem task_shape (w : World) (sh : Shp) (hand : Int) (j : Jb) (h : sh.f < 1 ∨ 64 < sh.f) :
    Calls Try.prog 23 #[sh.val, .int .i64 hand, j.val] w fun e w' => e = .returned (.tuple #[.nilIface, .int .i64 120]) ∧ w.grownBy w' none := by
  obtain ⟨s0, s1, s2, s3, s4, s5⟩ := sh
  obtain ⟨kind, a, b, c, hh⟩ := j
  simp only [Shp.val, Jb.val] at h ⊢
  go_enter Try.func23, Try.ntmps23
  go_wp2_with (go_at_call 37; refine (room_bad _ ⟨s0, s1, s2, s3, s4, s5⟩ h).mono ?_; rintro e w1 ⟨rfl, hg1⟩; have HG := hide hg1; clear hg1)
  go_ret2
  exact ⟨rfl, grown_trans (grown_alloc (grown_alloc (grown_refl _ _) _) _) HG.out⟩

/-- A job that is taken: its task. -/
theorem task_any (w : World) (sh : Shp) (hand : Int) (j : Jb) (h1 : 1 ≤ sh.f) (h2 : sh.f ≤ 64) (he : derr hand j = 0) :
    Calls Try.prog 23 #[sh.val, .int .i64 hand, j.val] w fun e w' => ∃ bb, e = .returned (.tuple #[.iface ((kDeal sh.f).tid j) (.pointer (some ⟨bb, 0, none⟩)), .int .i64 0]) ∧
      w'.rowIs bb ((kDeal sh.f).t j) ((kDeal sh.f).n j) (dcell sh.f (dinit hand j)) ∧ w.heap.size ≤ bb ∧ w.grownBy w' none := by
  obtain ⟨hk, hh⟩ := derr_cases he
  obtain ⟨kind, a, b, c, hh'⟩ := j
  simp only at hk hh
  rcases hk with rfl | rfl | rfl
  · obtain rfl : hand = 0 := by omega
    exact task1 w sh a b c hh' h1 h2
  · obtain rfl : hand = 0 := by omega
    exact task2 w sh a b c hh' h1 h2
  · exact task3 w sh hand a b c hh' h1 h2

/-- What makeTask does with the deal's maker. -/
theorem makes {w : World} {tb sb : Nat} {sh : Shp} (h1 : 1 ≤ sh.f) (h2 : sh.f ≤ 64) (H : Boxes w tb sb 23 sh) : MakesAt (kDeal sh.f) (mkOf tb sb) w := by
  intro hand j _ _ hw
  exact ⟨fun he => maker_ok callTask H (fun w1 => task_any w1 sh hand j h1 h2 he), fun he => maker_err callTask H he (fun w1 => task_err w1 sh hand j h1 h2 he)⟩

end Deal
end Go.Proofs.Ytdgolkdedghajaa
