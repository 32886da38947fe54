/-
  Lemmas: EpochM.
-/
import Derived.Test.YtbohmahjpolapaaTp29
import Derived.Test.YtbohmahjpolapaaTp17
/-
  The tasks of an epoch: Task: what it makes, what it refuses.
-/
namespace Go.Proofs.Ytbohmahjpolapaa
open Go.RowKit
set_option linter.unusedVariables false
set_option linter.unusedSimpArgs false
set_option maxRecDepth 20000
namespace Epoch

theorem callTask (args : Array Value) (w : World) : (callFunc 29 args).run Try.prog w = .ok (.enter 29 args) w := by simp [go_sem]

theorem eerr_split (r hand : Int) (kind a b c hh : Int) : ∃ er, eerr r hand ⟨kind, a, b, c, hh⟩ = er ∧ ((kind < 1 ∧ er = 200) ∨ (¬ kind < 1 ∧ 4 < kind ∧ er = 200) ∨
    (¬ kind < 1 ∧ ¬ 4 < kind ∧ ¬ kind = 3 ∧ ((hand < 0 ∧ er = 2) ∨ (¬ hand < 0 ∧ 8 ≤ hand ∧ er = 2) ∨ (¬ hand < 0 ∧ ¬ 8 ≤ hand ∧ er = 0))) ∨
    (kind = 3 ∧ ((a < 0 ∧ er = 2) ∨ (¬ a < 0 ∧ r ≤ a ∧ er = 2) ∨ (¬ a < 0 ∧ ¬ r ≤ a ∧ ((hand < 0 ∧ er = 2) ∨ (¬ hand < 0 ∧ 8 ≤ hand ∧ er = 2) ∨ (¬ hand < 0 ∧ ¬ 8 ≤ hand ∧ er = 0)))))) := by
  refine ⟨_, rfl, ?_⟩
  simp only [eerr]
  split
  · omega
  · split
    · omega
    · split <;> omega

set_option maxHeartbeats 4000000 in
theorem check_any (w : World) (sh : Shp) (hand : Int) (j : Jb) (h1 : 1 ≤ sh.f) (h2 : sh.f ≤ 64) :
    Calls Try.prog 49 #[sh.val, .int .i64 hand, j.val] w fun e w' => e = .returned (.int .i64 (eerr sh.f hand j)) ∧ w.grownBy w' none := by
  obtain ⟨s0, s1, s2, s3, s4, s5⟩ := sh
  obtain ⟨kind, a, b, c, hh⟩ := j
  simp only [Shp.val, Jb.val] at h1 h2 ⊢
  obtain ⟨er, e1, hk⟩ := eerr_split s5 hand kind a b c hh
  rw [e1]
  clear e1
  rcases hk with ⟨k1, rfl⟩ | ⟨k1, k2, rfl⟩ | ⟨k1, k2, k3, hk⟩ | ⟨rfl, hk⟩
  · go_enter Try.func49, Try.ntmps49
    go_wp2_with (go_at_call 48; refine (room_ok _ ⟨s0, s1, s2, s3, s4, s5⟩ h1 h2).mono ?_; rintro e w1 ⟨rfl, hg1⟩; have HG := hide hg1; have sz1 := hg1.size; simp only [World.size_alloc] at sz1; have lj : w.heap.size + 1 < w1.heap.size := (by omega); have lj0 : w.heap.size < w1.heap.size := (by omega); have sh5 : w1.cell? ⟨w.heap.size, 5, none⟩ = some (.int .i64 s5) := hg1.cell (a := ⟨w.heap.size, 5, none⟩) (by simp) (by simp); have j0 : w1.cell? ⟨w.heap.size + 1, 0, none⟩ = some (.int .i64 kind) := hg1.cell (a := ⟨w.heap.size + 1, 0, none⟩) (by simp) (by simp); have j1 : w1.cell? ⟨w.heap.size + 1, 1, none⟩ = some (.int .i64 a) := hg1.cell (a := ⟨w.heap.size + 1, 1, none⟩) (by simp) (by simp); clear hg1)
    go_ret
    exact ⟨rfl, grown_trans (grown_alloc (grown_alloc (grown_refl _ _) _) _) HG.out⟩
  · go_enter Try.func49, Try.ntmps49
    go_wp2_with (go_at_call 48; refine (room_ok _ ⟨s0, s1, s2, s3, s4, s5⟩ h1 h2).mono ?_; rintro e w1 ⟨rfl, hg1⟩; have HG := hide hg1; have sz1 := hg1.size; simp only [World.size_alloc] at sz1; have lj : w.heap.size + 1 < w1.heap.size := (by omega); have lj0 : w.heap.size < w1.heap.size := (by omega); have sh5 : w1.cell? ⟨w.heap.size, 5, none⟩ = some (.int .i64 s5) := hg1.cell (a := ⟨w.heap.size, 5, none⟩) (by simp) (by simp); have j0 : w1.cell? ⟨w.heap.size + 1, 0, none⟩ = some (.int .i64 kind) := hg1.cell (a := ⟨w.heap.size + 1, 0, none⟩) (by simp) (by simp); have j1 : w1.cell? ⟨w.heap.size + 1, 1, none⟩ = some (.int .i64 a) := hg1.cell (a := ⟨w.heap.size + 1, 1, none⟩) (by simp) (by simp); clear hg1)
    go_ret
    exact ⟨rfl, grown_trans (grown_alloc (grown_alloc (grown_refl _ _) _) _) HG.out⟩
  · have k3' : (kind == 3) = false := by simpa using k3
    rcases hk with ⟨m1, rfl⟩ | ⟨m1, m2, rfl⟩ | ⟨m1, m2, rfl⟩
    all_goals go_enter Try.func49, Try.ntmps49
    all_goals go_wp2_with (go_at_call 48; refine (room_ok _ ⟨s0, s1, s2, s3, s4, s5⟩ h1 h2).mono ?_; rintro e w1 ⟨rfl, hg1⟩; have HG := hide hg1; have sz1 := hg1.size; simp only [World.size_alloc] at sz1; have lj : w.heap.size + 1 < w1.heap.size := (by omega); have lj0 : w.heap.size < w1.heap.size := (by omega); have sh5 : w1.cell? ⟨w.heap.size, 5, none⟩ = some (.int .i64 s5) := hg1.cell (a := ⟨w.heap.size, 5, none⟩) (by simp) (by simp); have j0 : w1.cell? ⟨w.heap.size + 1, 0, none⟩ = some (.int .i64 kind) := hg1.cell (a := ⟨w.heap.size + 1, 0, none⟩) (by simp) (by simp); have j1 : w1.cell? ⟨w.heap.size + 1, 1, none⟩ = some (.int .i64 a) := hg1.cell (a := ⟨w.heap.size + 1, 1, none⟩) (by simp) (by simp); clear hg1)
    all_goals go_ret
    all_goals exact ⟨rfl, grown_trans (grown_alloc (grown_alloc (grown_refl _ _) _) _) HG.out⟩
  · rcases hk with ⟨m1, rfl⟩ | ⟨m1, m2, rfl⟩ | ⟨m1, m2, hk⟩
    · go_enter Try.func49, Try.ntmps49
      go_wp2_with (go_at_call 48; refine (room_ok _ ⟨s0, s1, s2, s3, s4, s5⟩ h1 h2).mono ?_; rintro e w1 ⟨rfl, hg1⟩; have HG := hide hg1; have sz1 := hg1.size; simp only [World.size_alloc] at sz1; have lj : w.heap.size + 1 < w1.heap.size := (by omega); have lj0 : w.heap.size < w1.heap.size := (by omega); have sh5 : w1.cell? ⟨w.heap.size, 5, none⟩ = some (.int .i64 s5) := hg1.cell (a := ⟨w.heap.size, 5, none⟩) (by simp) (by simp); have j0 : w1.cell? ⟨w.heap.size + 1, 0, none⟩ = some (.int .i64 3) := hg1.cell (a := ⟨w.heap.size + 1, 0, none⟩) (by simp) (by simp); have j1 : w1.cell? ⟨w.heap.size + 1, 1, none⟩ = some (.int .i64 a) := hg1.cell (a := ⟨w.heap.size + 1, 1, none⟩) (by simp) (by simp); clear hg1)
      go_ret
      exact ⟨rfl, grown_trans (grown_alloc (grown_alloc (grown_refl _ _) _) _) HG.out⟩
    · go_enter Try.func49, Try.ntmps49
      go_wp2_with (go_at_call 48; refine (room_ok _ ⟨s0, s1, s2, s3, s4, s5⟩ h1 h2).mono ?_; rintro e w1 ⟨rfl, hg1⟩; have HG := hide hg1; have sz1 := hg1.size; simp only [World.size_alloc] at sz1; have lj : w.heap.size + 1 < w1.heap.size := (by omega); have lj0 : w.heap.size < w1.heap.size := (by omega); have sh5 : w1.cell? ⟨w.heap.size, 5, none⟩ = some (.int .i64 s5) := hg1.cell (a := ⟨w.heap.size, 5, none⟩) (by simp) (by simp); have j0 : w1.cell? ⟨w.heap.size + 1, 0, none⟩ = some (.int .i64 3) := hg1.cell (a := ⟨w.heap.size + 1, 0, none⟩) (by simp) (by simp); have j1 : w1.cell? ⟨w.heap.size + 1, 1, none⟩ = some (.int .i64 a) := hg1.cell (a := ⟨w.heap.size + 1, 1, none⟩) (by simp) (by simp); clear hg1)
      go_ret
      exact ⟨rfl, grown_trans (grown_alloc (grown_alloc (grown_refl _ _) _) _) HG.out⟩
    · rcases hk with ⟨n1, rfl⟩ | ⟨n1, n2, rfl⟩ | ⟨n1, n2, rfl⟩
      all_goals go_enter Try.func49, Try.ntmps49
      all_goals go_wp2_with (go_at_call 48; refine (room_ok _ ⟨s0, s1, s2, s3, s4, s5⟩ h1 h2).mono ?_; rintro e w1 ⟨rfl, hg1⟩; have HG := hide hg1; have sz1 := hg1.size; simp only [World.size_alloc] at sz1; have lj : w.heap.size + 1 < w1.heap.size := (by omega); have lj0 : w.heap.size < w1.heap.size := (by omega); have sh5 : w1.cell? ⟨w.heap.size, 5, none⟩ = some (.int .i64 s5) := hg1.cell (a := ⟨w.heap.size, 5, none⟩) (by simp) (by simp); have j0 : w1.cell? ⟨w.heap.size + 1, 0, none⟩ = some (.int .i64 3) := hg1.cell (a := ⟨w.heap.size + 1, 0, none⟩) (by simp) (by simp); have j1 : w1.cell? ⟨w.heap.size + 1, 1, none⟩ = some (.int .i64 a) := hg1.cell (a := ⟨w.heap.size + 1, 1, none⟩) (by simp) (by simp); clear hg1)
      all_goals go_ret
      all_goals exact ⟨rfl, grown_trans (grown_alloc (grown_alloc (grown_refl _ _) _) _) HG.out⟩
set_option maxHeartbeats 4000000 in
theorem check_shape (w : World) (sh : Shp) (hand : Int) (j : Jb) (h : sh.f < 1 ∨ 64 < sh.f) :
    Calls Try.prog 49 #[sh.val, .int .i64 hand, j.val] w fun e w' => e = .returned (.int .i64 120) ∧ w.grownBy w' none := by
  obtain ⟨s0, s1, s2, s3, s4, s5⟩ := sh
  obtain ⟨kind, a, b, c, hh⟩ := j
  simp only [Shp.val, Jb.val] at h ⊢
  go_enter Try.func49, Try.ntmps49
  go_wp2_with (go_at_call 48; refine (room_bad _ ⟨s0, s1, s2, s3, s4, s5⟩ h).mono ?_; rintro e w1 ⟨rfl, hg1⟩; have HG := hide hg1; clear hg1)
  go_ret
  exact ⟨rfl, grown_trans (grown_alloc (grown_alloc (grown_refl _ _) _) _) HG.out⟩

set_option maxHeartbeats 4000000 in
theorem task1 (w : World) (sh : Shp) (hand a b c hh : Int) (h1 : 1 ≤ sh.f) (h2 : sh.f ≤ 64) (he : eerr sh.f hand ⟨1, a, b, c, hh⟩ = 0) :
    Calls Try.prog 29 #[sh.val, .int .i64 hand, (⟨1, a, b, c, hh⟩ : Jb).val] w fun e w' => ∃ bb, e = .returned (.tuple #[.iface 109 (.pointer (some ⟨bb, 0, none⟩)), .int .i64 0]) ∧
      w'.rowIs bb 111 5 (enC hand 0 false ⟨false, 0⟩) ∧ w.heap.size ≤ bb ∧ w.grownBy w' none := by
  have CK := hide (fun w' : World => check_any w' sh hand ⟨1, a, b, c, hh⟩ h1 h2)
  rw [he] at CK
  clear he
  obtain ⟨s0, s1, s2, s3, s4, s5⟩ := sh
  simp only [Shp.val, Jb.val] at h1 h2 CK ⊢
  go_enter Try.func29, Try.ntmps29
  go_wp2_with (go_at_call 49; refine (CK.out _).mono ?_; rintro e w1 ⟨rfl, hg1⟩; have HG := hide hg1; have sz1 := hg1.size; simp only [World.size_alloc] at sz1; have lj : w.heap.size + 1 < w1.heap.size := (by omega); have lj0 : w.heap.size < w1.heap.size := (by omega); have sh5 : w1.cell? ⟨w.heap.size, 5, none⟩ = some (.int .i64 s5) := hg1.cell (a := ⟨w.heap.size, 5, none⟩) (by simp) (by simp); have j0 : w1.cell? ⟨w.heap.size + 1, 0, none⟩ = some (.int .i64 1) := hg1.cell (a := ⟨w.heap.size + 1, 0, none⟩) (by simp) (by simp); have j1 : w1.cell? ⟨w.heap.size + 1, 1, none⟩ = some (.int .i64 a) := hg1.cell (a := ⟨w.heap.size + 1, 1, none⟩) (by simp) (by simp); clear hg1)
  go_ret2
  refine ⟨w1.heap.size + 1, rfl, ?row, by omega, ?gro⟩
  case row =>
    exact rowIs_new (by simp) #[.int .i64 hand, .bool false, .int .u64 0, .int .u64 0, .bool false] 111 _ 5 rfl (fun i hi => by
      match i, hi with
      | 0, _ | 1, _ | 2, _ | 3, _ | 4, _ => rfl)
  case gro =>
    repeat (first | (with_reducible refine grown_alloc ?_ _) | (with_reducible refine grown_setCell ?_ _ (.inr ?side) _; case side => (simp; omega)))
    exact grown_trans (grown_alloc (grown_alloc (grown_refl _ _) _) _) HG.out

set_option maxHeartbeats 4000000 in
theorem task2 (w : World) (sh : Shp) (hand a b c hh : Int) (h1 : 1 ≤ sh.f) (h2 : sh.f ≤ 64) (he : eerr sh.f hand ⟨2, a, b, c, hh⟩ = 0) :
    Calls Try.prog 29 #[sh.val, .int .i64 hand, (⟨2, a, b, c, hh⟩ : Jb).val] w fun e w' => ∃ bb, e = .returned (.tuple #[.iface 112 (.pointer (some ⟨bb, 0, none⟩)), .int .i64 0]) ∧
      w'.rowIs bb 114 3 (lvC hand ⟨false, 0⟩) ∧ w.heap.size ≤ bb ∧ w.grownBy w' none := by
  have CK := hide (fun w' : World => check_any w' sh hand ⟨2, a, b, c, hh⟩ h1 h2)
  rw [he] at CK
  clear he
  obtain ⟨s0, s1, s2, s3, s4, s5⟩ := sh
  simp only [Shp.val, Jb.val] at h1 h2 CK ⊢
  go_enter Try.func29, Try.ntmps29
  go_wp2_with (go_at_call 49; refine (CK.out _).mono ?_; rintro e w1 ⟨rfl, hg1⟩; have HG := hide hg1; have sz1 := hg1.size; simp only [World.size_alloc] at sz1; have lj : w.heap.size + 1 < w1.heap.size := (by omega); have lj0 : w.heap.size < w1.heap.size := (by omega); have sh5 : w1.cell? ⟨w.heap.size, 5, none⟩ = some (.int .i64 s5) := hg1.cell (a := ⟨w.heap.size, 5, none⟩) (by simp) (by simp); have j0 : w1.cell? ⟨w.heap.size + 1, 0, none⟩ = some (.int .i64 2) := hg1.cell (a := ⟨w.heap.size + 1, 0, none⟩) (by simp) (by simp); have j1 : w1.cell? ⟨w.heap.size + 1, 1, none⟩ = some (.int .i64 a) := hg1.cell (a := ⟨w.heap.size + 1, 1, none⟩) (by simp) (by simp); clear hg1)
  go_ret2
  refine ⟨w1.heap.size + 1, rfl, ?row, by omega, ?gro⟩
  case row =>
    exact rowIs_new (by simp) #[.int .i64 hand, .bool false, .int .u64 0] 114 _ 3 rfl (fun i hi => by
      match i, hi with
      | 0, _ | 1, _ | 2, _ => rfl)
  case gro =>
    repeat (first | (with_reducible refine grown_alloc ?_ _) | (with_reducible refine grown_setCell ?_ _ (.inr ?side) _; case side => (simp; omega)))
    exact grown_trans (grown_alloc (grown_alloc (grown_refl _ _) _) _) HG.out

set_option maxHeartbeats 4000000 in
theorem task3 (w : World) (sh : Shp) (hand a b c hh : Int) (h1 : 1 ≤ sh.f) (h2 : sh.f ≤ 64) (he : eerr sh.f hand ⟨3, a, b, c, hh⟩ = 0) :
    Calls Try.prog 29 #[sh.val, .int .i64 hand, (⟨3, a, b, c, hh⟩ : Jb).val] w fun e w' => ∃ bb, e = .returned (.tuple #[.iface 115 (.pointer (some ⟨bb, 0, none⟩)), .int .i64 0]) ∧
      w'.rowIs bb 117 6 (rtC hand a 0 false ⟨false, 0⟩) ∧ w.heap.size ≤ bb ∧ w.grownBy w' none := by
  have CK := hide (fun w' : World => check_any w' sh hand ⟨3, a, b, c, hh⟩ h1 h2)
  rw [he] at CK
  clear he
  obtain ⟨s0, s1, s2, s3, s4, s5⟩ := sh
  simp only [Shp.val, Jb.val] at h1 h2 CK ⊢
  go_enter Try.func29, Try.ntmps29
  go_wp2_with (go_at_call 49; refine (CK.out _).mono ?_; rintro e w1 ⟨rfl, hg1⟩; have HG := hide hg1; have sz1 := hg1.size; simp only [World.size_alloc] at sz1; have lj : w.heap.size + 1 < w1.heap.size := (by omega); have lj0 : w.heap.size < w1.heap.size := (by omega); have sh5 : w1.cell? ⟨w.heap.size, 5, none⟩ = some (.int .i64 s5) := hg1.cell (a := ⟨w.heap.size, 5, none⟩) (by simp) (by simp); have j0 : w1.cell? ⟨w.heap.size + 1, 0, none⟩ = some (.int .i64 3) := hg1.cell (a := ⟨w.heap.size + 1, 0, none⟩) (by simp) (by simp); have j1 : w1.cell? ⟨w.heap.size + 1, 1, none⟩ = some (.int .i64 a) := hg1.cell (a := ⟨w.heap.size + 1, 1, none⟩) (by simp) (by simp); clear hg1)
  go_ret2
  refine ⟨w1.heap.size + 1, rfl, ?row, by omega, ?gro⟩
  case row =>
    exact rowIs_new (by simp) #[.int .i64 hand, .bool false, .int .u64 0, .int .i64 a, .int .u64 0, .bool false] 117 _ 6 rfl (fun i hi => by
      match i, hi with
      | 0, _ | 1, _ | 2, _ | 3, _ | 4, _ | 5, _ => rfl)
  case gro =>
    repeat (first | (with_reducible refine grown_alloc ?_ _) | (with_reducible refine grown_setCell ?_ _ (.inr ?side) _; case side => (simp; omega)))
    exact grown_trans (grown_alloc (grown_alloc (grown_refl _ _) _) _) HG.out

set_option maxHeartbeats 4000000 in
theorem task4 (w : World) (sh : Shp) (hand a b c hh : Int) (h1 : 1 ≤ sh.f) (h2 : sh.f ≤ 64) (he : eerr sh.f hand ⟨4, a, b, c, hh⟩ = 0) :
    Calls Try.prog 29 #[sh.val, .int .i64 hand, (⟨4, a, b, c, hh⟩ : Jb).val] w fun e w' => ∃ bb, e = .returned (.tuple #[.iface 118 (.pointer (some ⟨bb, 0, none⟩)), .int .i64 0]) ∧
      w'.rowIs bb 120 9 (rpC hand sh.f 0 0 0 0 0 ⟨false, 0⟩) ∧ w.heap.size ≤ bb ∧ w.grownBy w' none := by
  have CK := hide (fun w' : World => check_any w' sh hand ⟨4, a, b, c, hh⟩ h1 h2)
  rw [he] at CK
  clear he
  obtain ⟨s0, s1, s2, s3, s4, s5⟩ := sh
  simp only [Shp.val, Jb.val] at h1 h2 CK ⊢
  go_enter Try.func29, Try.ntmps29
  go_wp2_with (go_at_call 49; refine (CK.out _).mono ?_; rintro e w1 ⟨rfl, hg1⟩; have HG := hide hg1; have sz1 := hg1.size; simp only [World.size_alloc] at sz1; have lj : w.heap.size + 1 < w1.heap.size := (by omega); have lj0 : w.heap.size < w1.heap.size := (by omega); have sh5 : w1.cell? ⟨w.heap.size, 5, none⟩ = some (.int .i64 s5) := hg1.cell (a := ⟨w.heap.size, 5, none⟩) (by simp) (by simp); have j0 : w1.cell? ⟨w.heap.size + 1, 0, none⟩ = some (.int .i64 4) := hg1.cell (a := ⟨w.heap.size + 1, 0, none⟩) (by simp) (by simp); have j1 : w1.cell? ⟨w.heap.size + 1, 1, none⟩ = some (.int .i64 a) := hg1.cell (a := ⟨w.heap.size + 1, 1, none⟩) (by simp) (by simp); clear hg1)
  go_ret2
  refine ⟨w1.heap.size + 1, rfl, ?row, by omega, ?gro⟩
  case row =>
    exact rowIs_new (by simp) #[.int .i64 hand, .bool false, .int .u64 0, .int .i64 s5, .int .i64 0, .int .i64 0, .int .u64 0, .int .u64 0, .int .u64 0] 120 _ 9 rfl (fun i hi => by
      match i, hi with
      | 0, _ | 1, _ | 2, _ | 3, _ | 4, _ | 5, _ | 6, _ | 7, _ | 8, _ => rfl)
  case gro =>
    repeat (first | (with_reducible refine grown_alloc ?_ _) | (with_reducible refine grown_setCell ?_ _ (.inr ?side) _; case side => (simp; omega)))
    exact grown_trans (grown_alloc (grown_alloc (grown_refl _ _) _) _) HG.out

set_option maxHeartbeats 4000000 in
theorem task_no (w : World) (sh : Shp) (hand : Int) (j : Jb) {er : Int} (her : ¬ er = 0) (hc : ∀ w : World, Calls Try.prog 49 #[sh.val, .int .i64 hand, j.val] w fun e w' => e = .returned (.int .i64 er) ∧ w.grownBy w' none) :
    Calls Try.prog 29 #[sh.val, .int .i64 hand, j.val] w fun e w' => e = .returned (.tuple #[.nilIface, .int .i64 er]) ∧ w.grownBy w' none := by
  have CK := hide hc
  have her' : (er != 0) = true := by simpa using her
  obtain ⟨s0, s1, s2, s3, s4, s5⟩ := sh
  obtain ⟨kind, a, b, c, hh⟩ := j
  simp only [Shp.val, Jb.val] at CK ⊢
  clear hc
  go_enter Try.func29, Try.ntmps29
  go_wp2_with (go_at_call 49; refine (CK.out _).mono ?_; rintro e w1 ⟨rfl, hg1⟩; have HG := hide hg1; clear hg1)
  go_ret2
  exact ⟨rfl, grown_trans (grown_alloc (grown_alloc (grown_refl _ _) _) _) HG.out⟩
theorem task_err (w : World) (sh : Shp) (hand : Int) (j : Jb) (h1 : 1 ≤ sh.f) (h2 : sh.f ≤ 64) (h : ¬ eerr sh.f hand j = 0) :
    Calls Try.prog 29 #[sh.val, .int .i64 hand, j.val] w fun e w' => e = .returned (.tuple #[.nilIface, .int .i64 (eerr sh.f hand j)]) ∧ w.grownBy w' none :=
  task_no w sh hand j h (fun w => check_any w sh hand j h1 h2)
theorem task_shape (w : World) (sh : Shp) (hand : Int) (j : Jb) (h : sh.f < 1 ∨ 64 < sh.f) :
    Calls Try.prog 29 #[sh.val, .int .i64 hand, j.val] w fun e w' => e = .returned (.tuple #[.nilIface, .int .i64 120]) ∧ w.grownBy w' none :=
  task_no w sh hand j (by decide) (fun w => check_shape w sh hand j h)

/-- A job that is taken: its task. -/
theorem task_any (w : World) (sh : Shp) (hand : Int) (j : Jb) (h1 : 1 ≤ sh.f) (h2 : sh.f ≤ 64) (he : eerr sh.f hand j = 0) :
    Calls Try.prog 29 #[sh.val, .int .i64 hand, j.val] w fun e w' => ∃ bb, e = .returned (.tuple #[.iface ((kEpoch sh.f).tid j) (.pointer (some ⟨bb, 0, none⟩)), .int .i64 0]) ∧
      w'.rowIs bb ((kEpoch sh.f).t j) ((kEpoch sh.f).n j) (ecell sh.f (einit hand j)) ∧ w.heap.size ≤ bb ∧ w.grownBy w' none := by
  obtain ⟨hk, hh⟩ := eerr_cases he
  obtain ⟨kind, a, b, c, hh'⟩ := j
  have ei : ∀ j, einit hand j = ⟨hand, j, 0, 0, 0, 0, 0, 0, 0, ⟨false, 0⟩⟩ := fun j => by unfold einit; rw [if_pos hh]
  rw [ei]
  simp only at hk
  rcases hk with rfl | rfl | ⟨rfl, _⟩ | rfl
  · exact task1 w sh hand a b c hh' h1 h2 he
  · exact task2 w sh hand a b c hh' h1 h2 he
  · exact task3 w sh hand a b c hh' h1 h2 he
  · exact task4 w sh hand a b c hh' h1 h2 he

/-- What makeTask does with the epoch's maker. -/
theorem makes {w : World} {tb sb : Nat} {sh : Shp} (h1 : 1 ≤ sh.f) (h2 : sh.f ≤ 64) (H : Boxes w tb sb 29 sh) : MakesAt (kEpoch sh.f) (mkOf tb sb) w := by
  intro hand j _ _ hw
  exact ⟨fun he => maker_ok callTask H (fun w1 => task_any w1 sh hand j h1 h2 he), fun he => maker_err callTask H he (fun w1 => task_err w1 sh hand j h1 h2 he)⟩

end Epoch
end Go.Proofs.Ytbohmahjpolapaa
