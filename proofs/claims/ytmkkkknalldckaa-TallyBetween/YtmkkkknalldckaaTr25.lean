/-
  Lemmas: TallyM.
-/
import Derived.Test.YtmkkkknalldckaaTr24
import Derived.Test.YtmkkkknalldckaaTr06
/-
  The tally's Task: what it makes, what it refuses.
-/
namespace Go.Proofs.Ytmkkkknalldckaa
open Go.RowKit
set_option linter.unusedVariables false
set_option linter.unusedSimpArgs false
set_option maxRecDepth 20000

namespace Tally
theorem callTask (args : Array Value) (w : World) : (callFunc 17 args).run Try.prog w = .ok (.enter 17 args) w := by simp [go_sem]

set_option maxHeartbeats 4000000 in
theorem task1 (w : World) (sh : Shp) (hand a b c hh : Int) (h1 : 1 ≤ sh.f) (h2 : sh.f ≤ 64) (ha : 0 ≤ a) (ha2 : a < sh.f) :
    Calls Try.prog 17 #[sh.val, .int .i64 hand, (⟨1, a, b, c, hh⟩ : Jb).val] w fun e w' => ∃ bb, e = .returned (.tuple #[.iface 97 (.pointer (some ⟨bb, 0, none⟩)), .int .i64 0]) ∧
      w'.rowIs bb 99 5 (cntC hand a hh ⟨false, 0⟩) ∧ w.heap.size ≤ bb ∧ w.grownBy w' none := by
  obtain ⟨s0, s1, s2, s3, s4, s5⟩ := sh
  simp only [Shp.val, Jb.val] at h1 h2 ha2 ⊢
  have g1 : ¬ a < 0 := by omega
  have g2 : ¬ s5 ≤ a := by omega
  go_enter Try.func17, Try.ntmps17
  go_wp2_with (go_at_call 20; refine (room_ok _ ⟨s0, s1, s2, s3, s4, s5⟩ h1 h2).mono ?_; rintro e w1 ⟨rfl, hg1⟩; have HG := hide hg1; have sz1 := hg1.size; simp only [World.size_alloc] at sz1; have sh5 : w1.cell? ⟨w.heap.size, 5, none⟩ = some (.int .i64 s5) := hg1.cell (a := ⟨w.heap.size, 5, none⟩) (by simp) (by simp); have j0 : w1.cell? ⟨w.heap.size + 1, 0, none⟩ = some (.int .i64 1) := hg1.cell (a := ⟨w.heap.size + 1, 0, none⟩) (by simp) (by simp); have j1 : w1.cell? ⟨w.heap.size + 1, 1, none⟩ = some (.int .i64 a) := hg1.cell (a := ⟨w.heap.size + 1, 1, none⟩) (by simp) (by simp); have j4 : w1.cell? ⟨w.heap.size + 1, 4, none⟩ = some (.int .u64 hh) := hg1.cell (a := ⟨w.heap.size + 1, 4, none⟩) (by simp) (by simp); clear hg1)
  go_ret2
  refine ⟨w1.heap.size, rfl, ?_, by omega, grown_alloc (grown_trans (grown_alloc (grown_alloc (grown_refl _ _) _) _) HG.out) _⟩
  exact rowIs_cells (w := w1) #[.int .i64 hand, .int .i64 a, .int .u64 hh, .bool false, .int .u64 0] 99 _ 5 rfl (fun i hi => by
      match i, hi with
      | 0, _ | 1, _ | 2, _ | 3, _ | 4, _ => rfl)

set_option maxHeartbeats 4000000 in
theorem task2 (w : World) (sh : Shp) (hand a b c hh : Int) (h1 : 1 ≤ sh.f) (h2 : sh.f ≤ 64)  :
    Calls Try.prog 17 #[sh.val, .int .i64 hand, (⟨2, a, b, c, hh⟩ : Jb).val] w fun e w' => ∃ bb, e = .returned (.tuple #[.iface 94 (.pointer (some ⟨bb, 0, none⟩)), .int .i64 0]) ∧
      w'.rowIs bb 96 6 (sumC hand sh.f 0 0 ⟨false, 0⟩) ∧ w.heap.size ≤ bb ∧ w.grownBy w' none := by
  obtain ⟨s0, s1, s2, s3, s4, s5⟩ := sh
  simp only [Shp.val, Jb.val] at h1 h2  ⊢
  go_enter Try.func17, Try.ntmps17
  go_wp2_with (go_at_call 20; refine (room_ok _ ⟨s0, s1, s2, s3, s4, s5⟩ h1 h2).mono ?_; rintro e w1 ⟨rfl, hg1⟩; have HG := hide hg1; have sz1 := hg1.size; simp only [World.size_alloc] at sz1; have sh5 : w1.cell? ⟨w.heap.size, 5, none⟩ = some (.int .i64 s5) := hg1.cell (a := ⟨w.heap.size, 5, none⟩) (by simp) (by simp); have j0 : w1.cell? ⟨w.heap.size + 1, 0, none⟩ = some (.int .i64 2) := hg1.cell (a := ⟨w.heap.size + 1, 0, none⟩) (by simp) (by simp); have j1 : w1.cell? ⟨w.heap.size + 1, 1, none⟩ = some (.int .i64 a) := hg1.cell (a := ⟨w.heap.size + 1, 1, none⟩) (by simp) (by simp); have j4 : w1.cell? ⟨w.heap.size + 1, 4, none⟩ = some (.int .u64 hh) := hg1.cell (a := ⟨w.heap.size + 1, 4, none⟩) (by simp) (by simp); clear hg1)
  go_ret2
  refine ⟨w1.heap.size, rfl, ?_, by omega, grown_alloc (grown_trans (grown_alloc (grown_alloc (grown_refl _ _) _) _) HG.out) _⟩
  exact rowIs_cells (w := w1) #[.int .i64 hand, .int .i64 s5, .int .i64 0, .int .u64 0, .bool false, .int .u64 0] 96 _ 6 rfl (fun i hi => by
      match i, hi with
      | 0, _ | 1, _ | 2, _ | 3, _ | 4, _ | 5, _ => rfl)

set_option maxHeartbeats 4000000 in
theorem task3 (w : World) (sh : Shp) (hand a b c hh : Int) (h1 : 1 ≤ sh.f) (h2 : sh.f ≤ 64) (ha : 0 ≤ a) (ha2 : a < sh.f) :
    Calls Try.prog 17 #[sh.val, .int .i64 hand, (⟨3, a, b, c, hh⟩ : Jb).val] w fun e w' => ∃ bb, e = .returned (.tuple #[.iface 100 (.pointer (some ⟨bb, 0, none⟩)), .int .i64 0]) ∧
      w'.rowIs bb 102 7 (mstC hand (sh.f + a) hh 0 false ⟨false, 0⟩) ∧ w.heap.size ≤ bb ∧ w.grownBy w' none := by
  obtain ⟨s0, s1, s2, s3, s4, s5⟩ := sh
  simp only [Shp.val, Jb.val] at h1 h2 ha2 ⊢
  have g1 : ¬ a < 0 := by omega
  have g2 : ¬ s5 ≤ a := by omega
  have hwr : wrap64 (s5 + a) = s5 + a := by unfold wrap64; omega
  go_enter Try.func17, Try.ntmps17
  go_wp2_with (go_at_call 20; refine (room_ok _ ⟨s0, s1, s2, s3, s4, s5⟩ h1 h2).mono ?_; rintro e w1 ⟨rfl, hg1⟩; have HG := hide hg1; have sz1 := hg1.size; simp only [World.size_alloc] at sz1; have sh5 : w1.cell? ⟨w.heap.size, 5, none⟩ = some (.int .i64 s5) := hg1.cell (a := ⟨w.heap.size, 5, none⟩) (by simp) (by simp); have j0 : w1.cell? ⟨w.heap.size + 1, 0, none⟩ = some (.int .i64 3) := hg1.cell (a := ⟨w.heap.size + 1, 0, none⟩) (by simp) (by simp); have j1 : w1.cell? ⟨w.heap.size + 1, 1, none⟩ = some (.int .i64 a) := hg1.cell (a := ⟨w.heap.size + 1, 1, none⟩) (by simp) (by simp); have j4 : w1.cell? ⟨w.heap.size + 1, 4, none⟩ = some (.int .u64 hh) := hg1.cell (a := ⟨w.heap.size + 1, 4, none⟩) (by simp) (by simp); clear hg1)
  go_ret2
  refine ⟨w1.heap.size, rfl, ?_, by omega, grown_alloc (grown_trans (grown_alloc (grown_alloc (grown_refl _ _) _) _) HG.out) _⟩
  exact rowIs_cells (w := w1) #[.int .i64 hand, .int .i64 (s5 + a), .int .u64 hh, .int .u64 0, .bool false, .bool false, .int .u64 0] 102 _ 7 rfl (fun i hi => by
      match i, hi with
      | 0, _ | 1, _ | 2, _ | 3, _ | 4, _ | 5, _ | 6, _ => rfl)

set_option maxHeartbeats 4000000 in
theorem task_err (w : World) (sh : Shp) (hand : Int) (j : Jb) (h1 : 1 ≤ sh.f) (h2 : sh.f ≤ 64) (h : ¬ terr sh.f j = 0) :
    Calls Try.prog 17 #[sh.val, .int .i64 hand, j.val] w fun e w' => e = .returned (.tuple #[.nilIface, .int .i64 (terr sh.f j)]) ∧ w.grownBy w' none := by
  obtain ⟨s0, s1, s2, s3, s4, s5⟩ := sh
  obtain ⟨kind, a, b, c, hh⟩ := j
  simp only [Shp.val, Jb.val] at h1 h2 h ⊢
  obtain ⟨er, hk⟩ : ∃ er, terr s5 ⟨kind, a, b, c, hh⟩ = er ∧ ((kind < 1 ∧ er = 200) ∨ (¬ kind < 1 ∧ 3 < kind ∧ er = 200) ∨ (¬ kind < 1 ∧ ¬ 3 < kind ∧ ¬ kind = 2 ∧ a < 0 ∧ er = 2) ∨ (¬ kind < 1 ∧ ¬ 3 < kind ∧ ¬ kind = 2 ∧ ¬ a < 0 ∧ s5 ≤ a ∧ er = 2)) := ⟨_, rfl, by
    simp only [terr] at h ⊢
    by_cases c1 : kind < 1
    · rw [if_pos (.inl c1)]; exact .inl ⟨c1, rfl⟩
    · by_cases c2 : 3 < kind
      · rw [if_pos (.inr c2)]; exact .inr (.inl ⟨c1, c2, rfl⟩)
      · rw [if_neg (by omega)] at h ⊢
        by_cases c3 : kind = 2
        · rw [if_pos c3] at h; exact absurd rfl h
        · rw [if_neg c3] at h ⊢
          by_cases c4 : a < 0
          · rw [if_pos (.inl c4)]; exact .inr (.inr (.inl ⟨c1, c2, c3, c4, rfl⟩))
          · by_cases c5 : s5 ≤ a
            · rw [if_pos (.inr c5)]; exact .inr (.inr (.inr ⟨c1, c2, c3, c4, c5, rfl⟩))
            · rw [if_neg (by omega)] at h; exact absurd rfl h⟩
  rw [hk.1]
  replace hk := hk.2
  clear h
  rcases hk with ⟨k1, rfl⟩ | ⟨k1, k2, rfl⟩ | ⟨k1, k2, k3, k4, rfl⟩ | ⟨k1, k2, k3, k4, k5, rfl⟩
  all_goals go_enter Try.func17, Try.ntmps17
  all_goals go_wp2_with (go_at_call 20; refine (room_ok _ ⟨s0, s1, s2, s3, s4, s5⟩ h1 h2).mono ?_; rintro e w1 ⟨rfl, hg1⟩; have HG := hide hg1; have sz1 := hg1.size; simp only [World.size_alloc] at sz1; have sh5 : w1.cell? ⟨w.heap.size, 5, none⟩ = some (.int .i64 s5) := hg1.cell (a := ⟨w.heap.size, 5, none⟩) (by simp) (by simp); have j0 : w1.cell? ⟨w.heap.size + 1, 0, none⟩ = some (.int .i64 kind) := hg1.cell (a := ⟨w.heap.size + 1, 0, none⟩) (by simp) (by simp); have j1 : w1.cell? ⟨w.heap.size + 1, 1, none⟩ = some (.int .i64 a) := hg1.cell (a := ⟨w.heap.size + 1, 1, none⟩) (by simp) (by simp); have j4 : w1.cell? ⟨w.heap.size + 1, 4, none⟩ = some (.int .u64 hh) := hg1.cell (a := ⟨w.heap.size + 1, 4, none⟩) (by simp) (by simp); clear hg1)
  all_goals go_ret2
  all_goals exact ⟨rfl, grown_trans (grown_alloc (grown_alloc (grown_refl _ _) _) _) HG.out⟩
set_option maxHeartbeats 4000000 in
theorem task_shape (w : World) (sh : Shp) (hand : Int) (j : Jb) (h : sh.f < 1 ∨ 64 < sh.f) :
    Calls Try.prog 17 #[sh.val, .int .i64 hand, j.val] w fun e w' => e = .returned (.tuple #[.nilIface, .int .i64 120]) ∧ w.grownBy w' none := by
  obtain ⟨s0, s1, s2, s3, s4, s5⟩ := sh
  obtain ⟨kind, a, b, c, hh⟩ := j
  simp only [Shp.val, Jb.val] at h ⊢
  go_enter Try.func17, Try.ntmps17
  go_wp2_with (go_at_call 20; refine (room_bad _ ⟨s0, s1, s2, s3, s4, s5⟩ h).mono ?_; rintro e w1 ⟨rfl, hg1⟩; have HG := hide hg1; clear hg1)
  go_ret2
  exact ⟨rfl, grown_trans (grown_alloc (grown_alloc (grown_refl _ _) _) _) HG.out⟩

/-- What makeTask does with the tally's maker. -/
theorem makes {w : World} {tb sb : Nat} {sh : Shp} (h1 : 1 ≤ sh.f) (h2 : sh.f ≤ 64) (H : Boxes w tb sb 17 sh) : MakesAt (kTally sh.f) (mkOf tb sb) w := by
  intro hand j _ _ hw
  refine ⟨fun he => ?_, fun he => maker_err callTask H he (fun w1 => task_err w1 sh hand j h1 h2 he)⟩
  obtain ⟨kind, a, b, c, hh⟩ := j
  rcases fine_cases (room := sh.f) ⟨hw, 0, he⟩ with ⟨hk, ha, ha2⟩ | hk | ⟨hk, ha, ha2⟩
  · obtain rfl : kind = 1 := hk
    have e6 : tcell sh.f ⟨hand, ⟨1, a, b, c, hh⟩, 0, 0, ⟨false, 0⟩⟩ = cntC hand a hh ⟨false, 0⟩ := by simp [tcell]
    have := maker_ok callTask H (fun w1 => task1 w1 sh hand a b c hh h1 h2 ha ha2)
    rw [← e6] at this
    exact this
  · obtain rfl : kind = 2 := hk
    have e6 : tcell sh.f ⟨hand, ⟨2, a, b, c, hh⟩, 0, 0, ⟨false, 0⟩⟩ = sumC hand sh.f 0 0 ⟨false, 0⟩ := by simp [tcell]
    have := maker_ok callTask H (fun w1 => task2 w1 sh hand a b c hh h1 h2)
    rw [← e6] at this
    exact this
  · obtain rfl : kind = 3 := hk
    have e6 : tcell sh.f ⟨hand, ⟨3, a, b, c, hh⟩, 0, 0, ⟨false, 0⟩⟩ = mstC hand (sh.f + a) hh 0 false ⟨false, 0⟩ := by simp [tcell]
    have := maker_ok callTask H (fun w1 => task3 w1 sh hand a b c hh h1 h2 ha ha2)
    rw [← e6] at this
    exact this
end Tally
end Go.Proofs.Ytmkkkknalldckaa
