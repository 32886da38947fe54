/-
  Lemmas: OnceM.
-/
import Derived.Test.YtdflicgjkleonaaTs05
import Derived.Test.YtdflicgjkleonaaTp18
set_option linter.unusedVariables false
set_option linter.unusedSimpArgs false
set_option maxRecDepth 20000
namespace Go.Proofs.Ytdflicgjkleonaa
open Go.RowKit
namespace Once
theorem callTask (args : Array Value) (w : World) : (callFunc 46 args).run Try.prog w = .ok (.enter 46 args) w := by simp [go_sem]

set_option maxHeartbeats 4000000 in
theorem new_task (w : World) (room hand kind a b c hh : Int) (h1 : -64 ≤ room + a) (h2 : room + a ≤ 200) :
    Calls Try.prog 58 #[.int .i64 room, .int .i64 hand, .agg #[.int .i64 kind, .int .i64 a, .int .i64 b, .int .i64 c, .int .u64 hh]] w fun e w' => ∃ bb, e = .returned (.pointer (some ⟨bb, 0, none⟩)) ∧
      w'.rowIs bb 159 7 (onC hand kind a (room + a) (if kind = 3 then 5 else 1) ⟨false, 0⟩) ∧ w.heap.size ≤ bb ∧ w.grownBy w' none := by
  have hwr : wrap64 (room + a) = room + a := by unfold wrap64; omega
  have row := hide (rowIs_cells (w := w.alloc (.cells #[.int .i64 kind, .int .i64 a, .int .i64 b, .int .i64 c, .int .u64 hh] 44)) #[.int .i64 hand, .int .i64 kind, .int .i64 a, .int .i64 (room + a), .int .i64 1, .bool false, .int .u64 0] 159 (onC hand kind a (room + a) 1 ⟨false, 0⟩) 7 rfl (fun i hi => by
      match i, hi with
      | 0, _ | 1, _ | 2, _ | 3, _ | 4, _ | 5, _ | 6, _ => rfl))
  simp only [World.size_alloc] at row
  have row3 := hide (rowIs_cells (w := w.alloc (.cells #[.int .i64 kind, .int .i64 a, .int .i64 b, .int .i64 c, .int .u64 hh] 44)) #[.int .i64 hand, .int .i64 kind, .int .i64 a, .int .i64 (room + a), .int .i64 5, .bool false, .int .u64 0] 159 (onC hand kind a (room + a) 5 ⟨false, 0⟩) 7 rfl (fun i hi => by
      match i, hi with
      | 0, _ | 1, _ | 2, _ | 3, _ | 4, _ | 5, _ | 6, _ => rfl))
  simp only [World.size_alloc] at row3
  by_cases k3 : kind = 3
  · subst k3
    rw [if_pos rfl]
    go_enter Try.func58, Try.ntmps58
    go_wp2
    go_ret
    exact ⟨w.heap.size + 1, rfl, by first | exact row3.out | simpa using row3.out, by omega, grown_alloc (grown_alloc (grown_refl _ _) _) _⟩
  · rw [if_neg k3]
    go_enter Try.func58, Try.ntmps58
    go_wp2
    go_ret
    exact ⟨w.heap.size + 1, rfl, by first | exact row.out | simpa using row.out, by omega, grown_alloc (grown_alloc (grown_refl _ _) _) _⟩

set_option maxHeartbeats 4000000 in
theorem task_ok (w : World) (sh : Shp) (hand : Int) (j : Jb) (h1 : 1 ≤ sh.f) (h2 : sh.f ≤ 64) (h : oerr sh.f j = 0) :
    Calls Try.prog 46 #[sh.val, .int .i64 hand, j.val] w fun e w' => ∃ bb, e = .returned (.tuple #[.iface 143 (.pointer (some ⟨bb, 0, none⟩)), .int .i64 0]) ∧
      w'.rowIs bb 159 7 (onC hand j.kind j.a (sh.f + j.a) (if j.kind = 3 then 5 else 1) ⟨false, 0⟩) ∧ w.heap.size ≤ bb ∧ w.grownBy w' none := by
  obtain ⟨s0, s1, s2, s3, s4, s5⟩ := sh
  obtain ⟨kind, a, b, c, hh⟩ := j
  simp only [Shp.val, Jb.val] at h1 h2 h ⊢
  have hk : ¬ kind < 1 ∧ ¬ 3 < kind ∧ ¬ a < 0 ∧ ¬ s5 ≤ a := by
    simp only [oerr] at h
    split at h
    · cases h
    · split at h
      · cases h
      · omega
  obtain ⟨k1, k2, k3, k4⟩ := hk
  clear h
  obtain ⟨ln, hln⟩ : ∃ ln, (if kind = 3 then (5 : Int) else 1) = ln := ⟨_, rfl⟩
  rw [hln]
  have HLN := hide hln
  clear hln
  go_enter Try.func46, Try.ntmps46
  go_wp2_with (first | (go_at_call 37; refine (room_ok _ ⟨s0, s1, s2, s3, s4, s5⟩ h1 h2).mono ?_; rintro e w1 ⟨rfl, hg1⟩; have HG := hide hg1; have sz1 := hg1.size; simp only [World.size_alloc] at sz1; have sh5 : w1.cell? ⟨w.heap.size, 5, none⟩ = some (.int .i64 s5) := hg1.cell (a := ⟨w.heap.size, 5, none⟩) (by simp) (by simp); have j0 : w1.cell? ⟨w.heap.size + 1, 0, none⟩ = some (.int .i64 kind) := hg1.cell (a := ⟨w.heap.size + 1, 0, none⟩) (by simp) (by simp); have j1 : w1.cell? ⟨w.heap.size + 1, 1, none⟩ = some (.int .i64 a) := hg1.cell (a := ⟨w.heap.size + 1, 1, none⟩) (by simp) (by simp); have j2 : w1.cell? ⟨w.heap.size + 1, 2, none⟩ = some (.int .i64 b) := hg1.cell (a := ⟨w.heap.size + 1, 2, none⟩) (by simp) (by simp); have j3 : w1.cell? ⟨w.heap.size + 1, 3, none⟩ = some (.int .i64 c) := hg1.cell (a := ⟨w.heap.size + 1, 3, none⟩) (by simp) (by simp); have j4 : w1.cell? ⟨w.heap.size + 1, 4, none⟩ = some (.int .u64 hh) := hg1.cell (a := ⟨w.heap.size + 1, 4, none⟩) (by simp) (by simp); clear hg1) | (go_at_call 58; refine (new_task _ s5 hand kind a b c hh (by omega) (by omega)).mono ?_; rintro e w2 ⟨bb, rfl, hr2, hb2, hg2⟩; rw [HLN.out] at hr2; have HR := hide (And.intro hr2 (And.intro hb2 hg2)); clear hr2 hb2 hg2))
  go_ret2
  refine ⟨bb, rfl, HR.out.1, by have := HR.out.2.1; omega, grown_trans (grown_trans (grown_alloc (grown_alloc (grown_refl _ _) _) _) HG.out) HR.out.2.2⟩
set_option maxHeartbeats 4000000 in
theorem task_err (w : World) (sh : Shp) (hand : Int) (j : Jb) (h1 : 1 ≤ sh.f) (h2 : sh.f ≤ 64) (h : ¬ oerr sh.f j = 0) :
    Calls Try.prog 46 #[sh.val, .int .i64 hand, j.val] w fun e w' => e = .returned (.tuple #[.nilIface, .int .i64 (oerr sh.f j)]) ∧ w.grownBy w' none := by
  obtain ⟨s0, s1, s2, s3, s4, s5⟩ := sh
  obtain ⟨kind, a, b, c, hh⟩ := j
  simp only [Shp.val, Jb.val] at h1 h2 h ⊢
  obtain ⟨er, hk⟩ : ∃ er, oerr s5 ⟨kind, a, b, c, hh⟩ = er ∧ ((kind < 1 ∧ er = 200) ∨ (¬ kind < 1 ∧ 3 < kind ∧ er = 200) ∨ (¬ kind < 1 ∧ ¬ 3 < kind ∧ a < 0 ∧ er = 2) ∨ (¬ kind < 1 ∧ ¬ 3 < kind ∧ ¬ a < 0 ∧ s5 ≤ a ∧ er = 2)) := ⟨_, rfl, by
    simp only [oerr] at h ⊢
    by_cases c1 : kind < 1
    · rw [if_pos (.inl c1)]; exact .inl ⟨c1, rfl⟩
    · by_cases c2 : 3 < kind
      · rw [if_pos (.inr c2)]; exact .inr (.inl ⟨c1, c2, rfl⟩)
      · rw [if_neg (by omega)] at h ⊢
        by_cases c4 : a < 0
        · rw [if_pos (.inl c4)]; exact .inr (.inr (.inl ⟨c1, c2, c4, rfl⟩))
        · by_cases c5 : s5 ≤ a
          · rw [if_pos (.inr c5)]; exact .inr (.inr (.inr ⟨c1, c2, c4, c5, rfl⟩))
          · rw [if_neg (by omega)] at h; exact absurd rfl h⟩
  rw [hk.1]
  replace hk := hk.2
  clear h
  rcases hk with ⟨k1, rfl⟩ | ⟨k1, k2, rfl⟩ | ⟨k1, k2, k4, rfl⟩ | ⟨k1, k2, k4, k5, rfl⟩
  all_goals go_enter Try.func46, Try.ntmps46
  all_goals go_wp2_with (go_at_call 37; refine (room_ok _ ⟨s0, s1, s2, s3, s4, s5⟩ h1 h2).mono ?_; rintro e w1 ⟨rfl, hg1⟩; have HG := hide hg1; have sz1 := hg1.size; simp only [World.size_alloc] at sz1; have sh5 : w1.cell? ⟨w.heap.size, 5, none⟩ = some (.int .i64 s5) := hg1.cell (a := ⟨w.heap.size, 5, none⟩) (by simp) (by simp); have j0 : w1.cell? ⟨w.heap.size + 1, 0, none⟩ = some (.int .i64 kind) := hg1.cell (a := ⟨w.heap.size + 1, 0, none⟩) (by simp) (by simp); have j1 : w1.cell? ⟨w.heap.size + 1, 1, none⟩ = some (.int .i64 a) := hg1.cell (a := ⟨w.heap.size + 1, 1, none⟩) (by simp) (by simp); have j2 : w1.cell? ⟨w.heap.size + 1, 2, none⟩ = some (.int .i64 b) := hg1.cell (a := ⟨w.heap.size + 1, 2, none⟩) (by simp) (by simp); have j3 : w1.cell? ⟨w.heap.size + 1, 3, none⟩ = some (.int .i64 c) := hg1.cell (a := ⟨w.heap.size + 1, 3, none⟩) (by simp) (by simp); have j4 : w1.cell? ⟨w.heap.size + 1, 4, none⟩ = some (.int .u64 hh) := hg1.cell (a := ⟨w.heap.size + 1, 4, none⟩) (by simp) (by simp); clear hg1)
  all_goals go_ret2
  all_goals exact ⟨rfl, grown_trans (grown_alloc (grown_alloc (grown_refl _ _) _) _) HG.out⟩
set_option maxHeartbeats 4000000 in
theorem task_shape (w : World) (sh : Shp) (hand : Int) (j : Jb) (h : sh.f < 1 ∨ 64 < sh.f) :
    Calls Try.prog 46 #[sh.val, .int .i64 hand, j.val] w fun e w' => e = .returned (.tuple #[.nilIface, .int .i64 120]) ∧ w.grownBy w' none := by
  obtain ⟨s0, s1, s2, s3, s4, s5⟩ := sh
  obtain ⟨kind, a, b, c, hh⟩ := j
  simp only [Shp.val, Jb.val] at h ⊢
  go_enter Try.func46, Try.ntmps46
  go_wp2_with (go_at_call 37; refine (room_bad _ ⟨s0, s1, s2, s3, s4, s5⟩ h).mono ?_; rintro e w1 ⟨rfl, hg1⟩; have HG := hide hg1; clear hg1)
  go_ret2
  exact ⟨rfl, grown_trans (grown_alloc (grown_alloc (grown_refl _ _) _) _) HG.out⟩

/-- What makeTask does with once's maker. -/
theorem makes {w : World} {tb sb : Nat} {sh : Shp} (h1 : 1 ≤ sh.f) (h2 : sh.f ≤ 64) (H : Boxes w tb sb 46 sh) : MakesAt (kOnce sh.f) (mkOf tb sb) w := by
  intro hand j _ _ hw
  refine ⟨fun he => ?_, fun he => maker_err callTask H he (fun w1 => task_err w1 sh hand j h1 h2 he)⟩
  exact maker_ok callTask H (fun w1 => task_ok w1 sh hand j h1 h2 he)
end Once
end Go.Proofs.Ytdflicgjkleonaa
