/-
  OnceTasks: whatever shape, hand and job are handed in, once's Size, Fresh and Task tell the reference's numbers and errors, the fresh words are zeros, and a task is there just where there is no error: the law answers true, and the input reads as it did. No condition beyond the row's.
-/
import Derived.Test.YtpghfebnggoacaaOn02
import Derived.Test.YtpghfebnggoacaaTp24
import Derived.Test.YtpghfebnggoacaaOn03
import Derived.Test.YtpghfebnggoacaaTp29
import Derived.Test.YtpghfebnggoacaaTp10
/-
  Once's reference: Size and Start.
-/
namespace Go.Proofs.Ytpghfebnggoacaa
open Go.RowKit
set_option linter.unusedVariables false
set_option linter.unusedSimpArgs false
set_option linter.unnecessarySimpa false
set_option maxRecDepth 20000
namespace Once

theorem rsize_ok (w : World) (sh : Shp) (h1 : 1 ≤ sh.f) (h2 : sh.f ≤ 64) : Calls Try.prog 19 #[sh.val] w fun e w' => e = .returned (.tuple #[.int .i64 (2 * sh.f), .int .i64 0]) ∧ w.grownBy w' none := by
  obtain ⟨s0, s1, s2, s3, s4, s5⟩ := sh
  simp only [Shp.val] at h1 h2 ⊢
  have g1 : ¬ s5 < 1 := by omega
  have g2 : ¬ 64 < s5 := by omega
  have g3 : wrap64 (2 * s5) = 2 * s5 := by unfold wrap64; omega
  go_enter Try.func19, Try.ntmps19
  go_wp2
  go_ret2
  exact ⟨rfl, grown_alloc (grown_refl _ _) _⟩
theorem rsize_bad (w : World) (sh : Shp) (h : sh.f < 1 ∨ 64 < sh.f) : Calls Try.prog 19 #[sh.val] w fun e w' => e = .returned (.tuple #[.int .i64 0, .int .i64 120]) ∧ w.grownBy w' none := by
  obtain ⟨s0, s1, s2, s3, s4, s5⟩ := sh
  simp only [Shp.val] at h ⊢
  by_cases g1 : s5 < 1
  · go_enter Try.func19, Try.ntmps19
    go_wp2
    go_ret2
    exact ⟨rfl, grown_alloc (grown_refl _ _) _⟩
  · have g2 : 64 < s5 := by omega
    go_enter Try.func19, Try.ntmps19
    go_wp2
    go_ret2
    exact ⟨rfl, grown_alloc (grown_refl _ _) _⟩

set_option maxHeartbeats 4000000 in
theorem rstart_ok (w : World) (s0 s1 s2 s3 s4 s5 hand kind a b c hh : Int) (h1 : 1 ≤ s5) (h2 : s5 ≤ 64) (k1 : ¬ kind < 1) (k2 : ¬ 3 < kind) (k4 : ¬ a < 0) (k5 : ¬ s5 ≤ a) :
    Calls Try.prog 22 #[.agg #[.int .i64 s0, .int .i64 s1, .int .i64 s2, .int .i64 s3, .int .i64 s4, .int .i64 s5], .int .i64 hand, .agg #[.int .i64 kind, .int .i64 a, .int .i64 b, .int .i64 c, .int .u64 hh], .agg #[.int .u64 0, .int .u64 0, .int .u64 0, .int .u64 0]] w fun e w' => e = .returned (.tuple #[.agg (tk ⟨s0, s1, s2, s3, s4, s5⟩ hand ⟨kind, a, b, c, hh⟩ 0 .zero ⟨false, 0⟩).toArray, .int .i64 0]) ∧ Below w.heap.size w w' := by
  obtain ⟨l, hl⟩ : ∃ l, tk ⟨s0, s1, s2, s3, s4, s5⟩ hand ⟨kind, a, b, c, hh⟩ 0 .zero ⟨false, 0⟩ = l := ⟨_, rfl⟩
  rw [hl]
  have hl1 := hide (show IsTk l from by rw [← hl]; exact tk_is _ _ _ _ _ _)
  have HLA := hide (show Value.agg #[.int .i64 s0, .int .i64 s1, .int .i64 s2, .int .i64 s3, .int .i64 s4, .int .i64 s5, .int .i64 hand, .int .i64 kind, .int .i64 a, .int .i64 b, .int .i64 c, .int .u64 hh, .int .i64 0, .int .u64 0, .int .u64 0, .int .u64 0, .int .u64 0, .int .u64 0, .int .u64 0, .int .u64 0, .int .u64 0, .slice none 0 0, .bool false, .int .u64 0, .int .u64 0, .int .u64 0, .int .u64 0, .int .u64 0] = .agg l.toArray from by rw [← hl]; rfl)
  obtain ⟨W4, hW4⟩ : ∃ W4, (((w.alloc (.cells #[.int .i64 s0, .int .i64 s1, .int .i64 s2, .int .i64 s3, .int .i64 s4, .int .i64 s5] 23)).alloc (.cells #[.int .i64 kind, .int .i64 a, .int .i64 b, .int .i64 c, .int .u64 hh] 49)).alloc (.cells #[.int .u64 0, .int .u64 0, .int .u64 0, .int .u64 0] 60)).alloc (.cells #[.int .i64 0, .int .i64 0, .int .i64 0, .int .i64 0, .int .i64 0, .int .i64 0, .int .i64 0, .int .i64 0, .int .i64 0, .int .i64 0, .int .i64 0, .int .u64 0, .int .i64 0, .int .u64 0, .int .u64 0, .int .u64 0, .int .u64 0, .int .u64 0, .int .u64 0, .int .u64 0, .int .u64 0, .slice none 0 0, .bool false, .int .u64 0, .int .u64 0, .int .u64 0, .int .u64 0, .int .u64 0] 62) = W4 := ⟨_, rfl⟩
  have th : W4.there (w.heap.size + 3) 0 28 := by
    rw [← hW4]
    have := there_alloc_new (w := (((w.alloc (.cells #[.int .i64 s0, .int .i64 s1, .int .i64 s2, .int .i64 s3, .int .i64 s4, .int .i64 s5] 23)).alloc (.cells #[.int .i64 kind, .int .i64 a, .int .i64 b, .int .i64 c, .int .u64 hh] 49)).alloc (.cells #[.int .u64 0, .int .u64 0, .int .u64 0, .int .u64 0] 60))) (t := 62) (cs := tk0)
    simpa [tk0] using this
  have sz4 : W4.heap.size = w.heap.size + 4 := by rw [← hW4]; simp
  have B4 := hide (show Below w.heap.size w W4 from by rw [← hW4]; exact ((((Below.refl _ w).alloc (Nat.le_refl _) _).alloc (by simp) _).alloc (by simp; omega) _).alloc (by simp; omega) _)
  have r0 : W4.rangeAt w.heap.size 0 [.int .i64 s0, .int .i64 s1, .int .i64 s2, .int .i64 s3, .int .i64 s4, .int .i64 s5] := by rw [← hW4]; exact World.rangeAt_alloc (World.rangeAt_alloc (World.rangeAt_alloc (cell_range (b := 0)) _) _) _
  have r1 : W4.rangeAt (w.heap.size + 1) 0 [.int .i64 kind, .int .i64 a, .int .i64 b, .int .i64 c, .int .u64 hh] := by
    rw [← hW4]
    have := cell_range (b := 0) (w := w.alloc (.cells #[.int .i64 s0, .int .i64 s1, .int .i64 s2, .int .i64 s3, .int .i64 s4, .int .i64 s5] 23)) (t := 49) (cs := [.int .i64 kind, .int .i64 a, .int .i64 b, .int .i64 c, .int .u64 hh])
    rw [World.size_alloc] at this
    exact World.rangeAt_alloc (World.rangeAt_alloc this _) _
  have HR0 := hide r0
  have HR1 := hide r1
  have HTH := hide th
  have g := fun i v hv => r0 i v hv
  simp only [Nat.zero_add] at g
  have q0 := g 0 _ rfl
  have q1 := g 1 _ rfl
  have q2 := g 2 _ rfl
  have q3 := g 3 _ rfl
  have q4 := g 4 _ rfl
  have q5 := g 5 _ rfl
  clear g r0 r1 th
  obtain ⟨dT, hdT1, hdT2⟩ := row79
  have DT1 := hide hdT1
  have DT2 := hide hdT2
  clear hdT1 hdT2 hl
  · skip
    go_enter Try.func22, Try.ntmps22
    go_wp2_with (first
      | (go_at_call 19; refine (rsize_ok _ ⟨s0, s1, s2, s3, s4, s5⟩ h1 h2).mono ?_; rintro e w1 ⟨rfl, hg⟩; have HB := hide (below_of_grown_none hg W4.heap.size (Nat.le_refl _)); have t0 := rangeAt_block HR0.out (HB.out.block w.heap.size (by omega)); have t1 := rangeAt_block HR1.out (HB.out.block (w.heap.size + 1) (by omega)); have g := (fun i v hv => t0 i v hv); have g' := (fun i v hv => t1 i v hv); simp only [Nat.zero_add] at g g'; have c0 := g 0 _ rfl; have c1 := g 1 _ rfl; have c2 := g 2 _ rfl; have c3 := g 3 _ rfl; have c4 := g 4 _ rfl; have c5 := g 5 _ rfl; have d0 := g' 0 _ rfl;  have d1 := g' 1 _ rfl;  have d2 := g' 2 _ rfl;  have d3 := g' 3 _ rfl;  have d4 := g' 4 _ rfl; have HT1 := hide (there_block HTH.out (HB.out.block (w.heap.size + 3) (by omega))); clear g g' t0 t1 hg)
      | (refine wpList_store_mid (by rfl) 62 (.tmp 8) (.tmp 44) (by rfl) (w.heap.size + 3) 0 l.toArray (by rfl) (by exact HLA.out) (by simpa [hl1.out.1] using HT1.out) (by simpa [hl1.out.1] using size79) (by exact all_oneCell_toArray hl1.out.2) ?_))
    have r5 := World.rangeAt_setCells_same w1 (w.heap.size + 3) 0 l (by rw [hl1.out.1]; exact HT1.out)
    refine bodyPost_ret (v := .tuple #[.agg l.toArray, .int .i64 0]) ?res rfl ⟨rfl, ?bel⟩
    case res => exact results_ct (fn := Try.f22) (t := 8) (t' := 9) (by rfl) (by rfl) (run_loadVar_mid _ _ 0 _ l dT r5 DT1.out DT2.out (by rw [hl1.out.1]; exact size79))
    case bel => exact (B4.out.trans (HB.out.mono (by omega))).trans ((touch_setCells (w.heap.size + 3) l 0 w1).below (fun k hk => by omega) (by have := HB.out.size; omega))

set_option maxHeartbeats 4000000 in
theorem rstart_kind (w : World) (s0 s1 s2 s3 s4 s5 hand kind a b c hh : Int) (h1 : 1 ≤ s5) (h2 : s5 ≤ 64) (hk : kind < 1 ∨ (¬ kind < 1 ∧ 3 < kind)) :
    Calls Try.prog 22 #[.agg #[.int .i64 s0, .int .i64 s1, .int .i64 s2, .int .i64 s3, .int .i64 s4, .int .i64 s5], .int .i64 hand, .agg #[.int .i64 kind, .int .i64 a, .int .i64 b, .int .i64 c, .int .u64 hh], .agg #[.int .u64 0, .int .u64 0, .int .u64 0, .int .u64 0]] w fun e w' => e = .returned (.tuple #[.agg (tk0).toArray, .int .i64 200]) ∧ Below w.heap.size w w' := by
  obtain ⟨l, hl⟩ : ∃ l, tk0 = l := ⟨_, rfl⟩
  rw [hl]
  have hl1 := hide (show IsTk l from by rw [← hl]; exact tk0_is)
  have HLA := hide (show Value.agg #[.int .i64 0, .int .i64 0, .int .i64 0, .int .i64 0, .int .i64 0, .int .i64 0, .int .i64 0, .int .i64 0, .int .i64 0, .int .i64 0, .int .i64 0, .int .u64 0, .int .i64 0, .int .u64 0, .int .u64 0, .int .u64 0, .int .u64 0, .int .u64 0, .int .u64 0, .int .u64 0, .int .u64 0, .slice none 0 0, .bool false, .int .u64 0, .int .u64 0, .int .u64 0, .int .u64 0, .int .u64 0] = .agg l.toArray from by rw [← hl]; rfl)
  obtain ⟨W4, hW4⟩ : ∃ W4, (((w.alloc (.cells #[.int .i64 s0, .int .i64 s1, .int .i64 s2, .int .i64 s3, .int .i64 s4, .int .i64 s5] 23)).alloc (.cells #[.int .i64 kind, .int .i64 a, .int .i64 b, .int .i64 c, .int .u64 hh] 49)).alloc (.cells #[.int .u64 0, .int .u64 0, .int .u64 0, .int .u64 0] 60)).alloc (.cells #[.int .i64 0, .int .i64 0, .int .i64 0, .int .i64 0, .int .i64 0, .int .i64 0, .int .i64 0, .int .i64 0, .int .i64 0, .int .i64 0, .int .i64 0, .int .u64 0, .int .i64 0, .int .u64 0, .int .u64 0, .int .u64 0, .int .u64 0, .int .u64 0, .int .u64 0, .int .u64 0, .int .u64 0, .slice none 0 0, .bool false, .int .u64 0, .int .u64 0, .int .u64 0, .int .u64 0, .int .u64 0] 62) = W4 := ⟨_, rfl⟩
  have th : W4.there (w.heap.size + 3) 0 28 := by
    rw [← hW4]
    have := there_alloc_new (w := (((w.alloc (.cells #[.int .i64 s0, .int .i64 s1, .int .i64 s2, .int .i64 s3, .int .i64 s4, .int .i64 s5] 23)).alloc (.cells #[.int .i64 kind, .int .i64 a, .int .i64 b, .int .i64 c, .int .u64 hh] 49)).alloc (.cells #[.int .u64 0, .int .u64 0, .int .u64 0, .int .u64 0] 60))) (t := 62) (cs := tk0)
    simpa [tk0] using this
  have sz4 : W4.heap.size = w.heap.size + 4 := by rw [← hW4]; simp
  have B4 := hide (show Below w.heap.size w W4 from by rw [← hW4]; exact ((((Below.refl _ w).alloc (Nat.le_refl _) _).alloc (by simp) _).alloc (by simp; omega) _).alloc (by simp; omega) _)
  have r0 : W4.rangeAt w.heap.size 0 [.int .i64 s0, .int .i64 s1, .int .i64 s2, .int .i64 s3, .int .i64 s4, .int .i64 s5] := by rw [← hW4]; exact World.rangeAt_alloc (World.rangeAt_alloc (World.rangeAt_alloc (cell_range (b := 0)) _) _) _
  have r1 : W4.rangeAt (w.heap.size + 1) 0 [.int .i64 kind, .int .i64 a, .int .i64 b, .int .i64 c, .int .u64 hh] := by
    rw [← hW4]
    have := cell_range (b := 0) (w := w.alloc (.cells #[.int .i64 s0, .int .i64 s1, .int .i64 s2, .int .i64 s3, .int .i64 s4, .int .i64 s5] 23)) (t := 49) (cs := [.int .i64 kind, .int .i64 a, .int .i64 b, .int .i64 c, .int .u64 hh])
    rw [World.size_alloc] at this
    exact World.rangeAt_alloc (World.rangeAt_alloc this _) _
  have HR0 := hide r0
  have HR1 := hide r1
  have HTH := hide th
  have g := fun i v hv => r0 i v hv
  simp only [Nat.zero_add] at g
  have q0 := g 0 _ rfl
  have q1 := g 1 _ rfl
  have q2 := g 2 _ rfl
  have q3 := g 3 _ rfl
  have q4 := g 4 _ rfl
  have q5 := g 5 _ rfl
  clear g r0 r1 th
  obtain ⟨dT, hdT1, hdT2⟩ := row79
  have DT1 := hide hdT1
  have DT2 := hide hdT2
  clear hdT1 hdT2 hl
  rcases hk with k1 | ⟨k1, k2⟩
  · skip
    go_enter Try.func22, Try.ntmps22
    go_wp2_with (first
      | (go_at_call 19; refine (rsize_ok _ ⟨s0, s1, s2, s3, s4, s5⟩ h1 h2).mono ?_; rintro e w1 ⟨rfl, hg⟩; have HB := hide (below_of_grown_none hg W4.heap.size (Nat.le_refl _)); have t0 := rangeAt_block HR0.out (HB.out.block w.heap.size (by omega)); have t1 := rangeAt_block HR1.out (HB.out.block (w.heap.size + 1) (by omega)); have g := (fun i v hv => t0 i v hv); have g' := (fun i v hv => t1 i v hv); simp only [Nat.zero_add] at g g'; have c0 := g 0 _ rfl; have c1 := g 1 _ rfl; have c2 := g 2 _ rfl; have c3 := g 3 _ rfl; have c4 := g 4 _ rfl; have c5 := g 5 _ rfl; have d0 := g' 0 _ rfl;  have d1 := g' 1 _ rfl;  have d2 := g' 2 _ rfl;  have d3 := g' 3 _ rfl;  have d4 := g' 4 _ rfl; have HT1 := hide (there_block HTH.out (HB.out.block (w.heap.size + 3) (by omega))); clear g g' t0 t1 hg)
      | (refine wpList_store_mid (by rfl) 62 (.tmp 8) (.tmp 29) (by rfl) (w.heap.size + 3) 0 l.toArray (by rfl) (by exact HLA.out) (by simpa [hl1.out.1] using HT1.out) (by simpa [hl1.out.1] using size79) (by exact all_oneCell_toArray hl1.out.2) ?_))
    have r5 := World.rangeAt_setCells_same w1 (w.heap.size + 3) 0 l (by rw [hl1.out.1]; exact HT1.out)
    refine bodyPost_ret (v := .tuple #[.agg l.toArray, .int .i64 200]) ?res rfl ⟨rfl, ?bel⟩
    case res => exact results_ct (fn := Try.f22) (t := 8) (t' := 9) (by rfl) (by rfl) (run_loadVar_mid _ _ 0 _ l dT r5 DT1.out DT2.out (by rw [hl1.out.1]; exact size79))
    case bel => exact (B4.out.trans (HB.out.mono (by omega))).trans ((touch_setCells (w.heap.size + 3) l 0 w1).below (fun k hk => by omega) (by have := HB.out.size; omega))
  · skip
    go_enter Try.func22, Try.ntmps22
    go_wp2_with (first
      | (go_at_call 19; refine (rsize_ok _ ⟨s0, s1, s2, s3, s4, s5⟩ h1 h2).mono ?_; rintro e w1 ⟨rfl, hg⟩; have HB := hide (below_of_grown_none hg W4.heap.size (Nat.le_refl _)); have t0 := rangeAt_block HR0.out (HB.out.block w.heap.size (by omega)); have t1 := rangeAt_block HR1.out (HB.out.block (w.heap.size + 1) (by omega)); have g := (fun i v hv => t0 i v hv); have g' := (fun i v hv => t1 i v hv); simp only [Nat.zero_add] at g g'; have c0 := g 0 _ rfl; have c1 := g 1 _ rfl; have c2 := g 2 _ rfl; have c3 := g 3 _ rfl; have c4 := g 4 _ rfl; have c5 := g 5 _ rfl; have d0 := g' 0 _ rfl;  have d1 := g' 1 _ rfl;  have d2 := g' 2 _ rfl;  have d3 := g' 3 _ rfl;  have d4 := g' 4 _ rfl; have HT1 := hide (there_block HTH.out (HB.out.block (w.heap.size + 3) (by omega))); clear g g' t0 t1 hg)
      | (refine wpList_store_mid (by rfl) 62 (.tmp 8) (.tmp 29) (by rfl) (w.heap.size + 3) 0 l.toArray (by rfl) (by exact HLA.out) (by simpa [hl1.out.1] using HT1.out) (by simpa [hl1.out.1] using size79) (by exact all_oneCell_toArray hl1.out.2) ?_))
    have r5 := World.rangeAt_setCells_same w1 (w.heap.size + 3) 0 l (by rw [hl1.out.1]; exact HT1.out)
    refine bodyPost_ret (v := .tuple #[.agg l.toArray, .int .i64 200]) ?res rfl ⟨rfl, ?bel⟩
    case res => exact results_ct (fn := Try.f22) (t := 8) (t' := 9) (by rfl) (by rfl) (run_loadVar_mid _ _ 0 _ l dT r5 DT1.out DT2.out (by rw [hl1.out.1]; exact size79))
    case bel => exact (B4.out.trans (HB.out.mono (by omega))).trans ((touch_setCells (w.heap.size + 3) l 0 w1).below (fun k hk => by omega) (by have := HB.out.size; omega))

set_option maxHeartbeats 4000000 in
theorem rstart_arg (w : World) (s0 s1 s2 s3 s4 s5 hand kind a b c hh : Int) (h1 : 1 ≤ s5) (h2 : s5 ≤ 64) (k1 : ¬ kind < 1) (k2 : ¬ 3 < kind) (hk : a < 0 ∨ (¬ a < 0 ∧ s5 ≤ a)) :
    Calls Try.prog 22 #[.agg #[.int .i64 s0, .int .i64 s1, .int .i64 s2, .int .i64 s3, .int .i64 s4, .int .i64 s5], .int .i64 hand, .agg #[.int .i64 kind, .int .i64 a, .int .i64 b, .int .i64 c, .int .u64 hh], .agg #[.int .u64 0, .int .u64 0, .int .u64 0, .int .u64 0]] w fun e w' => e = .returned (.tuple #[.agg (tk0).toArray, .int .i64 2]) ∧ Below w.heap.size w w' := by
  obtain ⟨l, hl⟩ : ∃ l, tk0 = l := ⟨_, rfl⟩
  rw [hl]
  have hl1 := hide (show IsTk l from by rw [← hl]; exact tk0_is)
  have HLA := hide (show Value.agg #[.int .i64 0, .int .i64 0, .int .i64 0, .int .i64 0, .int .i64 0, .int .i64 0, .int .i64 0, .int .i64 0, .int .i64 0, .int .i64 0, .int .i64 0, .int .u64 0, .int .i64 0, .int .u64 0, .int .u64 0, .int .u64 0, .int .u64 0, .int .u64 0, .int .u64 0, .int .u64 0, .int .u64 0, .slice none 0 0, .bool false, .int .u64 0, .int .u64 0, .int .u64 0, .int .u64 0, .int .u64 0] = .agg l.toArray from by rw [← hl]; rfl)
  obtain ⟨W4, hW4⟩ : ∃ W4, (((w.alloc (.cells #[.int .i64 s0, .int .i64 s1, .int .i64 s2, .int .i64 s3, .int .i64 s4, .int .i64 s5] 23)).alloc (.cells #[.int .i64 kind, .int .i64 a, .int .i64 b, .int .i64 c, .int .u64 hh] 49)).alloc (.cells #[.int .u64 0, .int .u64 0, .int .u64 0, .int .u64 0] 60)).alloc (.cells #[.int .i64 0, .int .i64 0, .int .i64 0, .int .i64 0, .int .i64 0, .int .i64 0, .int .i64 0, .int .i64 0, .int .i64 0, .int .i64 0, .int .i64 0, .int .u64 0, .int .i64 0, .int .u64 0, .int .u64 0, .int .u64 0, .int .u64 0, .int .u64 0, .int .u64 0, .int .u64 0, .int .u64 0, .slice none 0 0, .bool false, .int .u64 0, .int .u64 0, .int .u64 0, .int .u64 0, .int .u64 0] 62) = W4 := ⟨_, rfl⟩
  have th : W4.there (w.heap.size + 3) 0 28 := by
    rw [← hW4]
    have := there_alloc_new (w := (((w.alloc (.cells #[.int .i64 s0, .int .i64 s1, .int .i64 s2, .int .i64 s3, .int .i64 s4, .int .i64 s5] 23)).alloc (.cells #[.int .i64 kind, .int .i64 a, .int .i64 b, .int .i64 c, .int .u64 hh] 49)).alloc (.cells #[.int .u64 0, .int .u64 0, .int .u64 0, .int .u64 0] 60))) (t := 62) (cs := tk0)
    simpa [tk0] using this
  have sz4 : W4.heap.size = w.heap.size + 4 := by rw [← hW4]; simp
  have B4 := hide (show Below w.heap.size w W4 from by rw [← hW4]; exact ((((Below.refl _ w).alloc (Nat.le_refl _) _).alloc (by simp) _).alloc (by simp; omega) _).alloc (by simp; omega) _)
  have r0 : W4.rangeAt w.heap.size 0 [.int .i64 s0, .int .i64 s1, .int .i64 s2, .int .i64 s3, .int .i64 s4, .int .i64 s5] := by rw [← hW4]; exact World.rangeAt_alloc (World.rangeAt_alloc (World.rangeAt_alloc (cell_range (b := 0)) _) _) _
  have r1 : W4.rangeAt (w.heap.size + 1) 0 [.int .i64 kind, .int .i64 a, .int .i64 b, .int .i64 c, .int .u64 hh] := by
    rw [← hW4]
    have := cell_range (b := 0) (w := w.alloc (.cells #[.int .i64 s0, .int .i64 s1, .int .i64 s2, .int .i64 s3, .int .i64 s4, .int .i64 s5] 23)) (t := 49) (cs := [.int .i64 kind, .int .i64 a, .int .i64 b, .int .i64 c, .int .u64 hh])
    rw [World.size_alloc] at this
    exact World.rangeAt_alloc (World.rangeAt_alloc this _) _
  have HR0 := hide r0
  have HR1 := hide r1
  have HTH := hide th
  have g := fun i v hv => r0 i v hv
  simp only [Nat.zero_add] at g
  have q0 := g 0 _ rfl
  have q1 := g 1 _ rfl
  have q2 := g 2 _ rfl
  have q3 := g 3 _ rfl
  have q4 := g 4 _ rfl
  have q5 := g 5 _ rfl
  clear g r0 r1 th
  obtain ⟨dT, hdT1, hdT2⟩ := row79
  have DT1 := hide hdT1
  have DT2 := hide hdT2
  clear hdT1 hdT2 hl
  rcases hk with k4 | ⟨k4, k5⟩
  · skip
    go_enter Try.func22, Try.ntmps22
    go_wp2_with (first
      | (go_at_call 19; refine (rsize_ok _ ⟨s0, s1, s2, s3, s4, s5⟩ h1 h2).mono ?_; rintro e w1 ⟨rfl, hg⟩; have HB := hide (below_of_grown_none hg W4.heap.size (Nat.le_refl _)); have t0 := rangeAt_block HR0.out (HB.out.block w.heap.size (by omega)); have t1 := rangeAt_block HR1.out (HB.out.block (w.heap.size + 1) (by omega)); have g := (fun i v hv => t0 i v hv); have g' := (fun i v hv => t1 i v hv); simp only [Nat.zero_add] at g g'; have c0 := g 0 _ rfl; have c1 := g 1 _ rfl; have c2 := g 2 _ rfl; have c3 := g 3 _ rfl; have c4 := g 4 _ rfl; have c5 := g 5 _ rfl; have d0 := g' 0 _ rfl;  have d1 := g' 1 _ rfl;  have d2 := g' 2 _ rfl;  have d3 := g' 3 _ rfl;  have d4 := g' 4 _ rfl; have HT1 := hide (there_block HTH.out (HB.out.block (w.heap.size + 3) (by omega))); clear g g' t0 t1 hg)
      | (refine wpList_store_mid (by rfl) 62 (.tmp 8) (.tmp 40) (by rfl) (w.heap.size + 3) 0 l.toArray (by rfl) (by exact HLA.out) (by simpa [hl1.out.1] using HT1.out) (by simpa [hl1.out.1] using size79) (by exact all_oneCell_toArray hl1.out.2) ?_))
    have r5 := World.rangeAt_setCells_same w1 (w.heap.size + 3) 0 l (by rw [hl1.out.1]; exact HT1.out)
    refine bodyPost_ret (v := .tuple #[.agg l.toArray, .int .i64 2]) ?res rfl ⟨rfl, ?bel⟩
    case res => exact results_ct (fn := Try.f22) (t := 8) (t' := 9) (by rfl) (by rfl) (run_loadVar_mid _ _ 0 _ l dT r5 DT1.out DT2.out (by rw [hl1.out.1]; exact size79))
    case bel => exact (B4.out.trans (HB.out.mono (by omega))).trans ((touch_setCells (w.heap.size + 3) l 0 w1).below (fun k hk => by omega) (by have := HB.out.size; omega))
  · skip
    go_enter Try.func22, Try.ntmps22
    go_wp2_with (first
      | (go_at_call 19; refine (rsize_ok _ ⟨s0, s1, s2, s3, s4, s5⟩ h1 h2).mono ?_; rintro e w1 ⟨rfl, hg⟩; have HB := hide (below_of_grown_none hg W4.heap.size (Nat.le_refl _)); have t0 := rangeAt_block HR0.out (HB.out.block w.heap.size (by omega)); have t1 := rangeAt_block HR1.out (HB.out.block (w.heap.size + 1) (by omega)); have g := (fun i v hv => t0 i v hv); have g' := (fun i v hv => t1 i v hv); simp only [Nat.zero_add] at g g'; have c0 := g 0 _ rfl; have c1 := g 1 _ rfl; have c2 := g 2 _ rfl; have c3 := g 3 _ rfl; have c4 := g 4 _ rfl; have c5 := g 5 _ rfl; have d0 := g' 0 _ rfl;  have d1 := g' 1 _ rfl;  have d2 := g' 2 _ rfl;  have d3 := g' 3 _ rfl;  have d4 := g' 4 _ rfl; have HT1 := hide (there_block HTH.out (HB.out.block (w.heap.size + 3) (by omega))); clear g g' t0 t1 hg)
      | (refine wpList_store_mid (by rfl) 62 (.tmp 8) (.tmp 40) (by rfl) (w.heap.size + 3) 0 l.toArray (by rfl) (by exact HLA.out) (by simpa [hl1.out.1] using HT1.out) (by simpa [hl1.out.1] using size79) (by exact all_oneCell_toArray hl1.out.2) ?_))
    have r5 := World.rangeAt_setCells_same w1 (w.heap.size + 3) 0 l (by rw [hl1.out.1]; exact HT1.out)
    refine bodyPost_ret (v := .tuple #[.agg l.toArray, .int .i64 2]) ?res rfl ⟨rfl, ?bel⟩
    case res => exact results_ct (fn := Try.f22) (t := 8) (t' := 9) (by rfl) (by rfl) (run_loadVar_mid _ _ 0 _ l dT r5 DT1.out DT2.out (by rw [hl1.out.1]; exact size79))
    case bel => exact (B4.out.trans (HB.out.mono (by omega))).trans ((touch_setCells (w.heap.size + 3) l 0 w1).below (fun k hk => by omega) (by have := HB.out.size; omega))

set_option maxHeartbeats 4000000 in
theorem rstart_shape (w : World) (s0 s1 s2 s3 s4 s5 hand kind a b c hh : Int) (h : s5 < 1 ∨ 64 < s5) :
    Calls Try.prog 22 #[.agg #[.int .i64 s0, .int .i64 s1, .int .i64 s2, .int .i64 s3, .int .i64 s4, .int .i64 s5], .int .i64 hand, .agg #[.int .i64 kind, .int .i64 a, .int .i64 b, .int .i64 c, .int .u64 hh], .agg #[.int .u64 0, .int .u64 0, .int .u64 0, .int .u64 0]] w fun e w' => e = .returned (.tuple #[.agg (tk0).toArray, .int .i64 120]) ∧ Below w.heap.size w w' := by
  obtain ⟨l, hl⟩ : ∃ l, tk0 = l := ⟨_, rfl⟩
  rw [hl]
  have hl1 := hide (show IsTk l from by rw [← hl]; exact tk0_is)
  have HLA := hide (show Value.agg #[.int .i64 0, .int .i64 0, .int .i64 0, .int .i64 0, .int .i64 0, .int .i64 0, .int .i64 0, .int .i64 0, .int .i64 0, .int .i64 0, .int .i64 0, .int .u64 0, .int .i64 0, .int .u64 0, .int .u64 0, .int .u64 0, .int .u64 0, .int .u64 0, .int .u64 0, .int .u64 0, .int .u64 0, .slice none 0 0, .bool false, .int .u64 0, .int .u64 0, .int .u64 0, .int .u64 0, .int .u64 0] = .agg l.toArray from by rw [← hl]; rfl)
  obtain ⟨W4, hW4⟩ : ∃ W4, (((w.alloc (.cells #[.int .i64 s0, .int .i64 s1, .int .i64 s2, .int .i64 s3, .int .i64 s4, .int .i64 s5] 23)).alloc (.cells #[.int .i64 kind, .int .i64 a, .int .i64 b, .int .i64 c, .int .u64 hh] 49)).alloc (.cells #[.int .u64 0, .int .u64 0, .int .u64 0, .int .u64 0] 60)).alloc (.cells #[.int .i64 0, .int .i64 0, .int .i64 0, .int .i64 0, .int .i64 0, .int .i64 0, .int .i64 0, .int .i64 0, .int .i64 0, .int .i64 0, .int .i64 0, .int .u64 0, .int .i64 0, .int .u64 0, .int .u64 0, .int .u64 0, .int .u64 0, .int .u64 0, .int .u64 0, .int .u64 0, .int .u64 0, .slice none 0 0, .bool false, .int .u64 0, .int .u64 0, .int .u64 0, .int .u64 0, .int .u64 0] 62) = W4 := ⟨_, rfl⟩
  have th : W4.there (w.heap.size + 3) 0 28 := by
    rw [← hW4]
    have := there_alloc_new (w := (((w.alloc (.cells #[.int .i64 s0, .int .i64 s1, .int .i64 s2, .int .i64 s3, .int .i64 s4, .int .i64 s5] 23)).alloc (.cells #[.int .i64 kind, .int .i64 a, .int .i64 b, .int .i64 c, .int .u64 hh] 49)).alloc (.cells #[.int .u64 0, .int .u64 0, .int .u64 0, .int .u64 0] 60))) (t := 62) (cs := tk0)
    simpa [tk0] using this
  have sz4 : W4.heap.size = w.heap.size + 4 := by rw [← hW4]; simp
  have B4 := hide (show Below w.heap.size w W4 from by rw [← hW4]; exact ((((Below.refl _ w).alloc (Nat.le_refl _) _).alloc (by simp) _).alloc (by simp; omega) _).alloc (by simp; omega) _)
  have r0 : W4.rangeAt w.heap.size 0 [.int .i64 s0, .int .i64 s1, .int .i64 s2, .int .i64 s3, .int .i64 s4, .int .i64 s5] := by rw [← hW4]; exact World.rangeAt_alloc (World.rangeAt_alloc (World.rangeAt_alloc (cell_range (b := 0)) _) _) _
  have r1 : W4.rangeAt (w.heap.size + 1) 0 [.int .i64 kind, .int .i64 a, .int .i64 b, .int .i64 c, .int .u64 hh] := by
    rw [← hW4]
    have := cell_range (b := 0) (w := w.alloc (.cells #[.int .i64 s0, .int .i64 s1, .int .i64 s2, .int .i64 s3, .int .i64 s4, .int .i64 s5] 23)) (t := 49) (cs := [.int .i64 kind, .int .i64 a, .int .i64 b, .int .i64 c, .int .u64 hh])
    rw [World.size_alloc] at this
    exact World.rangeAt_alloc (World.rangeAt_alloc this _) _
  have HR0 := hide r0
  have HR1 := hide r1
  have HTH := hide th
  have g := fun i v hv => r0 i v hv
  simp only [Nat.zero_add] at g
  have q0 := g 0 _ rfl
  have q1 := g 1 _ rfl
  have q2 := g 2 _ rfl
  have q3 := g 3 _ rfl
  have q4 := g 4 _ rfl
  have q5 := g 5 _ rfl
  clear g r0 r1 th
  obtain ⟨dT, hdT1, hdT2⟩ := row79
  have DT1 := hide hdT1
  have DT2 := hide hdT2
  clear hdT1 hdT2 hl
  · skip
    go_enter Try.func22, Try.ntmps22
    go_wp2_with (first
      | (go_at_call 19; refine (rsize_bad _ ⟨s0, s1, s2, s3, s4, s5⟩ h).mono ?_; rintro e w1 ⟨rfl, hg⟩; have HB := hide (below_of_grown_none hg W4.heap.size (Nat.le_refl _)); have t0 := rangeAt_block HR0.out (HB.out.block w.heap.size (by omega)); have t1 := rangeAt_block HR1.out (HB.out.block (w.heap.size + 1) (by omega)); have g := (fun i v hv => t0 i v hv); have g' := (fun i v hv => t1 i v hv); simp only [Nat.zero_add] at g g'; have c0 := g 0 _ rfl; have c1 := g 1 _ rfl; have c2 := g 2 _ rfl; have c3 := g 3 _ rfl; have c4 := g 4 _ rfl; have c5 := g 5 _ rfl; have d0 := g' 0 _ rfl;  have d1 := g' 1 _ rfl;  have d2 := g' 2 _ rfl;  have d3 := g' 3 _ rfl;  have d4 := g' 4 _ rfl; have HT1 := hide (there_block HTH.out (HB.out.block (w.heap.size + 3) (by omega))); clear g g' t0 t1 hg)
      | (refine wpList_store_mid (by rfl) 62 (.tmp 8) (.tmp 19) (by rfl) (w.heap.size + 3) 0 l.toArray (by rfl) (by exact HLA.out) (by simpa [hl1.out.1] using HT1.out) (by simpa [hl1.out.1] using size79) (by exact all_oneCell_toArray hl1.out.2) ?_))
    have r5 := World.rangeAt_setCells_same w1 (w.heap.size + 3) 0 l (by rw [hl1.out.1]; exact HT1.out)
    refine bodyPost_ret (v := .tuple #[.agg l.toArray, .int .i64 120]) ?res rfl ⟨rfl, ?bel⟩
    case res => exact results_ct (fn := Try.f22) (t := 8) (t' := 9) (by rfl) (by rfl) (run_loadVar_mid _ _ 0 _ l dT r5 DT1.out DT2.out (by rw [hl1.out.1]; exact size79))
    case bel => exact (B4.out.trans (HB.out.mono (by omega))).trans ((touch_setCells (w.heap.size + 3) l 0 w1).below (fun k hk => by omega) (by have := HB.out.size; omega))

end Once
end Go.Proofs.Ytpghfebnggoacaa

/-
  OnceTasks: the law's own walk.
-/
namespace Go.Proofs.Ytpghfebnggoacaa
open Go.RowKit
set_option linter.unusedVariables false
set_option linter.unusedSimpArgs false
set_option linter.unnecessarySimpa false
set_option maxRecDepth 20000
namespace Once


set_option maxHeartbeats 8000000 in
theorem tasks_core {w : World} {sh : Shp} {hand : Int} {j : Jb} {want : Nat} {E1 E2 : Int} {cs : List Value} {tv : Bool} (hw : want ≤ 128)
    (HSR : ∀ w : World, Calls Try.prog 19 #[sh.val] w fun e w' => e = .returned (.tuple #[.int .i64 want, .int .i64 E1]) ∧ w.grownBy w' none)
    (HSP : ∀ w : World, Calls Try.prog 20 #[sh.val] w fun e w' => e = .returned (.tuple #[.int .i64 want, .int .i64 E1]) ∧ w.grownBy w' none)
    (HFR : ∀ w : World, Calls Try.prog 21 #[sh.val] w fun e w' => ∃ ao cap, e = .returned (.tuple #[.slice ao want cap, .int .i64 E1]) ∧ Sees w' w'.heap.size ao want (fun _ => 0) ∧ w.grownBy w' none)
    (hcs : IsTk cs) (HST : ∀ w : World, Calls Try.prog 22 #[sh.val, .int .i64 hand, j.val, kept0] w fun e w' => e = .returned (.tuple #[.agg cs.toArray, .int .i64 E2]) ∧ Below w.heap.size w w')
    (htv : tv = decide (E2 = 0)) (HTK : ∀ w : World, Calls Try.prog 23 #[sh.val, .int .i64 hand, j.val] w fun e w' => ∃ b, e = .returned (.tuple #[if tv = true then .iface 97 (.pointer (some ⟨b, 0, none⟩)) else .nilIface, .int .i64 E2]) ∧ w.grownBy w' none) :
    Calls Try.prog 4 #[sh.val, .int .i64 hand, j.val] w fun e w' => e = .returned (.bool true) ∧ Below w.heap.size w w' := by
  obtain ⟨s0, s1, s2, s3, s4, s5⟩ := sh
  obtain ⟨kind, a, b, c, hh⟩ := j
  simp only [Shp.val, Jb.val, kept0] at HSR HSP HFR HST HTK ⊢
  have KSR := hide HSR
  have KSP := hide HSP
  have KFR := hide HFR
  have KST := hide HST
  have KTK := hide HTK
  have KCS := hide hcs
  clear HSR HSP HFR HST HTK hcs
  obtain ⟨W0, hW0⟩ : ∃ W0, (w.alloc (.cells #[.int .i64 s0, .int .i64 s1, .int .i64 s2, .int .i64 s3, .int .i64 s4, .int .i64 s5] 23)).alloc (.cells #[.int .i64 kind, .int .i64 a, .int .i64 b, .int .i64 c, .int .u64 hh] 49) = W0 := ⟨_, rfl⟩
  have b0 : Below w.heap.size w W0 := by rw [← hW0]; exact ((Below.refl _ w).alloc (Nat.le_refl _) _).alloc (by simp) _
  have sz0 : W0.heap.size = w.heap.size + 2 := by rw [← hW0]; simp
  have R0 : W0.rowIs w.heap.size 23 6 (lrow [.int .i64 s0, .int .i64 s1, .int .i64 s2, .int .i64 s3, .int .i64 s4, .int .i64 s5]) := by rw [← hW0]; exact (rowL_alloc w [.int .i64 s0, .int .i64 s1, .int .i64 s2, .int .i64 s3, .int .i64 s4, .int .i64 s5] _ rfl).alloc _
  have R1 : W0.rowIs (w.heap.size + 1) 49 5 (lrow [.int .i64 kind, .int .i64 a, .int .i64 b, .int .i64 c, .int .u64 hh]) := by
    rw [← hW0]
    have := rowL_alloc (w.alloc (.cells #[.int .i64 s0, .int .i64 s1, .int .i64 s2, .int .i64 s3, .int .i64 s4, .int .i64 s5] 23)) [.int .i64 kind, .int .i64 a, .int .i64 b, .int .i64 c, .int .u64 hh] 49 (n := 5) rfl
    rwa [World.size_alloc] at this
  have keep : Hid (∀ w' : World, Below W0.heap.size W0 w' → Below w.heap.size w w' ∧ (w.heap.size + 1 < w'.heap.size) ∧ (w'.cell? ⟨w.heap.size, 0, none⟩ = some (.int .i64 s0) ∧ w'.cell? ⟨w.heap.size, 1, none⟩ = some (.int .i64 s1) ∧ w'.cell? ⟨w.heap.size, 2, none⟩ = some (.int .i64 s2) ∧ w'.cell? ⟨w.heap.size, 3, none⟩ = some (.int .i64 s3) ∧ w'.cell? ⟨w.heap.size, 4, none⟩ = some (.int .i64 s4) ∧ w'.cell? ⟨w.heap.size, 5, none⟩ = some (.int .i64 s5)) ∧
      w'.cell? ⟨w.heap.size + 1, 0, none⟩ = some (.int .i64 kind) ∧ w'.cell? ⟨w.heap.size + 1, 1, none⟩ = some (.int .i64 a) ∧ w'.cell? ⟨w.heap.size + 1, 2, none⟩ = some (.int .i64 b) ∧ w'.cell? ⟨w.heap.size + 1, 3, none⟩ = some (.int .i64 c) ∧ w'.cell? ⟨w.heap.size + 1, 4, none⟩ = some (.int .u64 hh)) := fun w' hb => by
    have r := R0.of_block (hb.block w.heap.size R0.lt)
    have r' := R1.of_block (hb.block (w.heap.size + 1) R1.lt)
    exact ⟨b0.trans (hb.mono b0.size), r'.lt, ⟨r.cell (i := 0) (by decide), r.cell (i := 1) (by decide), r.cell (i := 2) (by decide), r.cell (i := 3) (by decide), r.cell (i := 4) (by decide), r.cell (i := 5) (by decide)⟩, r'.cell (i := 0) (by decide), r'.cell (i := 1) (by decide), r'.cell (i := 2) (by decide), r'.cell (i := 3) (by decide), r'.cell (i := 4) (by decide)⟩
  clear b0 R0 R1
  go_enter Try.func4, Try.ntmps4
  go_wp2_with fail
  refine (awake_any W0).mono ?_
  rintro e w1 ⟨rfl, hb1⟩
  have HB1 := hide hb1
  obtain ⟨_, l1, ⟨c0, c1, c2, c3, c4, c5⟩, _⟩ := keep.out w1 hb1
  clear hb1 hW0
  go_wp2_with fail
  refine (KSR.out w1).mono ?_
  rintro e w2 ⟨rfl, hg⟩
  have HB2 := hide (HB1.out.trans (below_of_grown_none hg W0.heap.size HB1.out.size))
  clear hg c0 c1 c2 c3 c4 c5
  obtain ⟨_, l2, ⟨c0, c1, c2, c3, c4, c5⟩, _⟩ := keep.out w2 HB2.out
  go_wp2_with fail
  refine (KSP.out w2).mono ?_
  rintro e w3 ⟨rfl, hg⟩
  have HB3 := hide (HB2.out.trans (below_of_grown_none hg W0.heap.size HB2.out.size))
  clear hg c0 c1 c2 c3 c4 c5
  obtain ⟨_, l3, ⟨c0, c1, c2, c3, c4, c5⟩, _⟩ := keep.out w3 HB3.out
  go_wp2_with fail
  refine (KFR.out w3).mono ?_
  rintro e w4 ⟨ao, cap, rfl, S4, hg⟩
  have HB4 := hide (HB3.out.trans (below_of_grown_none hg W0.heap.size HB3.out.size))
  have HS4 := hide S4
  clear hg S4 c0 c1 c2 c3 c4 c5
  obtain ⟨_, l4, ⟨c0, c1, c2, c3, c4, c5⟩, d0, d1, d2, d3, d4⟩ := keep.out w4 HB4.out
  go_wp2_with fail
  refine (KST.out w4).mono ?_
  rintro e w5 ⟨rfl, hb⟩
  have HB45 := hide hb
  have HB5 := hide (HB4.out.trans (hb.mono HB4.out.size))
  clear hb c0 c1 c2 c3 c4 c5 d0 d1 d2 d3 d4
  obtain ⟨W6, hW6⟩ : ∃ W6, w5.alloc (.cells tk0.toArray 62) = W6 := ⟨_, rfl⟩
  have th6 : W6.there w5.heap.size 0 28 := by
    rw [← hW6]
    have := there_alloc_new (w := w5) (t := 62) (cs := tk0)
    simpa [tk0] using this
  have B6 : Below w5.heap.size w5 W6 := by rw [← hW6]; exact (Below.refl _ w5).alloc (Nat.le_refl _) _
  obtain ⟨W7, hW7⟩ : ∃ W7, W6.setCells w5.heap.size 0 cs = W7 := ⟨_, rfl⟩
  have B7 : Below w5.heap.size w5 W7 := by rw [← hW7]; exact B6.trans ((touch_setCells w5.heap.size cs 0 W6).below (fun k hk => by omega) B6.size)
  have HB7 := hide (HB5.out.trans (B7.mono HB5.out.size))
  have HB47 := hide (HB45.out.trans (B7.mono HB45.out.size))
  obtain ⟨_, l7, ⟨c0, c1, c2, c3, c4, c5⟩, d0, d1, d2, d3, d4⟩ := keep.out W7 HB7.out
  have TH6 := hide th6
  have HW7 := hide hW7
  clear B6 B7 th6 hW7
  simp only [tk0] at hW6
  go_wp2_with (refine wpList_store_mid (by rfl) 62 (.tmp 13) (.tmp 42) (by rfl) w5.heap.size 0 cs.toArray (by rfl) (by rfl) (by simpa [KCS.out.1] using TH6.out) (by simpa [KCS.out.1] using size79) (by exact all_oneCell_toArray KCS.out.2) ?_; rw [List.toList_toArray, HW7.out]; clear hW6)
  refine (KTK.out W7).mono ?_
  rintro e w8 ⟨bb, rfl, hg⟩
  have HB8 := hide (HB7.out.trans (below_of_grown_none hg W0.heap.size HB7.out.size))
  have HB48 := hide (HB47.out.trans (below_of_grown_none hg w4.heap.size (HB47.out.size)))
  clear hg c0 c1 c2 c3 c4 c5 d0 d1 d2 d3 d4
  have FIN := hide (keep.out w8 HB8.out).1
  have S8 := hide (HS4.out.below HB48.out (Nat.le_refl _))
  have hi := iface_nil 97
  have hn := iface_none
  have l48 := HB48.out.size
  by_cases hE : E2 = 0
  · subst hE
    obtain rfl : tv = true := by simpa using htv
    clear htv
    simp only [if_true]
    go_wp2_with fail
    go_loopw [84] (fun i wr => ∃ k : Nat, k ≤ want ∧ i = .int .i64 k ∧ wr = w8) (fun i _ => want - (intOf i).toNat)
    case atStart => exact ⟨0, Nat.zero_le _, rfl, rfl⟩
    case round =>
      obtain ⟨k, hk, rfl, rfl⟩ := hrel
      by_cases hlt : k < want
      · obtain ⟨bx, off, rfl, hbl, hcc⟩ := S8.out k hlt
        have hkn : (k : Int) < (want : Int) := by omega
        have hbl8 : bx < wr.heap.size := by omega
        go_wp2_with fail
        go_roundw
        case rel => exact ⟨k + 1, by omega, by go_num, by first | rfl | trivial⟩
        case measure => simp [intOf]; omega
      · have hkn : ¬ (k : Int) < (want : Int) := by omega
        go_wp2_with fail
        go_ret
        exact ⟨rfl, FIN.out⟩
  · obtain rfl : tv = false := by simpa [hE] using htv
    clear htv
    have hE' : (E2 != 0) = true := by simpa using hE
    simp only [Bool.false_eq_true, if_false]
    go_wp2_with fail
    go_loopw [84] (fun i wr => ∃ k : Nat, k ≤ want ∧ i = .int .i64 k ∧ wr = w8) (fun i _ => want - (intOf i).toNat)
    case atStart => exact ⟨0, Nat.zero_le _, rfl, rfl⟩
    case round =>
      obtain ⟨k, hk, rfl, rfl⟩ := hrel
      by_cases hlt : k < want
      · obtain ⟨bx, off, rfl, hbl, hcc⟩ := S8.out k hlt
        have hkn : (k : Int) < (want : Int) := by omega
        have hbl8 : bx < wr.heap.size := by omega
        go_wp2_with fail
        go_roundw
        case rel => exact ⟨k + 1, by omega, by go_num, by first | rfl | trivial⟩
        case measure => simp [intOf]; omega
      · have hkn : ¬ (k : Int) < (want : Int) := by omega
        go_wp2_with fail
        go_ret
        exact ⟨rfl, FIN.out⟩

theorem tasks_walk {w : World} (sh : Shp) (hand : Int) (j : Jb) : Calls Try.prog 4 #[sh.val, .int .i64 hand, j.val] w fun e w' => e = .returned (.bool true) ∧ Below w.heap.size w w' := by
  by_cases hr : sh.f < 1 ∨ 64 < sh.f
  · refine tasks_core (want := 0) (E1 := 120) (E2 := 120) (cs := tk0) (tv := false) (by omega) (fun w => rsize_bad w sh hr) (fun w => size_bad w sh hr) (fun w => (fresh_bad w sh hr).mono fun e w' ⟨he, hg⟩ => ⟨none, 0, he, fun j hj => absurd hj (Nat.not_lt_zero j), hg⟩) tk0_is (fun w => ?_) (by decide) (fun w => (task_shape w sh hand j hr).mono fun e w' ⟨he, hg⟩ => ⟨0, he, hg⟩)
    exact rstart_shape w sh.a sh.b sh.c sh.d sh.e sh.f hand j.kind j.a j.b j.c j.h hr
  · have h1 : 1 ≤ sh.f := by omega
    have h2 : sh.f ≤ 64 := by omega
    obtain ⟨want, hwant⟩ : ∃ want : Nat, (want : Int) = 2 * sh.f := ⟨(2 * sh.f).toNat, by omega⟩
    have hfr : ∀ w : World, Calls Try.prog 21 #[sh.val] w fun e w' => ∃ ao cap, e = .returned (.tuple #[.slice ao want cap, .int .i64 0]) ∧ Sees w' w'.heap.size ao want (fun _ => 0) ∧ w.grownBy w' none := fun w => (fresh_ok w sh h1 h2 hwant).mono fun e w' ⟨g, he, hr, _, hg⟩ => ⟨_, _, he, hr.sees, hg⟩
    by_cases he : oerr sh.f j = 0
    · have hk : ¬ j.kind < 1 ∧ ¬ 3 < j.kind ∧ ¬ j.a < 0 ∧ ¬ sh.f ≤ j.a := by
        have h := he
        simp only [oerr] at h
        split at h
        · cases h
        · split at h
          · cases h
          · omega
      refine tasks_core (want := want) (E1 := 0) (E2 := 0) (cs := tk sh hand j 0 .zero ⟨false, 0⟩) (tv := true) (by omega) (fun w => by rw [hwant]; exact rsize_ok w sh h1 h2) (fun w => by rw [hwant]; exact size_ok w sh h1 h2) hfr (tk_is _ _ _ _ _ _) (fun w => ?_) (by decide) (fun w => (task_ok w sh hand j h1 h2 he).mono fun e w' ⟨bb, h, _, _, hg⟩ => ⟨bb, h, hg⟩)
      exact rstart_ok w sh.a sh.b sh.c sh.d sh.e sh.f hand j.kind j.a j.b j.c j.h h1 h2 hk.1 hk.2.1 hk.2.2.1 hk.2.2.2
    · refine tasks_core (want := want) (E1 := 0) (E2 := oerr sh.f j) (cs := tk0) (tv := false) (by omega) (fun w => by rw [hwant]; exact rsize_ok w sh h1 h2) (fun w => by rw [hwant]; exact size_ok w sh h1 h2) hfr tk0_is (fun w => ?_) (by simp [he]) (fun w => (task_err w sh hand j h1 h2 he).mono fun e w' ⟨h, hg⟩ => ⟨0, h, hg⟩)
      by_cases c1 : j.kind < 1 ∨ 3 < j.kind
      · rw [show oerr sh.f j = 200 by unfold oerr; rw [if_pos c1]]
        exact rstart_kind w sh.a sh.b sh.c sh.d sh.e sh.f hand j.kind j.a j.b j.c j.h h1 h2 (by omega)
      · have c3 : j.a < 0 ∨ sh.f ≤ j.a := by
          rcases Classical.em (j.a < 0 ∨ sh.f ≤ j.a) with h | h
          · exact h
          · exact absurd (by unfold oerr; rw [if_neg c1, if_neg h]) he
        rw [show oerr sh.f j = 2 by unfold oerr; rw [if_neg c1, if_pos c3]]
        exact rstart_arg w sh.a sh.b sh.c sh.d sh.e sh.f hand j.kind j.a j.b j.c j.h h1 h2 (by omega) (by omega) (by omega)
end Once
end Go.Proofs.Ytpghfebnggoacaa

/-
  OnceTasks: whatever shape, hand and job are handed in, once's Size, Fresh and Task tell the reference's numbers and errors, the fresh words are zeros, and a task is there just where there is no error: the law answers true, and the input reads as it did. No condition beyond the row's.
-/
namespace Go.Proofs.Ytpghfebnggoacaa
open Go.ChangeShapes Go.WideShapes Go.ChangeAt Go.RowKit Go.Deep
set_option linter.unusedVariables false
set_option linter.unusedSimpArgs false
set_option maxRecDepth 100000
namespace OTasksLaw

theorem list3' {α : Type} {l : List α} (h : l.length = 3) : ∃ a b c, l = [a, b, c] := by
  match l, h with
  | [a, b, c], _ => exact ⟨a, b, c, rfl⟩

theorem isLaw : Lift.IsLaw Rows.onceTasksSpec 3 := ⟨rfl, fun H ds h => by obtain ⟨a, b, c, rfl⟩ := list3' h; rfl⟩

theorem lifted (os : Os) (started : os.Started) (H : Type) (enc : TypeId × Value → H) :
    ReturnsInHanded {} Try.checked os 4 .any (Rows.onceTasksSpec.pre6 enc Try.prog Try.f4 Rows.onceTasksRow.domain false) (Rows.onceTasksSpec.post enc Try.prog Try.f4 false true false false) := by
  refine returnsInHanded_of_change_sized (C := Try.checked) Lift.own started (by kernel_rfl) Try.func4
    (ChangeSpec.witness6 (enc := enc) (C := Try.checked) false ⟨#[], #[.agg #[.int .i64 0, .int .i64 0, .int .i64 0, .int .i64 0, .int .i64 0, .int .i64 0], .int .i64 0, .agg #[.int .i64 0, .int .i64 0, .int .i64 0, .int .i64 0, .int .u64 0]], []⟩ 8 (by kernel_rfl) (by kernel_rfl) (by kernel_rfl) (by kernel_rfl)) ?_
  intro W base args ds gs before hval0 hW hcnd hsz0 _
  have hgs : gs = [] := by
    obtain ⟨_, _, _, hV, _⟩ := hW
    exact (trodVars_none hV).1
  subst hgs
  refine Lift.contract enc (tb := 4) isLaw (by kernel_rfl) (by kernel_rfl) Try.underlying4 W args ds [] before hW ?_
  intro p hA0
  have hval : ∀ (j : Nat) t v, Try.f4.params[j]? = some t → args[j]? = some v → Value.okWide Try.prog W .any base t v := hval0
  have hA : DataW.TrodAll enc Try.prog W 0 (fun _ => true) true Try.f4.params.toList args.toList ds p := hA0
  rw [Try.params4] at hA hval
  obtain ⟨v0, vs0, d0, ds0, p0, q0, hargs0, rfl, rfl, k0, hA1⟩ := trodAll_cons hA
  obtain ⟨v1, vs1, d1, ds1, p1, q1, hargs1, rfl, rfl, k1, hA2⟩ := trodAll_cons hA1
  obtain ⟨v2, vs2, d2, ds2, p2, q2, hargs2, rfl, rfl, k2, hA3⟩ := trodAll_cons hA2
  obtain ⟨rfl, rfl, rfl⟩ := trodAll_nil hA3
  obtain rfl : args = #[v0, v1, v2] := by cases args; simp_all
  obtain ⟨cs0, rfl, hsz0'⟩ := okWide_struct Try.underlying23 (hval 0 23 v0 rfl rfl)
  rw [ncellsSh] at hsz0'
  obtain ⟨fuel0, hf0⟩ := k0
  obtain ⟨sh, hsh⟩ := shape_t (by simpa [Value.cells] using hsz0') hf0
  obtain ⟨cs2, rfl, hsz2⟩ := okWide_struct Try.underlying49 (hval 2 49 v2 rfl rfl)
  rw [ncells51] at hsz2
  obtain ⟨fuel2, hf2⟩ := k2
  obtain ⟨j, hj, _⟩ := open_job (by simpa [Value.cells] using hsz2) hf2
  obtain ⟨x, rfl⟩ := okWide_int Try.underlying3 (hval 1 3 v1 rfl rfl)
  have e0 : (Value.agg cs0) = sh.val := by
    obtain ⟨l0⟩ := cs0
    simp [Value.cells] at hsh
    rw [hsh]; rfl
  have e2 : (Value.agg cs2) = j.val := by
    obtain ⟨l2⟩ := cs2
    obtain ⟨c0, c1, c2, c3, c4, rfl⟩ := list5' (show l2.length = 5 by simpa using hsz2)
    have g0 := hj 0 (by omega)
    have g1 := hj 1 (by omega)
    have g2 := hj 2 (by omega)
    have g3 := hj 3 (by omega)
    have g4 := hj 4 (by omega)
    simp [Value.cells, Jb.cell] at g0 g1 g2 g3 g4
    subst g0 g1 g2 g3 g4
    rfl
  rw [e0, e2]
  exact Once.tasks_walk sh x j
end OTasksLaw

theorem onceTasks_holds : Rows.OnceTasksSaid :=
  OpenClaim.holds_of_wide 4 Try.f4 rfl rfl rfl rfl rfl rfl rfl ⟨rfl, rfl, rfl, rfl, rfl⟩ rfl rfl rfl rfl rfl (by kernel_rfl) Try.func4 (by kernel_rfl)
    (of_decide_eq_true (by kernel_rfl)) (by unfold Func.isWrapper; first | (rw [if_pos (by decide +kernel)]; kernel_rfl) | (rw [if_neg (by decide +kernel)]; exact ⟨rfl, rfl⟩))
    (fun os started H enc _ => OTasksLaw.lifted os started H enc)
#print axioms onceTasks_holds
end Go.Proofs.Ytpghfebnggoacaa
