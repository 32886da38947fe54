/-
  Lemmas: EpochRS.
-/
import Derived.Test.YtdflicgjkleonaaTp21
import Derived.Test.YtdflicgjkleonaaTp19
import Derived.Deep.CutBlock
/-
  The epoch's reference: Size and Start.
-/
namespace Go.Proofs.Ytdflicgjkleonaa
open Go.RowKit
set_option linter.unusedVariables false
set_option linter.unusedSimpArgs false
set_option linter.unnecessarySimpa false
set_option maxRecDepth 20000
namespace Epoch

theorem rsize_ok (w : World) (sh : Shp) (h1 : 1 ≤ sh.f) (h2 : sh.f ≤ 64) : Calls Try.prog 15 #[sh.val] w fun e w' => e = .returned (.tuple #[.int .i64 (9 + sh.f), .int .i64 0]) ∧ w.grownBy w' none := by
  obtain ⟨s0, s1, s2, s3, s4, s5⟩ := sh
  simp only [Shp.val] at h1 h2 ⊢
  have g1 : ¬ s5 < 1 := by omega
  have g2 : ¬ 64 < s5 := by omega
  have g4 : wrap64 (9 + s5) = 9 + s5 := by unfold wrap64; omega
  go_enter Try.func15, Try.ntmps15
  go_wp2
  go_ret2
  exact ⟨rfl, grown_alloc (grown_refl _ _) _⟩
theorem rsize_bad (w : World) (sh : Shp) (h : sh.f < 1 ∨ 64 < sh.f) : Calls Try.prog 15 #[sh.val] w fun e w' => e = .returned (.tuple #[.int .i64 0, .int .i64 120]) ∧ w.grownBy w' none := by
  obtain ⟨s0, s1, s2, s3, s4, s5⟩ := sh
  simp only [Shp.val] at h ⊢
  by_cases g1 : s5 < 1
  · go_enter Try.func15, Try.ntmps15
    go_wp2
    go_ret2
    exact ⟨rfl, grown_alloc (grown_refl _ _) _⟩
  · have g2 : 64 < s5 := by omega
    go_enter Try.func15, Try.ntmps15
    go_wp2
    go_ret2
    exact ⟨rfl, grown_alloc (grown_refl _ _) _⟩

set_option maxHeartbeats 4000000 in
theorem rstart_ok (w : World) (s0 s1 s2 s3 s4 s5 hand kind a b c hh : Int) (h1 : 1 ≤ s5) (h2 : s5 ≤ 64) (k1 : ¬ kind < 1) (k2 : ¬ 4 < kind) (m1 : ¬ hand < 0) (m2 : ¬ 7 < hand) (hk : ¬ kind = 3 ∨ (kind = 3 ∧ ¬ a < 0 ∧ ¬ s5 ≤ a)) :
    Calls Try.prog 20 #[.agg #[.int .i64 s0, .int .i64 s1, .int .i64 s2, .int .i64 s3, .int .i64 s4, .int .i64 s5], .int .i64 hand, .agg #[.int .i64 kind, .int .i64 a, .int .i64 b, .int .i64 c, .int .u64 hh], .agg #[.int .u64 0, .int .u64 0, .int .u64 0, .int .u64 0]] w fun e w' => e = .returned (.tuple #[.agg (tk ⟨s0, s1, s2, s3, s4, s5⟩ hand ⟨kind, a, b, c, hh⟩ 1 .zero ⟨false, 0⟩).toArray, .int .i64 0]) ∧ Below w.heap.size w w' := by
  obtain ⟨l, hl⟩ : ∃ l, tk ⟨s0, s1, s2, s3, s4, s5⟩ hand ⟨kind, a, b, c, hh⟩ 1 .zero ⟨false, 0⟩ = l := ⟨_, rfl⟩
  rw [hl]
  have hl1 := hide (show IsTk l from by rw [← hl]; exact tk_is _ _ _ _ _ _)
  have HLA := hide (show Value.agg #[.int .i64 s0, .int .i64 s1, .int .i64 s2, .int .i64 s3, .int .i64 s4, .int .i64 s5, .int .i64 hand, .int .i64 kind, .int .i64 a, .int .i64 b, .int .i64 c, .int .u64 hh, .int .i64 1, .int .u64 0, .int .u64 0, .int .u64 0, .int .u64 0, .int .u64 0, .int .u64 0, .int .u64 0, .int .u64 0, .slice none 0 0, .bool false, .int .u64 0, .int .u64 0, .int .u64 0, .int .u64 0, .int .u64 0] = .agg l.toArray from by rw [← hl]; rfl)
  obtain ⟨W4, hW4⟩ : ∃ W4, (((w.alloc (.cells #[.int .i64 s0, .int .i64 s1, .int .i64 s2, .int .i64 s3, .int .i64 s4, .int .i64 s5] 23)).alloc (.cells #[.int .i64 kind, .int .i64 a, .int .i64 b, .int .i64 c, .int .u64 hh] 44)).alloc (.cells #[.int .u64 0, .int .u64 0, .int .u64 0, .int .u64 0] 62)).alloc (.cells #[.int .i64 0, .int .i64 0, .int .i64 0, .int .i64 0, .int .i64 0, .int .i64 0, .int .i64 0, .int .i64 0, .int .i64 0, .int .i64 0, .int .i64 0, .int .u64 0, .int .i64 0, .int .u64 0, .int .u64 0, .int .u64 0, .int .u64 0, .int .u64 0, .int .u64 0, .int .u64 0, .int .u64 0, .slice none 0 0, .bool false, .int .u64 0, .int .u64 0, .int .u64 0, .int .u64 0, .int .u64 0] 64) = W4 := ⟨_, rfl⟩
  have th : W4.there (w.heap.size + 3) 0 28 := by
    rw [← hW4]
    have := there_alloc_new (w := (((w.alloc (.cells #[.int .i64 s0, .int .i64 s1, .int .i64 s2, .int .i64 s3, .int .i64 s4, .int .i64 s5] 23)).alloc (.cells #[.int .i64 kind, .int .i64 a, .int .i64 b, .int .i64 c, .int .u64 hh] 44)).alloc (.cells #[.int .u64 0, .int .u64 0, .int .u64 0, .int .u64 0] 62))) (t := 64) (cs := tk0)
    simpa [tk0] using this
  have sz4 : W4.heap.size = w.heap.size + 4 := by rw [← hW4]; simp
  have B4 := hide (show Below w.heap.size w W4 from by rw [← hW4]; exact ((((Below.refl _ w).alloc (Nat.le_refl _) _).alloc (by simp) _).alloc (by simp; omega) _).alloc (by simp; omega) _)
  have r0 : W4.rangeAt w.heap.size 0 [.int .i64 s0, .int .i64 s1, .int .i64 s2, .int .i64 s3, .int .i64 s4, .int .i64 s5] := by rw [← hW4]; exact World.rangeAt_alloc (World.rangeAt_alloc (World.rangeAt_alloc (cell_range (b := 0)) _) _) _
  have r1 : W4.rangeAt (w.heap.size + 1) 0 [.int .i64 kind, .int .i64 a, .int .i64 b, .int .i64 c, .int .u64 hh] := by
    rw [← hW4]
    have := cell_range (b := 0) (w := w.alloc (.cells #[.int .i64 s0, .int .i64 s1, .int .i64 s2, .int .i64 s3, .int .i64 s4, .int .i64 s5] 23)) (t := 44) (cs := [.int .i64 kind, .int .i64 a, .int .i64 b, .int .i64 c, .int .u64 hh])
    rw [World.size_alloc] at this
    exact World.rangeAt_alloc (World.rangeAt_alloc this _) _
  have HR0 := hide r0
  have HR1 := hide r1
  have HTH := hide th
  have g := fun i v hv => r0 i v hv
  simp only [Nat.zero_add] at g
  have q0 := g 0 _ rfl
  have q1 := g 1 _ rfl
  have q2 := g 2 _ rfl
  have q3 := g 3 _ rfl
  have q4 := g 4 _ rfl
  have q5 := g 5 _ rfl
  clear g r0 r1 th
  obtain ⟨dT, hdT1, hdT2⟩ := row79
  have DT1 := hide hdT1
  have DT2 := hide hdT2
  clear hdT1 hdT2 hl
  obtain ⟨b3, hb3, hk⟩ : ∃ b3 : Bool, (kind == 3) = b3 ∧ (b3 = false ∨ (b3 = true ∧ ¬ a < 0 ∧ ¬ s5 ≤ a)) := ⟨_, rfl, by rcases hk with h | ⟨rfl, h⟩; exact .inl (by simpa using h); exact .inr ⟨rfl, h⟩⟩
  rcases hk with rfl | ⟨rfl, k4, k5⟩
  rotate_left 1
  have hcj : (0 ≤ hand ∧ hand ≤ 7) ∧ 0 ≤ a ∧ a < s5 := ⟨⟨by omega, by omega⟩, by omega, by omega⟩
  rotate_left 1
  · skip
    go_enter Try.func20, Try.ntmps20
    go_upto_region 8 with (go_at_call 15; refine (rsize_ok _ ⟨s0, s1, s2, s3, s4, s5⟩ h1 h2).mono ?_; rintro e w1 ⟨rfl, hg⟩; have HB := hide (below_of_grown_none hg W4.heap.size (Nat.le_refl _)); have t0 := rangeAt_block HR0.out (HB.out.block w.heap.size (by omega)); have t1 := rangeAt_block HR1.out (HB.out.block (w.heap.size + 1) (by omega)); have g := (fun i v hv => t0 i v hv); have g' := (fun i v hv => t1 i v hv); simp only [Nat.zero_add] at g g'; have c0 := g 0 _ rfl; have c1 := g 1 _ rfl; have c2 := g 2 _ rfl; have c3 := g 3 _ rfl; have c4 := g 4 _ rfl; have c5 := g 5 _ rfl; have d0 := g' 0 _ rfl;  have d1 := g' 1 _ rfl;  have d2 := g' 2 _ rfl;  have d3 := g' 3 _ rfl;  have d4 := g' 4 _ rfl; have HT1 := hide (there_block HTH.out (HB.out.block (w.heap.size + 3) (by omega))); clear g g' t0 t1 hg)
    go_wp2_with (((with_reducible refine wpList_store_mid ?h1q1 64 (.tmp 8) (.tmp 57) ?h2q1 (w.heap.size + 3) 0 l.toArray ?h3q1 ?h4q1 ?h5q1 ?h6q1 ?h7q1 ?h8q1); (case h1q1 => rfl); (case h2q1 => rfl); (case h3q1 => rfl); (case h4q1 => exact HLA.out); (case h5q1 => simpa [hl1.out.1] using HT1.out); (case h6q1 => simpa [hl1.out.1] using size79); (case h7q1 => exact all_oneCell_toArray hl1.out.2)))
    have r5 := World.rangeAt_setCells_same w1 (w.heap.size + 3) 0 l (by rw [hl1.out.1]; exact HT1.out)
    refine bodyPost_ret (v := .tuple #[.agg l.toArray, .int .i64 0]) ?resq1 rfl ⟨rfl, ?belq1⟩
    case resq1 => exact results_ct (fn := Try.f20) (t := 8) (t' := 9) (by rfl) (by rfl) (run_loadVar_mid _ _ 0 _ l dT r5 DT1.out DT2.out (by rw [hl1.out.1]; exact size79))
    case belq1 => exact (B4.out.trans (HB.out.mono (by omega))).trans ((touch_setCells (w.heap.size + 3) l 0 w1).below (fun k hk => by omega) (by have := HB.out.size; omega))
  · skip
    go_enter Try.func20, Try.ntmps20
    go_upto_region 8 with (go_at_call 15; refine (rsize_ok _ ⟨s0, s1, s2, s3, s4, s5⟩ h1 h2).mono ?_; rintro e w1 ⟨rfl, hg⟩; have HB := hide (below_of_grown_none hg W4.heap.size (Nat.le_refl _)); have t0 := rangeAt_block HR0.out (HB.out.block w.heap.size (by omega)); have t1 := rangeAt_block HR1.out (HB.out.block (w.heap.size + 1) (by omega)); have g := (fun i v hv => t0 i v hv); have g' := (fun i v hv => t1 i v hv); simp only [Nat.zero_add] at g g'; have c0 := g 0 _ rfl; have c1 := g 1 _ rfl; have c2 := g 2 _ rfl; have c3 := g 3 _ rfl; have c4 := g 4 _ rfl; have c5 := g 5 _ rfl; have d0 := g' 0 _ rfl;  have d1 := g' 1 _ rfl;  have d2 := g' 2 _ rfl;  have d3 := g' 3 _ rfl;  have d4 := g' 4 _ rfl; have HT1 := hide (there_block HTH.out (HB.out.block (w.heap.size + 3) (by omega))); clear g g' t0 t1 hg)
    go_wp2_with (((with_reducible refine wpList_store_mid ?h1q2 64 (.tmp 8) (.tmp 57) ?h2q2 (w.heap.size + 3) 0 l.toArray ?h3q2 ?h4q2 ?h5q2 ?h6q2 ?h7q2 ?h8q2); (case h1q2 => rfl); (case h2q2 => rfl); (case h3q2 => rfl); (case h4q2 => exact HLA.out); (case h5q2 => simpa [hl1.out.1] using HT1.out); (case h6q2 => simpa [hl1.out.1] using size79); (case h7q2 => exact all_oneCell_toArray hl1.out.2)))
    have r5 := World.rangeAt_setCells_same w1 (w.heap.size + 3) 0 l (by rw [hl1.out.1]; exact HT1.out)
    refine bodyPost_ret (v := .tuple #[.agg l.toArray, .int .i64 0]) ?resq2 rfl ⟨rfl, ?belq2⟩
    case resq2 => exact results_ct (fn := Try.f20) (t := 8) (t' := 9) (by rfl) (by rfl) (run_loadVar_mid _ _ 0 _ l dT r5 DT1.out DT2.out (by rw [hl1.out.1]; exact size79))
    case belq2 => exact (B4.out.trans (HB.out.mono (by omega))).trans ((touch_setCells (w.heap.size + 3) l 0 w1).below (fun k hk => by omega) (by have := HB.out.size; omega))

set_option maxHeartbeats 4000000 in
theorem rstart_kind (w : World) (s0 s1 s2 s3 s4 s5 hand kind a b c hh : Int) (h1 : 1 ≤ s5) (h2 : s5 ≤ 64) (hk : kind < 1 ∨ (¬ kind < 1 ∧ 4 < kind)) :
    Calls Try.prog 20 #[.agg #[.int .i64 s0, .int .i64 s1, .int .i64 s2, .int .i64 s3, .int .i64 s4, .int .i64 s5], .int .i64 hand, .agg #[.int .i64 kind, .int .i64 a, .int .i64 b, .int .i64 c, .int .u64 hh], .agg #[.int .u64 0, .int .u64 0, .int .u64 0, .int .u64 0]] w fun e w' => e = .returned (.tuple #[.agg (tk0).toArray, .int .i64 200]) ∧ Below w.heap.size w w' := by
  obtain ⟨l, hl⟩ : ∃ l, tk0 = l := ⟨_, rfl⟩
  rw [hl]
  have hl1 := hide (show IsTk l from by rw [← hl]; exact tk0_is)
  have HLA := hide (show Value.agg #[.int .i64 0, .int .i64 0, .int .i64 0, .int .i64 0, .int .i64 0, .int .i64 0, .int .i64 0, .int .i64 0, .int .i64 0, .int .i64 0, .int .i64 0, .int .u64 0, .int .i64 0, .int .u64 0, .int .u64 0, .int .u64 0, .int .u64 0, .int .u64 0, .int .u64 0, .int .u64 0, .int .u64 0, .slice none 0 0, .bool false, .int .u64 0, .int .u64 0, .int .u64 0, .int .u64 0, .int .u64 0] = .agg l.toArray from by rw [← hl]; rfl)
  obtain ⟨W4, hW4⟩ : ∃ W4, (((w.alloc (.cells #[.int .i64 s0, .int .i64 s1, .int .i64 s2, .int .i64 s3, .int .i64 s4, .int .i64 s5] 23)).alloc (.cells #[.int .i64 kind, .int .i64 a, .int .i64 b, .int .i64 c, .int .u64 hh] 44)).alloc (.cells #[.int .u64 0, .int .u64 0, .int .u64 0, .int .u64 0] 62)).alloc (.cells #[.int .i64 0, .int .i64 0, .int .i64 0, .int .i64 0, .int .i64 0, .int .i64 0, .int .i64 0, .int .i64 0, .int .i64 0, .int .i64 0, .int .i64 0, .int .u64 0, .int .i64 0, .int .u64 0, .int .u64 0, .int .u64 0, .int .u64 0, .int .u64 0, .int .u64 0, .int .u64 0, .int .u64 0, .slice none 0 0, .bool false, .int .u64 0, .int .u64 0, .int .u64 0, .int .u64 0, .int .u64 0] 64) = W4 := ⟨_, rfl⟩
  have th : W4.there (w.heap.size + 3) 0 28 := by
    rw [← hW4]
    have := there_alloc_new (w := (((w.alloc (.cells #[.int .i64 s0, .int .i64 s1, .int .i64 s2, .int .i64 s3, .int .i64 s4, .int .i64 s5] 23)).alloc (.cells #[.int .i64 kind, .int .i64 a, .int .i64 b, .int .i64 c, .int .u64 hh] 44)).alloc (.cells #[.int .u64 0, .int .u64 0, .int .u64 0, .int .u64 0] 62))) (t := 64) (cs := tk0)
    simpa [tk0] using this
  have sz4 : W4.heap.size = w.heap.size + 4 := by rw [← hW4]; simp
  have B4 := hide (show Below w.heap.size w W4 from by rw [← hW4]; exact ((((Below.refl _ w).alloc (Nat.le_refl _) _).alloc (by simp) _).alloc (by simp; omega) _).alloc (by simp; omega) _)
  have r0 : W4.rangeAt w.heap.size 0 [.int .i64 s0, .int .i64 s1, .int .i64 s2, .int .i64 s3, .int .i64 s4, .int .i64 s5] := by rw [← hW4]; exact World.rangeAt_alloc (World.rangeAt_alloc (World.rangeAt_alloc (cell_range (b := 0)) _) _) _
  have r1 : W4.rangeAt (w.heap.size + 1) 0 [.int .i64 kind, .int .i64 a, .int .i64 b, .int .i64 c, .int .u64 hh] := by
    rw [← hW4]
    have := cell_range (b := 0) (w := w.alloc (.cells #[.int .i64 s0, .int .i64 s1, .int .i64 s2, .int .i64 s3, .int .i64 s4, .int .i64 s5] 23)) (t := 44) (cs := [.int .i64 kind, .int .i64 a, .int .i64 b, .int .i64 c, .int .u64 hh])
    rw [World.size_alloc] at this
    exact World.rangeAt_alloc (World.rangeAt_alloc this _) _
  have HR0 := hide r0
  have HR1 := hide r1
  have HTH := hide th
  have g := fun i v hv => r0 i v hv
  simp only [Nat.zero_add] at g
  have q0 := g 0 _ rfl
  have q1 := g 1 _ rfl
  have q2 := g 2 _ rfl
  have q3 := g 3 _ rfl
  have q4 := g 4 _ rfl
  have q5 := g 5 _ rfl
  clear g r0 r1 th
  obtain ⟨dT, hdT1, hdT2⟩ := row79
  have DT1 := hide hdT1
  have DT2 := hide hdT2
  clear hdT1 hdT2 hl
  rcases hk with k1 | ⟨k1, k2⟩
  · skip
    go_enter Try.func20, Try.ntmps20
    go_wp2_with (first
      | (go_at_call 15; refine (rsize_ok _ ⟨s0, s1, s2, s3, s4, s5⟩ h1 h2).mono ?_; rintro e w1 ⟨rfl, hg⟩; have HB := hide (below_of_grown_none hg W4.heap.size (Nat.le_refl _)); have t0 := rangeAt_block HR0.out (HB.out.block w.heap.size (by omega)); have t1 := rangeAt_block HR1.out (HB.out.block (w.heap.size + 1) (by omega)); have g := (fun i v hv => t0 i v hv); have g' := (fun i v hv => t1 i v hv); simp only [Nat.zero_add] at g g'; have c0 := g 0 _ rfl; have c1 := g 1 _ rfl; have c2 := g 2 _ rfl; have c3 := g 3 _ rfl; have c4 := g 4 _ rfl; have c5 := g 5 _ rfl; have d0 := g' 0 _ rfl;  have d1 := g' 1 _ rfl;  have d2 := g' 2 _ rfl;  have d3 := g' 3 _ rfl;  have d4 := g' 4 _ rfl; have HT1 := hide (there_block HTH.out (HB.out.block (w.heap.size + 3) (by omega))); clear g g' t0 t1 hg)
      | (refine wpList_store_mid (by rfl) 64 (.tmp 8) (.tmp 29) (by rfl) (w.heap.size + 3) 0 l.toArray (by rfl) (by exact HLA.out) (by simpa [hl1.out.1] using HT1.out) (by simpa [hl1.out.1] using size79) (by exact all_oneCell_toArray hl1.out.2) ?_))
    have r5 := World.rangeAt_setCells_same w1 (w.heap.size + 3) 0 l (by rw [hl1.out.1]; exact HT1.out)
    refine bodyPost_ret (v := .tuple #[.agg l.toArray, .int .i64 200]) ?res rfl ⟨rfl, ?bel⟩
    case res => exact results_ct (fn := Try.f20) (t := 8) (t' := 9) (by rfl) (by rfl) (run_loadVar_mid _ _ 0 _ l dT r5 DT1.out DT2.out (by rw [hl1.out.1]; exact size79))
    case bel => exact (B4.out.trans (HB.out.mono (by omega))).trans ((touch_setCells (w.heap.size + 3) l 0 w1).below (fun k hk => by omega) (by have := HB.out.size; omega))
  · skip
    go_enter Try.func20, Try.ntmps20
    go_wp2_with (first
      | (go_at_call 15; refine (rsize_ok _ ⟨s0, s1, s2, s3, s4, s5⟩ h1 h2).mono ?_; rintro e w1 ⟨rfl, hg⟩; have HB := hide (below_of_grown_none hg W4.heap.size (Nat.le_refl _)); have t0 := rangeAt_block HR0.out (HB.out.block w.heap.size (by omega)); have t1 := rangeAt_block HR1.out (HB.out.block (w.heap.size + 1) (by omega)); have g := (fun i v hv => t0 i v hv); have g' := (fun i v hv => t1 i v hv); simp only [Nat.zero_add] at g g'; have c0 := g 0 _ rfl; have c1 := g 1 _ rfl; have c2 := g 2 _ rfl; have c3 := g 3 _ rfl; have c4 := g 4 _ rfl; have c5 := g 5 _ rfl; have d0 := g' 0 _ rfl;  have d1 := g' 1 _ rfl;  have d2 := g' 2 _ rfl;  have d3 := g' 3 _ rfl;  have d4 := g' 4 _ rfl; have HT1 := hide (there_block HTH.out (HB.out.block (w.heap.size + 3) (by omega))); clear g g' t0 t1 hg)
      | (refine wpList_store_mid (by rfl) 64 (.tmp 8) (.tmp 29) (by rfl) (w.heap.size + 3) 0 l.toArray (by rfl) (by exact HLA.out) (by simpa [hl1.out.1] using HT1.out) (by simpa [hl1.out.1] using size79) (by exact all_oneCell_toArray hl1.out.2) ?_))
    have r5 := World.rangeAt_setCells_same w1 (w.heap.size + 3) 0 l (by rw [hl1.out.1]; exact HT1.out)
    refine bodyPost_ret (v := .tuple #[.agg l.toArray, .int .i64 200]) ?res rfl ⟨rfl, ?bel⟩
    case res => exact results_ct (fn := Try.f20) (t := 8) (t' := 9) (by rfl) (by rfl) (run_loadVar_mid _ _ 0 _ l dT r5 DT1.out DT2.out (by rw [hl1.out.1]; exact size79))
    case bel => exact (B4.out.trans (HB.out.mono (by omega))).trans ((touch_setCells (w.heap.size + 3) l 0 w1).below (fun k hk => by omega) (by have := HB.out.size; omega))

set_option maxHeartbeats 4000000 in
theorem rstart_arg (w : World) (s0 s1 s2 s3 s4 s5 hand kind a b c hh : Int) (h1 : 1 ≤ s5) (h2 : s5 ≤ 64) (k1 : ¬ kind < 1) (k2 : ¬ 4 < kind) (hk : hand < 0 ∨ (¬ hand < 0 ∧ 7 < hand) ∨ (¬ hand < 0 ∧ ¬ 7 < hand ∧ kind = 3 ∧ a < 0) ∨ (¬ hand < 0 ∧ ¬ 7 < hand ∧ kind = 3 ∧ ¬ a < 0 ∧ s5 ≤ a)) :
    Calls Try.prog 20 #[.agg #[.int .i64 s0, .int .i64 s1, .int .i64 s2, .int .i64 s3, .int .i64 s4, .int .i64 s5], .int .i64 hand, .agg #[.int .i64 kind, .int .i64 a, .int .i64 b, .int .i64 c, .int .u64 hh], .agg #[.int .u64 0, .int .u64 0, .int .u64 0, .int .u64 0]] w fun e w' => e = .returned (.tuple #[.agg (tk0).toArray, .int .i64 2]) ∧ Below w.heap.size w w' := by
  obtain ⟨l, hl⟩ : ∃ l, tk0 = l := ⟨_, rfl⟩
  rw [hl]
  have hl1 := hide (show IsTk l from by rw [← hl]; exact tk0_is)
  have HLA := hide (show Value.agg #[.int .i64 0, .int .i64 0, .int .i64 0, .int .i64 0, .int .i64 0, .int .i64 0, .int .i64 0, .int .i64 0, .int .i64 0, .int .i64 0, .int .i64 0, .int .u64 0, .int .i64 0, .int .u64 0, .int .u64 0, .int .u64 0, .int .u64 0, .int .u64 0, .int .u64 0, .int .u64 0, .int .u64 0, .slice none 0 0, .bool false, .int .u64 0, .int .u64 0, .int .u64 0, .int .u64 0, .int .u64 0] = .agg l.toArray from by rw [← hl]; rfl)
  obtain ⟨W4, hW4⟩ : ∃ W4, (((w.alloc (.cells #[.int .i64 s0, .int .i64 s1, .int .i64 s2, .int .i64 s3, .int .i64 s4, .int .i64 s5] 23)).alloc (.cells #[.int .i64 kind, .int .i64 a, .int .i64 b, .int .i64 c, .int .u64 hh] 44)).alloc (.cells #[.int .u64 0, .int .u64 0, .int .u64 0, .int .u64 0] 62)).alloc (.cells #[.int .i64 0, .int .i64 0, .int .i64 0, .int .i64 0, .int .i64 0, .int .i64 0, .int .i64 0, .int .i64 0, .int .i64 0, .int .i64 0, .int .i64 0, .int .u64 0, .int .i64 0, .int .u64 0, .int .u64 0, .int .u64 0, .int .u64 0, .int .u64 0, .int .u64 0, .int .u64 0, .int .u64 0, .slice none 0 0, .bool false, .int .u64 0, .int .u64 0, .int .u64 0, .int .u64 0, .int .u64 0] 64) = W4 := ⟨_, rfl⟩
  have th : W4.there (w.heap.size + 3) 0 28 := by
    rw [← hW4]
    have := there_alloc_new (w := (((w.alloc (.cells #[.int .i64 s0, .int .i64 s1, .int .i64 s2, .int .i64 s3, .int .i64 s4, .int .i64 s5] 23)).alloc (.cells #[.int .i64 kind, .int .i64 a, .int .i64 b, .int .i64 c, .int .u64 hh] 44)).alloc (.cells #[.int .u64 0, .int .u64 0, .int .u64 0, .int .u64 0] 62))) (t := 64) (cs := tk0)
    simpa [tk0] using this
  have sz4 : W4.heap.size = w.heap.size + 4 := by rw [← hW4]; simp
  have B4 := hide (show Below w.heap.size w W4 from by rw [← hW4]; exact ((((Below.refl _ w).alloc (Nat.le_refl _) _).alloc (by simp) _).alloc (by simp; omega) _).alloc (by simp; omega) _)
  have r0 : W4.rangeAt w.heap.size 0 [.int .i64 s0, .int .i64 s1, .int .i64 s2, .int .i64 s3, .int .i64 s4, .int .i64 s5] := by rw [← hW4]; exact World.rangeAt_alloc (World.rangeAt_alloc (World.rangeAt_alloc (cell_range (b := 0)) _) _) _
  have r1 : W4.rangeAt (w.heap.size + 1) 0 [.int .i64 kind, .int .i64 a, .int .i64 b, .int .i64 c, .int .u64 hh] := by
    rw [← hW4]
    have := cell_range (b := 0) (w := w.alloc (.cells #[.int .i64 s0, .int .i64 s1, .int .i64 s2, .int .i64 s3, .int .i64 s4, .int .i64 s5] 23)) (t := 44) (cs := [.int .i64 kind, .int .i64 a, .int .i64 b, .int .i64 c, .int .u64 hh])
    rw [World.size_alloc] at this
    exact World.rangeAt_alloc (World.rangeAt_alloc this _) _
  have HR0 := hide r0
  have HR1 := hide r1
  have HTH := hide th
  have g := fun i v hv => r0 i v hv
  simp only [Nat.zero_add] at g
  have q0 := g 0 _ rfl
  have q1 := g 1 _ rfl
  have q2 := g 2 _ rfl
  have q3 := g 3 _ rfl
  have q4 := g 4 _ rfl
  have q5 := g 5 _ rfl
  clear g r0 r1 th
  obtain ⟨dT, hdT1, hdT2⟩ := row79
  have DT1 := hide hdT1
  have DT2 := hide hdT2
  clear hdT1 hdT2 hl
  rcases hk with m1 | ⟨m1, m2⟩ | ⟨m1, m2, m5, m3⟩ | ⟨m1, m2, m5, m3, m4⟩
  rotate_left 2
  have k3 : (kind == 3) = true := by simpa using m5
  clear m5
  rotate_left 1
  have k3 : (kind == 3) = true := by simpa using m5
  clear m5
  rotate_left 1
  · skip
    go_enter Try.func20, Try.ntmps20
    go_upto_region 7 with (go_at_call 15; refine (rsize_ok _ ⟨s0, s1, s2, s3, s4, s5⟩ h1 h2).mono ?_; rintro e w1 ⟨rfl, hg⟩; have HB := hide (below_of_grown_none hg W4.heap.size (Nat.le_refl _)); have t0 := rangeAt_block HR0.out (HB.out.block w.heap.size (by omega)); have t1 := rangeAt_block HR1.out (HB.out.block (w.heap.size + 1) (by omega)); have g := (fun i v hv => t0 i v hv); have g' := (fun i v hv => t1 i v hv); simp only [Nat.zero_add] at g g'; have c0 := g 0 _ rfl; have c1 := g 1 _ rfl; have c2 := g 2 _ rfl; have c3 := g 3 _ rfl; have c4 := g 4 _ rfl; have c5 := g 5 _ rfl; have d0 := g' 0 _ rfl;  have d1 := g' 1 _ rfl;  have d2 := g' 2 _ rfl;  have d3 := g' 3 _ rfl;  have d4 := g' 4 _ rfl; have HT1 := hide (there_block HTH.out (HB.out.block (w.heap.size + 3) (by omega))); clear g g' t0 t1 hg)
    go_wp2_with (((with_reducible refine wpList_store_mid ?h1q1 64 (.tmp 8) (.tmp 53) ?h2q1 (w.heap.size + 3) 0 l.toArray ?h3q1 ?h4q1 ?h5q1 ?h6q1 ?h7q1 ?h8q1); (case h1q1 => rfl); (case h2q1 => rfl); (case h3q1 => rfl); (case h4q1 => exact HLA.out); (case h5q1 => simpa [hl1.out.1] using HT1.out); (case h6q1 => simpa [hl1.out.1] using size79); (case h7q1 => exact all_oneCell_toArray hl1.out.2)))
    have r5 := World.rangeAt_setCells_same w1 (w.heap.size + 3) 0 l (by rw [hl1.out.1]; exact HT1.out)
    refine bodyPost_ret (v := .tuple #[.agg l.toArray, .int .i64 2]) ?resq1 rfl ⟨rfl, ?belq1⟩
    case resq1 => exact results_ct (fn := Try.f20) (t := 8) (t' := 9) (by rfl) (by rfl) (run_loadVar_mid _ _ 0 _ l dT r5 DT1.out DT2.out (by rw [hl1.out.1]; exact size79))
    case belq1 => exact (B4.out.trans (HB.out.mono (by omega))).trans ((touch_setCells (w.heap.size + 3) l 0 w1).below (fun k hk => by omega) (by have := HB.out.size; omega))
  · skip
    go_enter Try.func20, Try.ntmps20
    go_upto_region 7 with (go_at_call 15; refine (rsize_ok _ ⟨s0, s1, s2, s3, s4, s5⟩ h1 h2).mono ?_; rintro e w1 ⟨rfl, hg⟩; have HB := hide (below_of_grown_none hg W4.heap.size (Nat.le_refl _)); have t0 := rangeAt_block HR0.out (HB.out.block w.heap.size (by omega)); have t1 := rangeAt_block HR1.out (HB.out.block (w.heap.size + 1) (by omega)); have g := (fun i v hv => t0 i v hv); have g' := (fun i v hv => t1 i v hv); simp only [Nat.zero_add] at g g'; have c0 := g 0 _ rfl; have c1 := g 1 _ rfl; have c2 := g 2 _ rfl; have c3 := g 3 _ rfl; have c4 := g 4 _ rfl; have c5 := g 5 _ rfl; have d0 := g' 0 _ rfl;  have d1 := g' 1 _ rfl;  have d2 := g' 2 _ rfl;  have d3 := g' 3 _ rfl;  have d4 := g' 4 _ rfl; have HT1 := hide (there_block HTH.out (HB.out.block (w.heap.size + 3) (by omega))); clear g g' t0 t1 hg)
    go_wp2_with (((with_reducible refine wpList_store_mid ?h1q2 64 (.tmp 8) (.tmp 53) ?h2q2 (w.heap.size + 3) 0 l.toArray ?h3q2 ?h4q2 ?h5q2 ?h6q2 ?h7q2 ?h8q2); (case h1q2 => rfl); (case h2q2 => rfl); (case h3q2 => rfl); (case h4q2 => exact HLA.out); (case h5q2 => simpa [hl1.out.1] using HT1.out); (case h6q2 => simpa [hl1.out.1] using size79); (case h7q2 => exact all_oneCell_toArray hl1.out.2)))
    have r5 := World.rangeAt_setCells_same w1 (w.heap.size + 3) 0 l (by rw [hl1.out.1]; exact HT1.out)
    refine bodyPost_ret (v := .tuple #[.agg l.toArray, .int .i64 2]) ?resq2 rfl ⟨rfl, ?belq2⟩
    case resq2 => exact results_ct (fn := Try.f20) (t := 8) (t' := 9) (by rfl) (by rfl) (run_loadVar_mid _ _ 0 _ l dT r5 DT1.out DT2.out (by rw [hl1.out.1]; exact size79))
    case belq2 => exact (B4.out.trans (HB.out.mono (by omega))).trans ((touch_setCells (w.heap.size + 3) l 0 w1).below (fun k hk => by omega) (by have := HB.out.size; omega))
  · skip
    go_enter Try.func20, Try.ntmps20
    go_upto_region 7 with (go_at_call 15; refine (rsize_ok _ ⟨s0, s1, s2, s3, s4, s5⟩ h1 h2).mono ?_; rintro e w1 ⟨rfl, hg⟩; have HB := hide (below_of_grown_none hg W4.heap.size (Nat.le_refl _)); have t0 := rangeAt_block HR0.out (HB.out.block w.heap.size (by omega)); have t1 := rangeAt_block HR1.out (HB.out.block (w.heap.size + 1) (by omega)); have g := (fun i v hv => t0 i v hv); have g' := (fun i v hv => t1 i v hv); simp only [Nat.zero_add] at g g'; have c0 := g 0 _ rfl; have c1 := g 1 _ rfl; have c2 := g 2 _ rfl; have c3 := g 3 _ rfl; have c4 := g 4 _ rfl; have c5 := g 5 _ rfl; have d0 := g' 0 _ rfl;  have d1 := g' 1 _ rfl;  have d2 := g' 2 _ rfl;  have d3 := g' 3 _ rfl;  have d4 := g' 4 _ rfl; have HT1 := hide (there_block HTH.out (HB.out.block (w.heap.size + 3) (by omega))); clear g g' t0 t1 hg)
    go_wp2_with (((with_reducible refine wpList_store_mid ?h1q3 64 (.tmp 8) (.tmp 53) ?h2q3 (w.heap.size + 3) 0 l.toArray ?h3q3 ?h4q3 ?h5q3 ?h6q3 ?h7q3 ?h8q3); (case h1q3 => rfl); (case h2q3 => rfl); (case h3q3 => rfl); (case h4q3 => exact HLA.out); (case h5q3 => simpa [hl1.out.1] using HT1.out); (case h6q3 => simpa [hl1.out.1] using size79); (case h7q3 => exact all_oneCell_toArray hl1.out.2)))
    have r5 := World.rangeAt_setCells_same w1 (w.heap.size + 3) 0 l (by rw [hl1.out.1]; exact HT1.out)
    refine bodyPost_ret (v := .tuple #[.agg l.toArray, .int .i64 2]) ?resq3 rfl ⟨rfl, ?belq3⟩
    case resq3 => exact results_ct (fn := Try.f20) (t := 8) (t' := 9) (by rfl) (by rfl) (run_loadVar_mid _ _ 0 _ l dT r5 DT1.out DT2.out (by rw [hl1.out.1]; exact size79))
    case belq3 => exact (B4.out.trans (HB.out.mono (by omega))).trans ((touch_setCells (w.heap.size + 3) l 0 w1).below (fun k hk => by omega) (by have := HB.out.size; omega))
  · skip
    go_enter Try.func20, Try.ntmps20
    go_upto_region 7 with (go_at_call 15; refine (rsize_ok _ ⟨s0, s1, s2, s3, s4, s5⟩ h1 h2).mono ?_; rintro e w1 ⟨rfl, hg⟩; have HB := hide (below_of_grown_none hg W4.heap.size (Nat.le_refl _)); have t0 := rangeAt_block HR0.out (HB.out.block w.heap.size (by omega)); have t1 := rangeAt_block HR1.out (HB.out.block (w.heap.size + 1) (by omega)); have g := (fun i v hv => t0 i v hv); have g' := (fun i v hv => t1 i v hv); simp only [Nat.zero_add] at g g'; have c0 := g 0 _ rfl; have c1 := g 1 _ rfl; have c2 := g 2 _ rfl; have c3 := g 3 _ rfl; have c4 := g 4 _ rfl; have c5 := g 5 _ rfl; have d0 := g' 0 _ rfl;  have d1 := g' 1 _ rfl;  have d2 := g' 2 _ rfl;  have d3 := g' 3 _ rfl;  have d4 := g' 4 _ rfl; have HT1 := hide (there_block HTH.out (HB.out.block (w.heap.size + 3) (by omega))); clear g g' t0 t1 hg)
    go_wp2_with (((with_reducible refine wpList_store_mid ?h1q4 64 (.tmp 8) (.tmp 53) ?h2q4 (w.heap.size + 3) 0 l.toArray ?h3q4 ?h4q4 ?h5q4 ?h6q4 ?h7q4 ?h8q4); (case h1q4 => rfl); (case h2q4 => rfl); (case h3q4 => rfl); (case h4q4 => exact HLA.out); (case h5q4 => simpa [hl1.out.1] using HT1.out); (case h6q4 => simpa [hl1.out.1] using size79); (case h7q4 => exact all_oneCell_toArray hl1.out.2)))
    have r5 := World.rangeAt_setCells_same w1 (w.heap.size + 3) 0 l (by rw [hl1.out.1]; exact HT1.out)
    refine bodyPost_ret (v := .tuple #[.agg l.toArray, .int .i64 2]) ?resq4 rfl ⟨rfl, ?belq4⟩
    case resq4 => exact results_ct (fn := Try.f20) (t := 8) (t' := 9) (by rfl) (by rfl) (run_loadVar_mid _ _ 0 _ l dT r5 DT1.out DT2.out (by rw [hl1.out.1]; exact size79))
    case belq4 => exact (B4.out.trans (HB.out.mono (by omega))).trans ((touch_setCells (w.heap.size + 3) l 0 w1).below (fun k hk => by omega) (by have := HB.out.size; omega))

set_option maxHeartbeats 4000000 in
theorem rstart_shape (w : World) (s0 s1 s2 s3 s4 s5 hand kind a b c hh : Int) (h : s5 < 1 ∨ 64 < s5) :
    Calls Try.prog 20 #[.agg #[.int .i64 s0, .int .i64 s1, .int .i64 s2, .int .i64 s3, .int .i64 s4, .int .i64 s5], .int .i64 hand, .agg #[.int .i64 kind, .int .i64 a, .int .i64 b, .int .i64 c, .int .u64 hh], .agg #[.int .u64 0, .int .u64 0, .int .u64 0, .int .u64 0]] w fun e w' => e = .returned (.tuple #[.agg (tk0).toArray, .int .i64 120]) ∧ Below w.heap.size w w' := by
  obtain ⟨l, hl⟩ : ∃ l, tk0 = l := ⟨_, rfl⟩
  rw [hl]
  have hl1 := hide (show IsTk l from by rw [← hl]; exact tk0_is)
  have HLA := hide (show Value.agg #[.int .i64 0, .int .i64 0, .int .i64 0, .int .i64 0, .int .i64 0, .int .i64 0, .int .i64 0, .int .i64 0, .int .i64 0, .int .i64 0, .int .i64 0, .int .u64 0, .int .i64 0, .int .u64 0, .int .u64 0, .int .u64 0, .int .u64 0, .int .u64 0, .int .u64 0, .int .u64 0, .int .u64 0, .slice none 0 0, .bool false, .int .u64 0, .int .u64 0, .int .u64 0, .int .u64 0, .int .u64 0] = .agg l.toArray from by rw [← hl]; rfl)
  obtain ⟨W4, hW4⟩ : ∃ W4, (((w.alloc (.cells #[.int .i64 s0, .int .i64 s1, .int .i64 s2, .int .i64 s3, .int .i64 s4, .int .i64 s5] 23)).alloc (.cells #[.int .i64 kind, .int .i64 a, .int .i64 b, .int .i64 c, .int .u64 hh] 44)).alloc (.cells #[.int .u64 0, .int .u64 0, .int .u64 0, .int .u64 0] 62)).alloc (.cells #[.int .i64 0, .int .i64 0, .int .i64 0, .int .i64 0, .int .i64 0, .int .i64 0, .int .i64 0, .int .i64 0, .int .i64 0, .int .i64 0, .int .i64 0, .int .u64 0, .int .i64 0, .int .u64 0, .int .u64 0, .int .u64 0, .int .u64 0, .int .u64 0, .int .u64 0, .int .u64 0, .int .u64 0, .slice none 0 0, .bool false, .int .u64 0, .int .u64 0, .int .u64 0, .int .u64 0, .int .u64 0] 64) = W4 := ⟨_, rfl⟩
  have th : W4.there (w.heap.size + 3) 0 28 := by
    rw [← hW4]
    have := there_alloc_new (w := (((w.alloc (.cells #[.int .i64 s0, .int .i64 s1, .int .i64 s2, .int .i64 s3, .int .i64 s4, .int .i64 s5] 23)).alloc (.cells #[.int .i64 kind, .int .i64 a, .int .i64 b, .int .i64 c, .int .u64 hh] 44)).alloc (.cells #[.int .u64 0, .int .u64 0, .int .u64 0, .int .u64 0] 62))) (t := 64) (cs := tk0)
    simpa [tk0] using this
  have sz4 : W4.heap.size = w.heap.size + 4 := by rw [← hW4]; simp
  have B4 := hide (show Below w.heap.size w W4 from by rw [← hW4]; exact ((((Below.refl _ w).alloc (Nat.le_refl _) _).alloc (by simp) _).alloc (by simp; omega) _).alloc (by simp; omega) _)
  have r0 : W4.rangeAt w.heap.size 0 [.int .i64 s0, .int .i64 s1, .int .i64 s2, .int .i64 s3, .int .i64 s4, .int .i64 s5] := by rw [← hW4]; exact World.rangeAt_alloc (World.rangeAt_alloc (World.rangeAt_alloc (cell_range (b := 0)) _) _) _
  have r1 : W4.rangeAt (w.heap.size + 1) 0 [.int .i64 kind, .int .i64 a, .int .i64 b, .int .i64 c, .int .u64 hh] := by
    rw [← hW4]
    have := cell_range (b := 0) (w := w.alloc (.cells #[.int .i64 s0, .int .i64 s1, .int .i64 s2, .int .i64 s3, .int .i64 s4, .int .i64 s5] 23)) (t := 44) (cs := [.int .i64 kind, .int .i64 a, .int .i64 b, .int .i64 c, .int .u64 hh])
    rw [World.size_alloc] at this
    exact World.rangeAt_alloc (World.rangeAt_alloc this _) _
  have HR0 := hide r0
  have HR1 := hide r1
  have HTH := hide th
  have g := fun i v hv => r0 i v hv
  simp only [Nat.zero_add] at g
  have q0 := g 0 _ rfl
  have q1 := g 1 _ rfl
  have q2 := g 2 _ rfl
  have q3 := g 3 _ rfl
  have q4 := g 4 _ rfl
  have q5 := g 5 _ rfl
  clear g r0 r1 th
  obtain ⟨dT, hdT1, hdT2⟩ := row79
  have DT1 := hide hdT1
  have DT2 := hide hdT2
  clear hdT1 hdT2 hl
  · skip
    go_enter Try.func20, Try.ntmps20
    go_wp2_with (first
      | (go_at_call 15; refine (rsize_bad _ ⟨s0, s1, s2, s3, s4, s5⟩ h).mono ?_; rintro e w1 ⟨rfl, hg⟩; have HB := hide (below_of_grown_none hg W4.heap.size (Nat.le_refl _)); have t0 := rangeAt_block HR0.out (HB.out.block w.heap.size (by omega)); have t1 := rangeAt_block HR1.out (HB.out.block (w.heap.size + 1) (by omega)); have g := (fun i v hv => t0 i v hv); have g' := (fun i v hv => t1 i v hv); simp only [Nat.zero_add] at g g'; have c0 := g 0 _ rfl; have c1 := g 1 _ rfl; have c2 := g 2 _ rfl; have c3 := g 3 _ rfl; have c4 := g 4 _ rfl; have c5 := g 5 _ rfl; have d0 := g' 0 _ rfl;  have d1 := g' 1 _ rfl;  have d2 := g' 2 _ rfl;  have d3 := g' 3 _ rfl;  have d4 := g' 4 _ rfl; have HT1 := hide (there_block HTH.out (HB.out.block (w.heap.size + 3) (by omega))); clear g g' t0 t1 hg)
      | (refine wpList_store_mid (by rfl) 64 (.tmp 8) (.tmp 19) (by rfl) (w.heap.size + 3) 0 l.toArray (by rfl) (by exact HLA.out) (by simpa [hl1.out.1] using HT1.out) (by simpa [hl1.out.1] using size79) (by exact all_oneCell_toArray hl1.out.2) ?_))
    have r5 := World.rangeAt_setCells_same w1 (w.heap.size + 3) 0 l (by rw [hl1.out.1]; exact HT1.out)
    refine bodyPost_ret (v := .tuple #[.agg l.toArray, .int .i64 120]) ?res rfl ⟨rfl, ?bel⟩
    case res => exact results_ct (fn := Try.f20) (t := 8) (t' := 9) (by rfl) (by rfl) (run_loadVar_mid _ _ 0 _ l dT r5 DT1.out DT2.out (by rw [hl1.out.1]; exact size79))
    case bel => exact (B4.out.trans (HB.out.mono (by omega))).trans ((touch_setCells (w.heap.size + 3) l 0 w1).below (fun k hk => by omega) (by have := HB.out.size; omega))

end Epoch
end Go.Proofs.Ytdflicgjkleonaa
