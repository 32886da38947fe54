/-
  Lemmas: SeqRS.
-/
import Derived.Test.YtkiojiibppdjjaaTp22
import Derived.Test.YtkiojiibppdjjaaTp19
/-
  Seq's reference: Size and Start.
-/
namespace Go.Proofs.Ytkiojiibppdjjaa
open Go.RowKit
set_option linter.unusedVariables false
set_option linter.unusedSimpArgs false
set_option linter.unnecessarySimpa false
set_option maxRecDepth 20000
namespace Seq

theorem rsize_ok (w : World) (sh : Shp) (h1 : 1 ≤ sh.f) (h2 : sh.f ≤ 64) : Calls Try.prog 19 #[sh.val] w fun e w' => e = .returned (.tuple #[.int .i64 (1 + sh.f), .int .i64 0]) ∧ w.grownBy w' none := by
  obtain ⟨s0, s1, s2, s3, s4, s5⟩ := sh
  simp only [Shp.val] at h1 h2 ⊢
  have g1 : ¬ s5 < 1 := by omega
  have g2 : ¬ 64 < s5 := by omega
  have g4 : wrap64 (1 + s5) = 1 + s5 := by unfold wrap64; omega
  go_enter Try.func19, Try.ntmps19
  go_wp2
  go_ret2
  exact ⟨rfl, grown_alloc (grown_refl _ _) _⟩
theorem rsize_bad (w : World) (sh : Shp) (h : sh.f < 1 ∨ 64 < sh.f) : Calls Try.prog 19 #[sh.val] w fun e w' => e = .returned (.tuple #[.int .i64 0, .int .i64 120]) ∧ w.grownBy w' none := by
  obtain ⟨s0, s1, s2, s3, s4, s5⟩ := sh
  simp only [Shp.val] at h ⊢
  by_cases g1 : s5 < 1
  · go_enter Try.func19, Try.ntmps19
    go_wp2
    go_ret2
    exact ⟨rfl, grown_alloc (grown_refl _ _) _⟩
  · have g2 : 64 < s5 := by omega
    go_enter Try.func19, Try.ntmps19
    go_wp2
    go_ret2
    exact ⟨rfl, grown_alloc (grown_refl _ _) _⟩

set_option maxHeartbeats 4000000 in
theorem rstart_ok (w : World) (s0 s1 s2 s3 s4 s5 hand kind a b c hh : Int) (h1 : 1 ≤ s5) (h2 : s5 ≤ 64) (hk : (kind = 1 ∧ hand = 0) ∨ kind = 2) :
    Calls Try.prog 23 #[.agg #[.int .i64 s0, .int .i64 s1, .int .i64 s2, .int .i64 s3, .int .i64 s4, .int .i64 s5], .int .i64 hand, .agg #[.int .i64 kind, .int .i64 a, .int .i64 b, .int .i64 c, .int .u64 hh], .agg #[.int .u64 0, .int .u64 0, .int .u64 0, .int .u64 0]] w fun e w' => e = .returned (.tuple #[.agg (tk ⟨s0, s1, s2, s3, s4, s5⟩ hand ⟨kind, a, b, c, hh⟩ 0 .zero ⟨false, 0⟩).toArray, .int .i64 0]) ∧ Below w.heap.size w w' := by
  obtain ⟨l, hl⟩ : ∃ l, tk ⟨s0, s1, s2, s3, s4, s5⟩ hand ⟨kind, a, b, c, hh⟩ 0 .zero ⟨false, 0⟩ = l := ⟨_, rfl⟩
  rw [hl]
  have hl1 := hide (show IsTk l from by rw [← hl]; exact tk_is _ _ _ _ _ _)
  have HLA := hide (show Value.agg #[.int .i64 s0, .int .i64 s1, .int .i64 s2, .int .i64 s3, .int .i64 s4, .int .i64 s5, .int .i64 hand, .int .i64 kind, .int .i64 a, .int .i64 b, .int .i64 c, .int .u64 hh, .int .i64 0, .int .u64 0, .int .u64 0, .int .u64 0, .int .u64 0, .int .u64 0, .int .u64 0, .int .u64 0, .int .u64 0, .slice none 0 0, .bool false, .int .u64 0, .int .u64 0, .int .u64 0, .int .u64 0, .int .u64 0] = .agg l.toArray from by rw [← hl]; rfl)
  obtain ⟨W4, hW4⟩ : ∃ W4, (((w.alloc (.cells #[.int .i64 s0, .int .i64 s1, .int .i64 s2, .int .i64 s3, .int .i64 s4, .int .i64 s5] 23)).alloc (.cells #[.int .i64 kind, .int .i64 a, .int .i64 b, .int .i64 c, .int .u64 hh] 49)).alloc (.cells #[.int .u64 0, .int .u64 0, .int .u64 0, .int .u64 0] 62)).alloc (.cells #[.int .i64 0, .int .i64 0, .int .i64 0, .int .i64 0, .int .i64 0, .int .i64 0, .int .i64 0, .int .i64 0, .int .i64 0, .int .i64 0, .int .i64 0, .int .u64 0, .int .i64 0, .int .u64 0, .int .u64 0, .int .u64 0, .int .u64 0, .int .u64 0, .int .u64 0, .int .u64 0, .int .u64 0, .slice none 0 0, .bool false, .int .u64 0, .int .u64 0, .int .u64 0, .int .u64 0, .int .u64 0] 64) = W4 := ⟨_, rfl⟩
  have th : W4.there (w.heap.size + 3) 0 28 := by
    rw [← hW4]
    have := there_alloc_new (w := (((w.alloc (.cells #[.int .i64 s0, .int .i64 s1, .int .i64 s2, .int .i64 s3, .int .i64 s4, .int .i64 s5] 23)).alloc (.cells #[.int .i64 kind, .int .i64 a, .int .i64 b, .int .i64 c, .int .u64 hh] 49)).alloc (.cells #[.int .u64 0, .int .u64 0, .int .u64 0, .int .u64 0] 62))) (t := 64) (cs := tk0)
    simpa [tk0] using this
  have sz4 : W4.heap.size = w.heap.size + 4 := by rw [← hW4]; simp
  have B4 := hide (show Below w.heap.size w W4 from by rw [← hW4]; exact ((((Below.refl _ w).alloc (Nat.le_refl _) _).alloc (by simp) _).alloc (by simp; omega) _).alloc (by simp; omega) _)
  have r0 : W4.rangeAt w.heap.size 0 [.int .i64 s0, .int .i64 s1, .int .i64 s2, .int .i64 s3, .int .i64 s4, .int .i64 s5] := by rw [← hW4]; exact World.rangeAt_alloc (World.rangeAt_alloc (World.rangeAt_alloc (cell_range (b := 0)) _) _) _
  have r1 : W4.rangeAt (w.heap.size + 1) 0 [.int .i64 kind, .int .i64 a, .int .i64 b, .int .i64 c, .int .u64 hh] := by
    rw [← hW4]
    have := cell_range (b := 0) (w := w.alloc (.cells #[.int .i64 s0, .int .i64 s1, .int .i64 s2, .int .i64 s3, .int .i64 s4, .int .i64 s5] 23)) (t := 49) (cs := [.int .i64 kind, .int .i64 a, .int .i64 b, .int .i64 c, .int .u64 hh])
    rw [World.size_alloc] at this
    exact World.rangeAt_alloc (World.rangeAt_alloc this _) _
  have HR0 := hide r0
  have HR1 := hide r1
  have HTH := hide th
  have g := fun i v hv => r0 i v hv
  simp only [Nat.zero_add] at g
  have q0 := g 0 _ rfl
  have q1 := g 1 _ rfl
  have q2 := g 2 _ rfl
  have q3 := g 3 _ rfl
  have q4 := g 4 _ rfl
  have q5 := g 5 _ rfl
  clear g r0 r1 th
  obtain ⟨dT, hdT1, hdT2⟩ := row79
  have DT1 := hide hdT1
  have DT2 := hide hdT2
  clear hdT1 hdT2 hl
  rcases hk with ⟨rfl, rfl⟩ | rfl
  · skip
    go_enter Try.func23, Try.ntmps23
    go_wp2_with (first
      | (go_at_call 19; refine (rsize_ok _ ⟨s0, s1, s2, s3, s4, s5⟩ h1 h2).mono ?_; rintro e w1 ⟨rfl, hg⟩; have HB := hide (below_of_grown_none hg W4.heap.size (Nat.le_refl _)); have t0 := rangeAt_block HR0.out (HB.out.block w.heap.size (by omega)); have t1 := rangeAt_block HR1.out (HB.out.block (w.heap.size + 1) (by omega)); have g := (fun i v hv => t0 i v hv); have g' := (fun i v hv => t1 i v hv); simp only [Nat.zero_add] at g g'; have c0 := g 0 _ rfl; have c1 := g 1 _ rfl; have c2 := g 2 _ rfl; have c3 := g 3 _ rfl; have c4 := g 4 _ rfl; have c5 := g 5 _ rfl; have d0 := g' 0 _ rfl;  have d1 := g' 1 _ rfl;  have d2 := g' 2 _ rfl;  have d3 := g' 3 _ rfl;  have d4 := g' 4 _ rfl; have HT1 := hide (there_block HTH.out (HB.out.block (w.heap.size + 3) (by omega))); clear g g' t0 t1 hg)
      | (refine wpList_store_mid (by rfl) 64 (.tmp 8) (.tmp 41) (by rfl) (w.heap.size + 3) 0 l.toArray (by rfl) (by exact HLA.out) (by simpa [hl1.out.1] using HT1.out) (by simpa [hl1.out.1] using size79) (by exact all_oneCell_toArray hl1.out.2) ?_))
    have r5 := World.rangeAt_setCells_same w1 (w.heap.size + 3) 0 l (by rw [hl1.out.1]; exact HT1.out)
    refine bodyPost_ret (v := .tuple #[.agg l.toArray, .int .i64 0]) ?res rfl ⟨rfl, ?bel⟩
    case res => exact results_ct (fn := Try.f23) (t := 8) (t' := 9) (by rfl) (by rfl) (run_loadVar_mid _ _ 0 _ l dT r5 DT1.out DT2.out (by rw [hl1.out.1]; exact size79))
    case bel => exact (B4.out.trans (HB.out.mono (by omega))).trans ((touch_setCells (w.heap.size + 3) l 0 w1).below (fun k hk => by omega) (by have := HB.out.size; omega))
  · skip
    go_enter Try.func23, Try.ntmps23
    go_wp2_with (first
      | (go_at_call 19; refine (rsize_ok _ ⟨s0, s1, s2, s3, s4, s5⟩ h1 h2).mono ?_; rintro e w1 ⟨rfl, hg⟩; have HB := hide (below_of_grown_none hg W4.heap.size (Nat.le_refl _)); have t0 := rangeAt_block HR0.out (HB.out.block w.heap.size (by omega)); have t1 := rangeAt_block HR1.out (HB.out.block (w.heap.size + 1) (by omega)); have g := (fun i v hv => t0 i v hv); have g' := (fun i v hv => t1 i v hv); simp only [Nat.zero_add] at g g'; have c0 := g 0 _ rfl; have c1 := g 1 _ rfl; have c2 := g 2 _ rfl; have c3 := g 3 _ rfl; have c4 := g 4 _ rfl; have c5 := g 5 _ rfl; have d0 := g' 0 _ rfl;  have d1 := g' 1 _ rfl;  have d2 := g' 2 _ rfl;  have d3 := g' 3 _ rfl;  have d4 := g' 4 _ rfl; have HT1 := hide (there_block HTH.out (HB.out.block (w.heap.size + 3) (by omega))); clear g g' t0 t1 hg)
      | (refine wpList_store_mid (by rfl) 64 (.tmp 8) (.tmp 41) (by rfl) (w.heap.size + 3) 0 l.toArray (by rfl) (by exact HLA.out) (by simpa [hl1.out.1] using HT1.out) (by simpa [hl1.out.1] using size79) (by exact all_oneCell_toArray hl1.out.2) ?_))
    have r5 := World.rangeAt_setCells_same w1 (w.heap.size + 3) 0 l (by rw [hl1.out.1]; exact HT1.out)
    refine bodyPost_ret (v := .tuple #[.agg l.toArray, .int .i64 0]) ?res rfl ⟨rfl, ?bel⟩
    case res => exact results_ct (fn := Try.f23) (t := 8) (t' := 9) (by rfl) (by rfl) (run_loadVar_mid _ _ 0 _ l dT r5 DT1.out DT2.out (by rw [hl1.out.1]; exact size79))
    case bel => exact (B4.out.trans (HB.out.mono (by omega))).trans ((touch_setCells (w.heap.size + 3) l 0 w1).below (fun k hk => by omega) (by have := HB.out.size; omega))

set_option maxHeartbeats 4000000 in
theorem rstart_kind (w : World) (s0 s1 s2 s3 s4 s5 hand kind a b c hh : Int) (h1 : 1 ≤ s5) (h2 : s5 ≤ 64) (k1 : ¬ kind = 1) (k2 : ¬ kind = 2) :
    Calls Try.prog 23 #[.agg #[.int .i64 s0, .int .i64 s1, .int .i64 s2, .int .i64 s3, .int .i64 s4, .int .i64 s5], .int .i64 hand, .agg #[.int .i64 kind, .int .i64 a, .int .i64 b, .int .i64 c, .int .u64 hh], .agg #[.int .u64 0, .int .u64 0, .int .u64 0, .int .u64 0]] w fun e w' => e = .returned (.tuple #[.agg (tk0).toArray, .int .i64 200]) ∧ Below w.heap.size w w' := by
  obtain ⟨l, hl⟩ : ∃ l, tk0 = l := ⟨_, rfl⟩
  rw [hl]
  have hl1 := hide (show IsTk l from by rw [← hl]; exact tk0_is)
  have HLA := hide (show Value.agg #[.int .i64 0, .int .i64 0, .int .i64 0, .int .i64 0, .int .i64 0, .int .i64 0, .int .i64 0, .int .i64 0, .int .i64 0, .int .i64 0, .int .i64 0, .int .u64 0, .int .i64 0, .int .u64 0, .int .u64 0, .int .u64 0, .int .u64 0, .int .u64 0, .int .u64 0, .int .u64 0, .int .u64 0, .slice none 0 0, .bool false, .int .u64 0, .int .u64 0, .int .u64 0, .int .u64 0, .int .u64 0] = .agg l.toArray from by rw [← hl]; rfl)
  obtain ⟨W4, hW4⟩ : ∃ W4, (((w.alloc (.cells #[.int .i64 s0, .int .i64 s1, .int .i64 s2, .int .i64 s3, .int .i64 s4, .int .i64 s5] 23)).alloc (.cells #[.int .i64 kind, .int .i64 a, .int .i64 b, .int .i64 c, .int .u64 hh] 49)).alloc (.cells #[.int .u64 0, .int .u64 0, .int .u64 0, .int .u64 0] 62)).alloc (.cells #[.int .i64 0, .int .i64 0, .int .i64 0, .int .i64 0, .int .i64 0, .int .i64 0, .int .i64 0, .int .i64 0, .int .i64 0, .int .i64 0, .int .i64 0, .int .u64 0, .int .i64 0, .int .u64 0, .int .u64 0, .int .u64 0, .int .u64 0, .int .u64 0, .int .u64 0, .int .u64 0, .int .u64 0, .slice none 0 0, .bool false, .int .u64 0, .int .u64 0, .int .u64 0, .int .u64 0, .int .u64 0] 64) = W4 := ⟨_, rfl⟩
  have th : W4.there (w.heap.size + 3) 0 28 := by
    rw [← hW4]
    have := there_alloc_new (w := (((w.alloc (.cells #[.int .i64 s0, .int .i64 s1, .int .i64 s2, .int .i64 s3, .int .i64 s4, .int .i64 s5] 23)).alloc (.cells #[.int .i64 kind, .int .i64 a, .int .i64 b, .int .i64 c, .int .u64 hh] 49)).alloc (.cells #[.int .u64 0, .int .u64 0, .int .u64 0, .int .u64 0] 62))) (t := 64) (cs := tk0)
    simpa [tk0] using this
  have sz4 : W4.heap.size = w.heap.size + 4 := by rw [← hW4]; simp
  have B4 := hide (show Below w.heap.size w W4 from by rw [← hW4]; exact ((((Below.refl _ w).alloc (Nat.le_refl _) _).alloc (by simp) _).alloc (by simp; omega) _).alloc (by simp; omega) _)
  have r0 : W4.rangeAt w.heap.size 0 [.int .i64 s0, .int .i64 s1, .int .i64 s2, .int .i64 s3, .int .i64 s4, .int .i64 s5] := by rw [← hW4]; exact World.rangeAt_alloc (World.rangeAt_alloc (World.rangeAt_alloc (cell_range (b := 0)) _) _) _
  have r1 : W4.rangeAt (w.heap.size + 1) 0 [.int .i64 kind, .int .i64 a, .int .i64 b, .int .i64 c, .int .u64 hh] := by
    rw [← hW4]
    have := cell_range (b := 0) (w := w.alloc (.cells #[.int .i64 s0, .int .i64 s1, .int .i64 s2, .int .i64 s3, .int .i64 s4, .int .i64 s5] 23)) (t := 49) (cs := [.int .i64 kind, .int .i64 a, .int .i64 b, .int .i64 c, .int .u64 hh])
    rw [World.size_alloc] at this
    exact World.rangeAt_alloc (World.rangeAt_alloc this _) _
  have HR0 := hide r0
  have HR1 := hide r1
  have HTH := hide th
  have g := fun i v hv => r0 i v hv
  simp only [Nat.zero_add] at g
  have q0 := g 0 _ rfl
  have q1 := g 1 _ rfl
  have q2 := g 2 _ rfl
  have q3 := g 3 _ rfl
  have q4 := g 4 _ rfl
  have q5 := g 5 _ rfl
  clear g r0 r1 th
  obtain ⟨dT, hdT1, hdT2⟩ := row79
  have DT1 := hide hdT1
  have DT2 := hide hdT2
  clear hdT1 hdT2 hl
  have k1' : (kind != 1) = true := by simpa using k1
  have k2' : (kind != 2) = true := by simpa using k2
  · skip
    go_enter Try.func23, Try.ntmps23
    go_wp2_with (first
      | (go_at_call 19; refine (rsize_ok _ ⟨s0, s1, s2, s3, s4, s5⟩ h1 h2).mono ?_; rintro e w1 ⟨rfl, hg⟩; have HB := hide (below_of_grown_none hg W4.heap.size (Nat.le_refl _)); have t0 := rangeAt_block HR0.out (HB.out.block w.heap.size (by omega)); have t1 := rangeAt_block HR1.out (HB.out.block (w.heap.size + 1) (by omega)); have g := (fun i v hv => t0 i v hv); have g' := (fun i v hv => t1 i v hv); simp only [Nat.zero_add] at g g'; have c0 := g 0 _ rfl; have c1 := g 1 _ rfl; have c2 := g 2 _ rfl; have c3 := g 3 _ rfl; have c4 := g 4 _ rfl; have c5 := g 5 _ rfl; have d0 := g' 0 _ rfl;  have d1 := g' 1 _ rfl;  have d2 := g' 2 _ rfl;  have d3 := g' 3 _ rfl;  have d4 := g' 4 _ rfl; have HT1 := hide (there_block HTH.out (HB.out.block (w.heap.size + 3) (by omega))); clear g g' t0 t1 hg)
      | (refine wpList_store_mid (by rfl) 64 (.tmp 8) (.tmp 29) (by rfl) (w.heap.size + 3) 0 l.toArray (by rfl) (by exact HLA.out) (by simpa [hl1.out.1] using HT1.out) (by simpa [hl1.out.1] using size79) (by exact all_oneCell_toArray hl1.out.2) ?_))
    have r5 := World.rangeAt_setCells_same w1 (w.heap.size + 3) 0 l (by rw [hl1.out.1]; exact HT1.out)
    refine bodyPost_ret (v := .tuple #[.agg l.toArray, .int .i64 200]) ?res rfl ⟨rfl, ?bel⟩
    case res => exact results_ct (fn := Try.f23) (t := 8) (t' := 9) (by rfl) (by rfl) (run_loadVar_mid _ _ 0 _ l dT r5 DT1.out DT2.out (by rw [hl1.out.1]; exact size79))
    case bel => exact (B4.out.trans (HB.out.mono (by omega))).trans ((touch_setCells (w.heap.size + 3) l 0 w1).below (fun k hk => by omega) (by have := HB.out.size; omega))

set_option maxHeartbeats 4000000 in
theorem rstart_arg (w : World) (s0 s1 s2 s3 s4 s5 hand kind a b c hh : Int) (h1 : 1 ≤ s5) (h2 : s5 ≤ 64) (k1 : kind = 1) (k4 : ¬ hand = 0) :
    Calls Try.prog 23 #[.agg #[.int .i64 s0, .int .i64 s1, .int .i64 s2, .int .i64 s3, .int .i64 s4, .int .i64 s5], .int .i64 hand, .agg #[.int .i64 kind, .int .i64 a, .int .i64 b, .int .i64 c, .int .u64 hh], .agg #[.int .u64 0, .int .u64 0, .int .u64 0, .int .u64 0]] w fun e w' => e = .returned (.tuple #[.agg (tk0).toArray, .int .i64 2]) ∧ Below w.heap.size w w' := by
  obtain ⟨l, hl⟩ : ∃ l, tk0 = l := ⟨_, rfl⟩
  rw [hl]
  have hl1 := hide (show IsTk l from by rw [← hl]; exact tk0_is)
  have HLA := hide (show Value.agg #[.int .i64 0, .int .i64 0, .int .i64 0, .int .i64 0, .int .i64 0, .int .i64 0, .int .i64 0, .int .i64 0, .int .i64 0, .int .i64 0, .int .i64 0, .int .u64 0, .int .i64 0, .int .u64 0, .int .u64 0, .int .u64 0, .int .u64 0, .int .u64 0, .int .u64 0, .int .u64 0, .int .u64 0, .slice none 0 0, .bool false, .int .u64 0, .int .u64 0, .int .u64 0, .int .u64 0, .int .u64 0] = .agg l.toArray from by rw [← hl]; rfl)
  obtain ⟨W4, hW4⟩ : ∃ W4, (((w.alloc (.cells #[.int .i64 s0, .int .i64 s1, .int .i64 s2, .int .i64 s3, .int .i64 s4, .int .i64 s5] 23)).alloc (.cells #[.int .i64 kind, .int .i64 a, .int .i64 b, .int .i64 c, .int .u64 hh] 49)).alloc (.cells #[.int .u64 0, .int .u64 0, .int .u64 0, .int .u64 0] 62)).alloc (.cells #[.int .i64 0, .int .i64 0, .int .i64 0, .int .i64 0, .int .i64 0, .int .i64 0, .int .i64 0, .int .i64 0, .int .i64 0, .int .i64 0, .int .i64 0, .int .u64 0, .int .i64 0, .int .u64 0, .int .u64 0, .int .u64 0, .int .u64 0, .int .u64 0, .int .u64 0, .int .u64 0, .int .u64 0, .slice none 0 0, .bool false, .int .u64 0, .int .u64 0, .int .u64 0, .int .u64 0, .int .u64 0] 64) = W4 := ⟨_, rfl⟩
  have th : W4.there (w.heap.size + 3) 0 28 := by
    rw [← hW4]
    have := there_alloc_new (w := (((w.alloc (.cells #[.int .i64 s0, .int .i64 s1, .int .i64 s2, .int .i64 s3, .int .i64 s4, .int .i64 s5] 23)).alloc (.cells #[.int .i64 kind, .int .i64 a, .int .i64 b, .int .i64 c, .int .u64 hh] 49)).alloc (.cells #[.int .u64 0, .int .u64 0, .int .u64 0, .int .u64 0] 62))) (t := 64) (cs := tk0)
    simpa [tk0] using this
  have sz4 : W4.heap.size = w.heap.size + 4 := by rw [← hW4]; simp
  have B4 := hide (show Below w.heap.size w W4 from by rw [← hW4]; exact ((((Below.refl _ w).alloc (Nat.le_refl _) _).alloc (by simp) _).alloc (by simp; omega) _).alloc (by simp; omega) _)
  have r0 : W4.rangeAt w.heap.size 0 [.int .i64 s0, .int .i64 s1, .int .i64 s2, .int .i64 s3, .int .i64 s4, .int .i64 s5] := by rw [← hW4]; exact World.rangeAt_alloc (World.rangeAt_alloc (World.rangeAt_alloc (cell_range (b := 0)) _) _) _
  have r1 : W4.rangeAt (w.heap.size + 1) 0 [.int .i64 kind, .int .i64 a, .int .i64 b, .int .i64 c, .int .u64 hh] := by
    rw [← hW4]
    have := cell_range (b := 0) (w := w.alloc (.cells #[.int .i64 s0, .int .i64 s1, .int .i64 s2, .int .i64 s3, .int .i64 s4, .int .i64 s5] 23)) (t := 49) (cs := [.int .i64 kind, .int .i64 a, .int .i64 b, .int .i64 c, .int .u64 hh])
    rw [World.size_alloc] at this
    exact World.rangeAt_alloc (World.rangeAt_alloc this _) _
  have HR0 := hide r0
  have HR1 := hide r1
  have HTH := hide th
  have g := fun i v hv => r0 i v hv
  simp only [Nat.zero_add] at g
  have q0 := g 0 _ rfl
  have q1 := g 1 _ rfl
  have q2 := g 2 _ rfl
  have q3 := g 3 _ rfl
  have q4 := g 4 _ rfl
  have q5 := g 5 _ rfl
  clear g r0 r1 th
  obtain ⟨dT, hdT1, hdT2⟩ := row79
  have DT1 := hide hdT1
  have DT2 := hide hdT2
  clear hdT1 hdT2 hl
  subst k1
  have k4' : (hand != 0) = true := by simpa using k4
  · skip
    go_enter Try.func23, Try.ntmps23
    go_wp2_with (first
      | (go_at_call 19; refine (rsize_ok _ ⟨s0, s1, s2, s3, s4, s5⟩ h1 h2).mono ?_; rintro e w1 ⟨rfl, hg⟩; have HB := hide (below_of_grown_none hg W4.heap.size (Nat.le_refl _)); have t0 := rangeAt_block HR0.out (HB.out.block w.heap.size (by omega)); have t1 := rangeAt_block HR1.out (HB.out.block (w.heap.size + 1) (by omega)); have g := (fun i v hv => t0 i v hv); have g' := (fun i v hv => t1 i v hv); simp only [Nat.zero_add] at g g'; have c0 := g 0 _ rfl; have c1 := g 1 _ rfl; have c2 := g 2 _ rfl; have c3 := g 3 _ rfl; have c4 := g 4 _ rfl; have c5 := g 5 _ rfl; have d0 := g' 0 _ rfl;  have d1 := g' 1 _ rfl;  have d2 := g' 2 _ rfl;  have d3 := g' 3 _ rfl;  have d4 := g' 4 _ rfl; have HT1 := hide (there_block HTH.out (HB.out.block (w.heap.size + 3) (by omega))); clear g g' t0 t1 hg)
      | (refine wpList_store_mid (by rfl) 64 (.tmp 8) (.tmp 37) (by rfl) (w.heap.size + 3) 0 l.toArray (by rfl) (by exact HLA.out) (by simpa [hl1.out.1] using HT1.out) (by simpa [hl1.out.1] using size79) (by exact all_oneCell_toArray hl1.out.2) ?_))
    have r5 := World.rangeAt_setCells_same w1 (w.heap.size + 3) 0 l (by rw [hl1.out.1]; exact HT1.out)
    refine bodyPost_ret (v := .tuple #[.agg l.toArray, .int .i64 2]) ?res rfl ⟨rfl, ?bel⟩
    case res => exact results_ct (fn := Try.f23) (t := 8) (t' := 9) (by rfl) (by rfl) (run_loadVar_mid _ _ 0 _ l dT r5 DT1.out DT2.out (by rw [hl1.out.1]; exact size79))
    case bel => exact (B4.out.trans (HB.out.mono (by omega))).trans ((touch_setCells (w.heap.size + 3) l 0 w1).below (fun k hk => by omega) (by have := HB.out.size; omega))

set_option maxHeartbeats 4000000 in
theorem rstart_shape (w : World) (s0 s1 s2 s3 s4 s5 hand kind a b c hh : Int) (h : s5 < 1 ∨ 64 < s5) :
    Calls Try.prog 23 #[.agg #[.int .i64 s0, .int .i64 s1, .int .i64 s2, .int .i64 s3, .int .i64 s4, .int .i64 s5], .int .i64 hand, .agg #[.int .i64 kind, .int .i64 a, .int .i64 b, .int .i64 c, .int .u64 hh], .agg #[.int .u64 0, .int .u64 0, .int .u64 0, .int .u64 0]] w fun e w' => e = .returned (.tuple #[.agg (tk0).toArray, .int .i64 120]) ∧ Below w.heap.size w w' := by
  obtain ⟨l, hl⟩ : ∃ l, tk0 = l := ⟨_, rfl⟩
  rw [hl]
  have hl1 := hide (show IsTk l from by rw [← hl]; exact tk0_is)
  have HLA := hide (show Value.agg #[.int .i64 0, .int .i64 0, .int .i64 0, .int .i64 0, .int .i64 0, .int .i64 0, .int .i64 0, .int .i64 0, .int .i64 0, .int .i64 0, .int .i64 0, .int .u64 0, .int .i64 0, .int .u64 0, .int .u64 0, .int .u64 0, .int .u64 0, .int .u64 0, .int .u64 0, .int .u64 0, .int .u64 0, .slice none 0 0, .bool false, .int .u64 0, .int .u64 0, .int .u64 0, .int .u64 0, .int .u64 0] = .agg l.toArray from by rw [← hl]; rfl)
  obtain ⟨W4, hW4⟩ : ∃ W4, (((w.alloc (.cells #[.int .i64 s0, .int .i64 s1, .int .i64 s2, .int .i64 s3, .int .i64 s4, .int .i64 s5] 23)).alloc (.cells #[.int .i64 kind, .int .i64 a, .int .i64 b, .int .i64 c, .int .u64 hh] 49)).alloc (.cells #[.int .u64 0, .int .u64 0, .int .u64 0, .int .u64 0] 62)).alloc (.cells #[.int .i64 0, .int .i64 0, .int .i64 0, .int .i64 0, .int .i64 0, .int .i64 0, .int .i64 0, .int .i64 0, .int .i64 0, .int .i64 0, .int .i64 0, .int .u64 0, .int .i64 0, .int .u64 0, .int .u64 0, .int .u64 0, .int .u64 0, .int .u64 0, .int .u64 0, .int .u64 0, .int .u64 0, .slice none 0 0, .bool false, .int .u64 0, .int .u64 0, .int .u64 0, .int .u64 0, .int .u64 0] 64) = W4 := ⟨_, rfl⟩
  have th : W4.there (w.heap.size + 3) 0 28 := by
    rw [← hW4]
    have := there_alloc_new (w := (((w.alloc (.cells #[.int .i64 s0, .int .i64 s1, .int .i64 s2, .int .i64 s3, .int .i64 s4, .int .i64 s5] 23)).alloc (.cells #[.int .i64 kind, .int .i64 a, .int .i64 b, .int .i64 c, .int .u64 hh] 49)).alloc (.cells #[.int .u64 0, .int .u64 0, .int .u64 0, .int .u64 0] 62))) (t := 64) (cs := tk0)
    simpa [tk0] using this
  have sz4 : W4.heap.size = w.heap.size + 4 := by rw [← hW4]; simp
  have B4 := hide (show Below w.heap.size w W4 from by rw [← hW4]; exact ((((Below.refl _ w).alloc (Nat.le_refl _) _).alloc (by simp) _).alloc (by simp; omega) _).alloc (by simp; omega) _)
  have r0 : W4.rangeAt w.heap.size 0 [.int .i64 s0, .int .i64 s1, .int .i64 s2, .int .i64 s3, .int .i64 s4, .int .i64 s5] := by rw [← hW4]; exact World.rangeAt_alloc (World.rangeAt_alloc (World.rangeAt_alloc (cell_range (b := 0)) _) _) _
  have r1 : W4.rangeAt (w.heap.size + 1) 0 [.int .i64 kind, .int .i64 a, .int .i64 b, .int .i64 c, .int .u64 hh] := by
    rw [← hW4]
    have := cell_range (b := 0) (w := w.alloc (.cells #[.int .i64 s0, .int .i64 s1, .int .i64 s2, .int .i64 s3, .int .i64 s4, .int .i64 s5] 23)) (t := 49) (cs := [.int .i64 kind, .int .i64 a, .int .i64 b, .int .i64 c, .int .u64 hh])
    rw [World.size_alloc] at this
    exact World.rangeAt_alloc (World.rangeAt_alloc this _) _
  have HR0 := hide r0
  have HR1 := hide r1
  have HTH := hide th
  have g := fun i v hv => r0 i v hv
  simp only [Nat.zero_add] at g
  have q0 := g 0 _ rfl
  have q1 := g 1 _ rfl
  have q2 := g 2 _ rfl
  have q3 := g 3 _ rfl
  have q4 := g 4 _ rfl
  have q5 := g 5 _ rfl
  clear g r0 r1 th
  obtain ⟨dT, hdT1, hdT2⟩ := row79
  have DT1 := hide hdT1
  have DT2 := hide hdT2
  clear hdT1 hdT2 hl
  · skip
    go_enter Try.func23, Try.ntmps23
    go_wp2_with (first
      | (go_at_call 19; refine (rsize_bad _ ⟨s0, s1, s2, s3, s4, s5⟩ h).mono ?_; rintro e w1 ⟨rfl, hg⟩; have HB := hide (below_of_grown_none hg W4.heap.size (Nat.le_refl _)); have t0 := rangeAt_block HR0.out (HB.out.block w.heap.size (by omega)); have t1 := rangeAt_block HR1.out (HB.out.block (w.heap.size + 1) (by omega)); have g := (fun i v hv => t0 i v hv); have g' := (fun i v hv => t1 i v hv); simp only [Nat.zero_add] at g g'; have c0 := g 0 _ rfl; have c1 := g 1 _ rfl; have c2 := g 2 _ rfl; have c3 := g 3 _ rfl; have c4 := g 4 _ rfl; have c5 := g 5 _ rfl; have d0 := g' 0 _ rfl;  have d1 := g' 1 _ rfl;  have d2 := g' 2 _ rfl;  have d3 := g' 3 _ rfl;  have d4 := g' 4 _ rfl; have HT1 := hide (there_block HTH.out (HB.out.block (w.heap.size + 3) (by omega))); clear g g' t0 t1 hg)
      | (refine wpList_store_mid (by rfl) 64 (.tmp 8) (.tmp 19) (by rfl) (w.heap.size + 3) 0 l.toArray (by rfl) (by exact HLA.out) (by simpa [hl1.out.1] using HT1.out) (by simpa [hl1.out.1] using size79) (by exact all_oneCell_toArray hl1.out.2) ?_))
    have r5 := World.rangeAt_setCells_same w1 (w.heap.size + 3) 0 l (by rw [hl1.out.1]; exact HT1.out)
    refine bodyPost_ret (v := .tuple #[.agg l.toArray, .int .i64 120]) ?res rfl ⟨rfl, ?bel⟩
    case res => exact results_ct (fn := Try.f23) (t := 8) (t' := 9) (by rfl) (by rfl) (run_loadVar_mid _ _ 0 _ l dT r5 DT1.out DT2.out (by rw [hl1.out.1]; exact size79))
    case bel => exact (B4.out.trans (HB.out.mono (by omega))).trans ((touch_setCells (w.heap.size + 3) l 0 w1).below (fun k hk => by omega) (by have := HB.out.size; omega))

end Seq
end Go.Proofs.Ytkiojiibppdjjaa
