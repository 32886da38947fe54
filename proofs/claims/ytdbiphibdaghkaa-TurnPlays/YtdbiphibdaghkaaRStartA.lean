/-
  The reference's tasks of one act: StartAct.
-/
import Derived.Test.YtdbiphibdaghkaaRTk
namespace Go.Proofs.Ytdbiphibdaghkaa
open Go.RowKit
set_option linter.unusedVariables false
set_option linter.unusedSimpArgs false
set_option linter.unnecessarySimpa false
set_option maxRecDepth 20000

set_option maxHeartbeats 4000000 in
theorem startA_ok (w : World) (sh : Shp) (hand : Int) (j : Jb) (h : kAct.err j = 0) :
    Calls Try.prog 34 #[sh.val, .int .i64 hand, j.val, kept0] w fun e w' => e = .returned (.tuple #[.agg (tk sh hand j 0 .zero ⟨false, 0⟩).toArray, .int .i64 0]) ∧ Below w.heap.size w w' := by
  obtain ⟨s0, s1, s2, s3, s4, s5⟩ := sh
  obtain ⟨kind, a, b, c, hh⟩ := j
  have hk : 1 ≤ kind ∧ kind ≤ 5 := by simp only [kAct] at h; split at h; cases h; omega
  obtain ⟨l, hl⟩ : ∃ l, tk ⟨s0, s1, s2, s3, s4, s5⟩ hand ⟨kind, a, b, c, hh⟩ 0 .zero ⟨false, 0⟩ = l := ⟨_, rfl⟩
  rw [hl]
  have hl1 := hide (show IsTk l from by rw [← hl]; exact tk_is _ _ _ _ _ _)
  have hla : Value.agg #[.int .i64 s0, .int .i64 s1, .int .i64 s2, .int .i64 s3, .int .i64 s4, .int .i64 s5, .int .i64 hand, .int .i64 kind, .int .i64 a, .int .i64 b, .int .i64 c, .int .u64 hh, .int .i64 0, .int .u64 0, .int .u64 0, .int .u64 0, .int .u64 0, .int .u64 0, .int .u64 0, .int .u64 0, .int .u64 0, .slice none 0 0, .bool false, .int .u64 0, .int .u64 0, .int .u64 0, .int .u64 0, .int .u64 0] = .agg l.toArray := by rw [← hl]; rfl
  have HLA := hide hla
  obtain ⟨W4, hW4⟩ : ∃ W4, (((w.alloc (.cells #[.int .i64 s0, .int .i64 s1, .int .i64 s2, .int .i64 s3, .int .i64 s4, .int .i64 s5] 42)).alloc (.cells #[.int .i64 kind, .int .i64 a, .int .i64 b, .int .i64 c, .int .u64 hh] 54)).alloc (.cells #[.int .u64 0, .int .u64 0, .int .u64 0, .int .u64 0] 77)).alloc (.cells #[.int .i64 0, .int .i64 0, .int .i64 0, .int .i64 0, .int .i64 0, .int .i64 0, .int .i64 0, .int .i64 0, .int .i64 0, .int .i64 0, .int .i64 0, .int .u64 0, .int .i64 0, .int .u64 0, .int .u64 0, .int .u64 0, .int .u64 0, .int .u64 0, .int .u64 0, .int .u64 0, .int .u64 0, .slice none 0 0, .bool false, .int .u64 0, .int .u64 0, .int .u64 0, .int .u64 0, .int .u64 0] 79) = W4 := ⟨_, rfl⟩
  have th : W4.there (w.heap.size + 3) 0 28 := by
    rw [← hW4]
    have := there_alloc_new (w := ((w.alloc (.cells #[.int .i64 s0, .int .i64 s1, .int .i64 s2, .int .i64 s3, .int .i64 s4, .int .i64 s5] 42)).alloc (.cells #[.int .i64 kind, .int .i64 a, .int .i64 b, .int .i64 c, .int .u64 hh] 54)).alloc (.cells #[.int .u64 0, .int .u64 0, .int .u64 0, .int .u64 0] 77)) (t := 79) (cs := tk0)
    simpa [tk0] using this
  have HTH := hide th
  have B4 := hide (show Below w.heap.size w W4 from by rw [← hW4]; exact ((((Below.refl _ w).alloc (Nat.le_refl _) _).alloc (by simp) _).alloc (by simp; omega) _).alloc (by simp; omega) _)
  have r0 : W4.rangeAt w.heap.size 0 [.int .i64 s0, .int .i64 s1, .int .i64 s2, .int .i64 s3, .int .i64 s4, .int .i64 s5] := by rw [← hW4]; exact World.rangeAt_alloc (World.rangeAt_alloc (World.rangeAt_alloc (cell_range (b := 0)) _) _) _
  have r1 : W4.rangeAt (w.heap.size + 1) 0 [.int .i64 kind, .int .i64 a, .int .i64 b, .int .i64 c, .int .u64 hh] := by
    rw [← hW4]
    have := cell_range (b := 0) (w := w.alloc (.cells #[.int .i64 s0, .int .i64 s1, .int .i64 s2, .int .i64 s3, .int .i64 s4, .int .i64 s5] 42)) (t := 54) (cs := [.int .i64 kind, .int .i64 a, .int .i64 b, .int .i64 c, .int .u64 hh])
    rw [World.size_alloc] at this
    exact World.rangeAt_alloc (World.rangeAt_alloc this _) _
  have g := fun i v hv => r0 i v hv
  have g' := fun i v hv => r1 i v hv
  simp only [Nat.zero_add] at g g'
  have c0 := g 0 _ rfl
  have c1 := g 1 _ rfl
  have c2 := g 2 _ rfl
  have c3 := g 3 _ rfl
  have c4 := g 4 _ rfl
  have c5 := g 5 _ rfl
  have d0 := g' 0 _ rfl
  have d1 := g' 1 _ rfl
  have d2 := g' 2 _ rfl
  have d3 := g' 3 _ rfl
  have d4 := g' 4 _ rfl
  clear g g' r0 r1
  obtain ⟨dT, hdT1, hdT2⟩ := row79
  have DT1 := hide hdT1
  have DT2 := hide hdT2
  clear hdT1 hdT2 hl th hla
  unfold Shp.val Jb.val kept0
  simp only
  go_enter Try.func34, Try.ntmps34
  go_wp2_with (refine wpList_store_mid (by rfl) 79 (.tmp 8) (.tmp 22) (by rfl) (w.heap.size + 3) 0 l.toArray (by rfl) (by exact HLA.out) (by simpa [hl1.out.1] using HTH.out) (by simpa [hl1.out.1] using size79) (by exact all_oneCell_toArray hl1.out.2) ?_)
  have r5 := World.rangeAt_setCells_same W4 (w.heap.size + 3) 0 l (by rw [hl1.out.1]; exact HTH.out)
  refine bodyPost_ret (v := .tuple #[.agg l.toArray, .int .i64 0]) ?res rfl ⟨rfl, ?bel⟩
  case res => exact results_ct (fn := Try.f34) (t := 8) (t' := 9) (by rfl) (by rfl) (run_loadVar_mid _ _ 0 _ l dT r5 DT1.out DT2.out (by rw [hl1.out.1]; exact size79))
  case bel => exact B4.out.trans ((touch_setCells (w.heap.size + 3) l 0 W4).below (fun k hk => by omega) B4.out.size)
set_option maxHeartbeats 4000000 in
theorem startA_err (w : World) (sh : Shp) (hand : Int) (j : Jb) (h : ¬ kAct.err j = 0) :
    Calls Try.prog 34 #[sh.val, .int .i64 hand, j.val, kept0] w fun e w' => e = .returned (.tuple #[.agg tk0.toArray, .int .i64 (kAct.err j)]) ∧ Below w.heap.size w w' := by
  obtain ⟨s0, s1, s2, s3, s4, s5⟩ := sh
  obtain ⟨kind, a, b, c, hh⟩ := j
  have hk : kind < 1 ∨ 5 < kind := by simp only [kAct] at h; omega
  have he : kAct.err ⟨kind, a, b, c, hh⟩ = 200 := by simp only [kAct]; rw [if_pos hk]
  rw [he]
  obtain ⟨l, hl⟩ : ∃ l, tk0 = l := ⟨_, rfl⟩
  rw [hl]
  have hl1 := hide (show IsTk l from by rw [← hl]; exact tk0_is)
  have hla : Value.agg #[.int .i64 0, .int .i64 0, .int .i64 0, .int .i64 0, .int .i64 0, .int .i64 0, .int .i64 0, .int .i64 0, .int .i64 0, .int .i64 0, .int .i64 0, .int .u64 0, .int .i64 0, .int .u64 0, .int .u64 0, .int .u64 0, .int .u64 0, .int .u64 0, .int .u64 0, .int .u64 0, .int .u64 0, .slice none 0 0, .bool false, .int .u64 0, .int .u64 0, .int .u64 0, .int .u64 0, .int .u64 0] = .agg l.toArray := by rw [← hl]; rfl
  have HLA := hide hla
  obtain ⟨W4, hW4⟩ : ∃ W4, (((w.alloc (.cells #[.int .i64 s0, .int .i64 s1, .int .i64 s2, .int .i64 s3, .int .i64 s4, .int .i64 s5] 42)).alloc (.cells #[.int .i64 kind, .int .i64 a, .int .i64 b, .int .i64 c, .int .u64 hh] 54)).alloc (.cells #[.int .u64 0, .int .u64 0, .int .u64 0, .int .u64 0] 77)).alloc (.cells #[.int .i64 0, .int .i64 0, .int .i64 0, .int .i64 0, .int .i64 0, .int .i64 0, .int .i64 0, .int .i64 0, .int .i64 0, .int .i64 0, .int .i64 0, .int .u64 0, .int .i64 0, .int .u64 0, .int .u64 0, .int .u64 0, .int .u64 0, .int .u64 0, .int .u64 0, .int .u64 0, .int .u64 0, .slice none 0 0, .bool false, .int .u64 0, .int .u64 0, .int .u64 0, .int .u64 0, .int .u64 0] 79) = W4 := ⟨_, rfl⟩
  have th : W4.there (w.heap.size + 3) 0 28 := by
    rw [← hW4]
    have := there_alloc_new (w := ((w.alloc (.cells #[.int .i64 s0, .int .i64 s1, .int .i64 s2, .int .i64 s3, .int .i64 s4, .int .i64 s5] 42)).alloc (.cells #[.int .i64 kind, .int .i64 a, .int .i64 b, .int .i64 c, .int .u64 hh] 54)).alloc (.cells #[.int .u64 0, .int .u64 0, .int .u64 0, .int .u64 0] 77)) (t := 79) (cs := tk0)
    simpa [tk0] using this
  have HTH := hide th
  have B4 := hide (show Below w.heap.size w W4 from by rw [← hW4]; exact ((((Below.refl _ w).alloc (Nat.le_refl _) _).alloc (by simp) _).alloc (by simp; omega) _).alloc (by simp; omega) _)
  have r0 : W4.rangeAt w.heap.size 0 [.int .i64 s0, .int .i64 s1, .int .i64 s2, .int .i64 s3, .int .i64 s4, .int .i64 s5] := by rw [← hW4]; exact World.rangeAt_alloc (World.rangeAt_alloc (World.rangeAt_alloc (cell_range (b := 0)) _) _) _
  have r1 : W4.rangeAt (w.heap.size + 1) 0 [.int .i64 kind, .int .i64 a, .int .i64 b, .int .i64 c, .int .u64 hh] := by
    rw [← hW4]
    have := cell_range (b := 0) (w := w.alloc (.cells #[.int .i64 s0, .int .i64 s1, .int .i64 s2, .int .i64 s3, .int .i64 s4, .int .i64 s5] 42)) (t := 54) (cs := [.int .i64 kind, .int .i64 a, .int .i64 b, .int .i64 c, .int .u64 hh])
    rw [World.size_alloc] at this
    exact World.rangeAt_alloc (World.rangeAt_alloc this _) _
  have g := fun i v hv => r0 i v hv
  have g' := fun i v hv => r1 i v hv
  simp only [Nat.zero_add] at g g'
  have c0 := g 0 _ rfl
  have c1 := g 1 _ rfl
  have c2 := g 2 _ rfl
  have c3 := g 3 _ rfl
  have c4 := g 4 _ rfl
  have c5 := g 5 _ rfl
  have d0 := g' 0 _ rfl
  have d1 := g' 1 _ rfl
  have d2 := g' 2 _ rfl
  have d3 := g' 3 _ rfl
  have d4 := g' 4 _ rfl
  clear g g' r0 r1
  obtain ⟨dT, hdT1, hdT2⟩ := row79
  have DT1 := hide hdT1
  have DT2 := hide hdT2
  clear hdT1 hdT2 hl th hla
  unfold Shp.val Jb.val kept0
  simp only
  rcases hk with hk | hk
  all_goals go_enter Try.func34, Try.ntmps34
  all_goals go_wp2_with (refine wpList_store_mid (by rfl) 79 (.tmp 8) (.tmp 18) (by rfl) (w.heap.size + 3) 0 l.toArray (by rfl) (by exact HLA.out) (by simpa [hl1.out.1] using HTH.out) (by simpa [hl1.out.1] using size79) (by exact all_oneCell_toArray hl1.out.2) ?_)
  all_goals have r5 := World.rangeAt_setCells_same W4 (w.heap.size + 3) 0 l (by rw [hl1.out.1]; exact HTH.out)
  all_goals
    refine bodyPost_ret (v := .tuple #[.agg l.toArray, .int .i64 200]) ?res rfl ⟨rfl, ?bel⟩
    case res => exact results_ct (fn := Try.f34) (t := 8) (t' := 9) (by rfl) (by rfl) (run_loadVar_mid _ _ 0 _ l dT r5 DT1.out DT2.out (by rw [hl1.out.1]; exact size79))
    case bel => exact B4.out.trans ((touch_setCells (w.heap.size + 3) l 0 W4).below (fun k hk => by omega) B4.out.size)
end Go.Proofs.Ytdbiphibdaghkaa
