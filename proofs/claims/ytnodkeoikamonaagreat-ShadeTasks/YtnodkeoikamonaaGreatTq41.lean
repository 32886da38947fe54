/-
  Lemmas: ShadeRS.
-/
import Derived.Test.YtnodkeoikamonaaGreatTq35
import Derived.Test.YtnodkeoikamonaaGreatTq20
/-
  Shade's reference: the tasks of jobs.
-/
namespace Go.Proofs.YtnodkeoikamonaaGreat
open Go.RowKit
set_option linter.unusedVariables false
set_option linter.unusedSimpArgs false
set_option linter.unnecessarySimpa false
set_option maxRecDepth 20000
namespace Shd
set_option maxHeartbeats 4000000 in
theorem rany_one (w : World) (s0 s1 s2 s3 s4 s5 hand kind a b c hh : Int) (hk : ¬ kind = 2) :
    Calls Tryz.prog 33 #[.agg #[.int .i64 s0, .int .i64 s1, .int .i64 s2, .int .i64 s3, .int .i64 s4, .int .i64 s5], .int .i64 hand, .agg #[.int .i64 kind, .int .i64 a, .int .i64 b, .int .i64 c, .int .u64 hh], .agg #[.int .u64 0, .int .u64 0, .int .u64 0, .int .u64 0]] w fun e w' => e = .returned (.tuple #[.agg (tk ⟨s0, s1, s2, s3, s4, s5⟩ hand ⟨1, a, b, c % 2, hh⟩ 0 .zero ⟨false, 0⟩).toArray, .int .i64 0]) ∧ Below w.heap.size w w' := by
  obtain ⟨l, hl⟩ : ∃ l, tk ⟨s0, s1, s2, s3, s4, s5⟩ hand ⟨1, a, b, c % 2, hh⟩ 0 .zero ⟨false, 0⟩ = l := ⟨_, rfl⟩
  rw [hl]
  have hl1 := hide (show IsTk l from by rw [← hl]; exact tk_is _ _ _ _ _ _)
  have HLA := hide (show Value.agg #[.int .i64 s0, .int .i64 s1, .int .i64 s2, .int .i64 s3, .int .i64 s4, .int .i64 s5, .int .i64 hand, .int .i64 1, .int .i64 a, .int .i64 b, .int .i64 (c % 2), .int .u64 hh, .int .i64 0, .int .u64 0, .int .u64 0, .int .u64 0, .int .u64 0, .int .u64 0, .int .u64 0, .int .u64 0, .int .u64 0, .slice none 0 0, .bool false, .int .u64 0, .int .u64 0, .int .u64 0, .int .u64 0, .int .u64 0] = .agg l.toArray from by rw [← hl]; rfl)
  obtain ⟨W4, hW4⟩ : ∃ W4, (((w.alloc (.cells #[.int .i64 s0, .int .i64 s1, .int .i64 s2, .int .i64 s3, .int .i64 s4, .int .i64 s5] 23)).alloc (.cells #[.int .i64 kind, .int .i64 a, .int .i64 b, .int .i64 c, .int .u64 hh] 52)).alloc (.cells #[.int .u64 0, .int .u64 0, .int .u64 0, .int .u64 0] 83)).alloc (.cells #[.int .i64 0, .int .i64 0, .int .i64 0, .int .i64 0, .int .i64 0, .int .i64 0, .int .i64 0, .int .i64 0, .int .i64 0, .int .i64 0, .int .i64 0, .int .u64 0, .int .i64 0, .int .u64 0, .int .u64 0, .int .u64 0, .int .u64 0, .int .u64 0, .int .u64 0, .int .u64 0, .int .u64 0, .slice none 0 0, .bool false, .int .u64 0, .int .u64 0, .int .u64 0, .int .u64 0, .int .u64 0] 85) = W4 := ⟨_, rfl⟩
  have th : W4.there (w.heap.size + 3) 0 28 := by
    rw [← hW4]
    have := there_alloc_new (w := (((w.alloc (.cells #[.int .i64 s0, .int .i64 s1, .int .i64 s2, .int .i64 s3, .int .i64 s4, .int .i64 s5] 23)).alloc (.cells #[.int .i64 kind, .int .i64 a, .int .i64 b, .int .i64 c, .int .u64 hh] 52)).alloc (.cells #[.int .u64 0, .int .u64 0, .int .u64 0, .int .u64 0] 83))) (t := 85) (cs := tk0)
    simpa [tk0] using this
  have sz4 : W4.heap.size = w.heap.size + 4 := by rw [← hW4]; simp
  have B4 := hide (show Below w.heap.size w W4 from by rw [← hW4]; exact ((((Below.refl _ w).alloc (Nat.le_refl _) _).alloc (by simp) _).alloc (by simp; omega) _).alloc (by simp; omega) _)
  have r0 : W4.rangeAt w.heap.size 0 [.int .i64 s0, .int .i64 s1, .int .i64 s2, .int .i64 s3, .int .i64 s4, .int .i64 s5] := by rw [← hW4]; exact World.rangeAt_alloc (World.rangeAt_alloc (World.rangeAt_alloc (cell_range (b := 0)) _) _) _
  have r1 : W4.rangeAt (w.heap.size + 1) 0 [.int .i64 kind, .int .i64 a, .int .i64 b, .int .i64 c, .int .u64 hh] := by
    rw [← hW4]
    have := cell_range (b := 0) (w := w.alloc (.cells #[.int .i64 s0, .int .i64 s1, .int .i64 s2, .int .i64 s3, .int .i64 s4, .int .i64 s5] 23)) (t := 52) (cs := [.int .i64 kind, .int .i64 a, .int .i64 b, .int .i64 c, .int .u64 hh])
    rw [World.size_alloc] at this
    exact World.rangeAt_alloc (World.rangeAt_alloc this _) _
  have RJ : W4.rowIs (w.heap.size + 1) 52 5 (lrow [Value.int .i64 kind, .int .i64 a, .int .i64 b, .int .i64 c, .int .u64 hh]) := by
    rw [← hW4]
    have := ((rowL_alloc (w.alloc (.cells #[.int .i64 s0, .int .i64 s1, .int .i64 s2, .int .i64 s3, .int .i64 s4, .int .i64 s5] 23)) [Value.int .i64 kind, .int .i64 a, .int .i64 b, .int .i64 c, .int .u64 hh] 52 (n := 5) rfl).alloc (.cells #[.int .u64 0, .int .u64 0, .int .u64 0, .int .u64 0] 83)).alloc (.cells tk0.toArray 85)
    rwa [World.size_alloc] at this
  have f1 := RJ.frozen
  have gq := fun i v hv => r0 i v hv
  have gj := fun i v hv => r1 i v hv
  simp only [Nat.zero_add] at gq gj
  have q0 := gq 0 _ rfl
  have q1 := gq 1 _ rfl
  have q2 := gq 2 _ rfl
  have q3 := gq 3 _ rfl
  have q4 := gq 4 _ rfl
  have q5 := gq 5 _ rfl
  have p0 := gj 0 _ rfl
  have p1 := gj 1 _ rfl
  have p2 := gj 2 _ rfl
  have p3 := gj 3 _ rfl
  have p4 := gj 4 _ rfl
  have fz0 := f1 0
  have fz3 := f1 3
  obtain ⟨W5, hW5⟩ : ∃ W5, ((W4.setCell ⟨w.heap.size + 1, 0, none⟩ (.int .i64 1)).setCell ⟨w.heap.size + 1, 3, none⟩ (.int .i64 (c % 2))) = W5 := ⟨_, rfl⟩
  have T5 : Touch W4 W5 (fun k => k = w.heap.size + 1) := by
    rw [← hW5]
    exact (Touch.setCell (S := fun k => k = w.heap.size + 1) (Touch.setCell (S := fun k => k = w.heap.size + 1) (Touch.refl W4 _) ⟨w.heap.size + 1, 0, none⟩ (.inl rfl) _) ⟨w.heap.size + 1, 3, none⟩ (.inl rfl) _)
  have sz5 : W5.heap.size = W4.heap.size := by rw [← hW5]; simp
  have B5 := hide (show Below w.heap.size w W5 from B4.out.trans (T5.below (fun k hk => by omega) (by omega)))
  have HT5 := hide (there_block th (T5.block (w.heap.size + 3) (by omega) (by omega)))
  have t0 := rangeAt_block r0 (T5.block w.heap.size (by omega) (by omega))
  have g5 := fun i v hv => t0 i v hv
  simp only [Nat.zero_add] at g5
  have y0 := g5 0 _ rfl
  have y1 := g5 1 _ rfl
  have y2 := g5 2 _ rfl
  have y3 := g5 3 _ rfl
  have y4 := g5 4 _ rfl
  have y5 := g5 5 _ rfl
  have RJ5 : W5.rowIs (w.heap.size + 1) 52 5 (lrow (([Value.int .i64 kind, .int .i64 a, .int .i64 b, .int .i64 c, .int .u64 hh].set 0 (.int .i64 1)).set 3 (.int .i64 (c % 2)))) := by
    rw [← hW5]
    exact rowIs.setL (rowIs.setL RJ (i := 0) (by simp) _) (i := 3) (by simp) _
  have z0 : W5.cell? ⟨w.heap.size + 1, 0, none⟩ = some (.int .i64 1) := RJ5.cell (i := 0) (by omega)
  have z1 : W5.cell? ⟨w.heap.size + 1, 1, none⟩ = some (.int .i64 a) := RJ5.cell (i := 1) (by omega)
  have z2 : W5.cell? ⟨w.heap.size + 1, 2, none⟩ = some (.int .i64 b) := RJ5.cell (i := 2) (by omega)
  have z3 : W5.cell? ⟨w.heap.size + 1, 3, none⟩ = some (.int .i64 (c % 2)) := RJ5.cell (i := 3) (by omega)
  have z4 : W5.cell? ⟨w.heap.size + 1, 4, none⟩ = some (.int .u64 hh) := RJ5.cell (i := 4) (by omega)
  have l4 : w.heap.size + 1 < W4.heap.size := by omega
  have l5 : w.heap.size + 1 < W5.heap.size := by omega
  have gm : (wrap64 (c.tmod 2 + 2)).tmod 2 = c % 2 := by
    have h1 : c.tmod 2 = c % 2 ∨ c.tmod 2 = -(-c % 2) := by
      rcases Int.le_total 0 c with h | h
      · exact .inl (Int.tmod_eq_emod_of_nonneg h)
      · right
        rw [← Int.tmod_eq_emod_of_nonneg (show 0 ≤ -c by omega), Int.neg_tmod, Int.neg_neg]
    have h4 : wrap64 (c.tmod 2 + 2) = c.tmod 2 + 2 := by unfold wrap64; omega
    rw [h4, Int.tmod_eq_emod_of_nonneg (by omega)]
    omega
  have k2' : (kind != 2) = true := by simpa using hk
  obtain ⟨dT, hdT1, hdT2⟩ := row79
  have DT1 := hide hdT1
  have DT2 := hide hdT2
  clear hdT1 hdT2 hl r0 r1 th gq gj f1 t0 g5 T5 RJ RJ5
  go_enter Tryz.func33, Tryz.ntmps33
  go_wp2_with (refine wpList_store_mid (by rfl) 85 (.tmp 8) (.tmp 23) (by rfl) (w.heap.size + 3) 0 l.toArray (by rfl) (by exact HLA.out) (by simpa [hl1.out.1] using HT5.out) (by simpa [hl1.out.1] using size79) (by exact all_oneCell_toArray hl1.out.2) ?_)
  have r5 := World.rangeAt_setCells_same W5 (w.heap.size + 3) 0 l (by rw [hl1.out.1]; exact HT5.out)
  refine bodyPost_ret (v := .tuple #[.agg l.toArray, .int .i64 0]) ?res rfl ⟨rfl, ?bel⟩
  case res => exact results_ct (fn := Tryz.f33) (t := 8) (t' := 9) (by rfl) (by rfl) (run_loadVar_mid _ _ 0 _ l dT r5 DT1.out DT2.out (by rw [hl1.out.1]; exact size79))
  case bel => exact B5.out.trans ((touch_setCells (w.heap.size + 3) l 0 W5).below (fun k hk => by omega) (by omega))
set_option maxHeartbeats 4000000 in
theorem rany_two (w : World) (s0 s1 s2 s3 s4 s5 hand a b c hh : Int)  :
    Calls Tryz.prog 33 #[.agg #[.int .i64 s0, .int .i64 s1, .int .i64 s2, .int .i64 s3, .int .i64 s4, .int .i64 s5], .int .i64 hand, .agg #[.int .i64 2, .int .i64 a, .int .i64 b, .int .i64 c, .int .u64 hh], .agg #[.int .u64 0, .int .u64 0, .int .u64 0, .int .u64 0]] w fun e w' => e = .returned (.tuple #[.agg (tk ⟨s0, s1, s2, s3, s4, s5⟩ hand ⟨2, a, b, c % 2, hh⟩ 0 .zero ⟨false, 0⟩).toArray, .int .i64 0]) ∧ Below w.heap.size w w' := by
  obtain ⟨l, hl⟩ : ∃ l, tk ⟨s0, s1, s2, s3, s4, s5⟩ hand ⟨2, a, b, c % 2, hh⟩ 0 .zero ⟨false, 0⟩ = l := ⟨_, rfl⟩
  rw [hl]
  have hl1 := hide (show IsTk l from by rw [← hl]; exact tk_is _ _ _ _ _ _)
  have HLA := hide (show Value.agg #[.int .i64 s0, .int .i64 s1, .int .i64 s2, .int .i64 s3, .int .i64 s4, .int .i64 s5, .int .i64 hand, .int .i64 2, .int .i64 a, .int .i64 b, .int .i64 (c % 2), .int .u64 hh, .int .i64 0, .int .u64 0, .int .u64 0, .int .u64 0, .int .u64 0, .int .u64 0, .int .u64 0, .int .u64 0, .int .u64 0, .slice none 0 0, .bool false, .int .u64 0, .int .u64 0, .int .u64 0, .int .u64 0, .int .u64 0] = .agg l.toArray from by rw [← hl]; rfl)
  obtain ⟨W4, hW4⟩ : ∃ W4, (((w.alloc (.cells #[.int .i64 s0, .int .i64 s1, .int .i64 s2, .int .i64 s3, .int .i64 s4, .int .i64 s5] 23)).alloc (.cells #[.int .i64 2, .int .i64 a, .int .i64 b, .int .i64 c, .int .u64 hh] 52)).alloc (.cells #[.int .u64 0, .int .u64 0, .int .u64 0, .int .u64 0] 83)).alloc (.cells #[.int .i64 0, .int .i64 0, .int .i64 0, .int .i64 0, .int .i64 0, .int .i64 0, .int .i64 0, .int .i64 0, .int .i64 0, .int .i64 0, .int .i64 0, .int .u64 0, .int .i64 0, .int .u64 0, .int .u64 0, .int .u64 0, .int .u64 0, .int .u64 0, .int .u64 0, .int .u64 0, .int .u64 0, .slice none 0 0, .bool false, .int .u64 0, .int .u64 0, .int .u64 0, .int .u64 0, .int .u64 0] 85) = W4 := ⟨_, rfl⟩
  have th : W4.there (w.heap.size + 3) 0 28 := by
    rw [← hW4]
    have := there_alloc_new (w := (((w.alloc (.cells #[.int .i64 s0, .int .i64 s1, .int .i64 s2, .int .i64 s3, .int .i64 s4, .int .i64 s5] 23)).alloc (.cells #[.int .i64 2, .int .i64 a, .int .i64 b, .int .i64 c, .int .u64 hh] 52)).alloc (.cells #[.int .u64 0, .int .u64 0, .int .u64 0, .int .u64 0] 83))) (t := 85) (cs := tk0)
    simpa [tk0] using this
  have sz4 : W4.heap.size = w.heap.size + 4 := by rw [← hW4]; simp
  have B4 := hide (show Below w.heap.size w W4 from by rw [← hW4]; exact ((((Below.refl _ w).alloc (Nat.le_refl _) _).alloc (by simp) _).alloc (by simp; omega) _).alloc (by simp; omega) _)
  have r0 : W4.rangeAt w.heap.size 0 [.int .i64 s0, .int .i64 s1, .int .i64 s2, .int .i64 s3, .int .i64 s4, .int .i64 s5] := by rw [← hW4]; exact World.rangeAt_alloc (World.rangeAt_alloc (World.rangeAt_alloc (cell_range (b := 0)) _) _) _
  have r1 : W4.rangeAt (w.heap.size + 1) 0 [.int .i64 2, .int .i64 a, .int .i64 b, .int .i64 c, .int .u64 hh] := by
    rw [← hW4]
    have := cell_range (b := 0) (w := w.alloc (.cells #[.int .i64 s0, .int .i64 s1, .int .i64 s2, .int .i64 s3, .int .i64 s4, .int .i64 s5] 23)) (t := 52) (cs := [.int .i64 2, .int .i64 a, .int .i64 b, .int .i64 c, .int .u64 hh])
    rw [World.size_alloc] at this
    exact World.rangeAt_alloc (World.rangeAt_alloc this _) _
  have RJ : W4.rowIs (w.heap.size + 1) 52 5 (lrow [Value.int .i64 2, .int .i64 a, .int .i64 b, .int .i64 c, .int .u64 hh]) := by
    rw [← hW4]
    have := ((rowL_alloc (w.alloc (.cells #[.int .i64 s0, .int .i64 s1, .int .i64 s2, .int .i64 s3, .int .i64 s4, .int .i64 s5] 23)) [Value.int .i64 2, .int .i64 a, .int .i64 b, .int .i64 c, .int .u64 hh] 52 (n := 5) rfl).alloc (.cells #[.int .u64 0, .int .u64 0, .int .u64 0, .int .u64 0] 83)).alloc (.cells tk0.toArray 85)
    rwa [World.size_alloc] at this
  have f1 := RJ.frozen
  have gq := fun i v hv => r0 i v hv
  have gj := fun i v hv => r1 i v hv
  simp only [Nat.zero_add] at gq gj
  have q0 := gq 0 _ rfl
  have q1 := gq 1 _ rfl
  have q2 := gq 2 _ rfl
  have q3 := gq 3 _ rfl
  have q4 := gq 4 _ rfl
  have q5 := gq 5 _ rfl
  have p0 := gj 0 _ rfl
  have p1 := gj 1 _ rfl
  have p2 := gj 2 _ rfl
  have p3 := gj 3 _ rfl
  have p4 := gj 4 _ rfl
  have fz0 := f1 0
  have fz3 := f1 3
  obtain ⟨W5, hW5⟩ : ∃ W5, (W4.setCell ⟨w.heap.size + 1, 3, none⟩ (.int .i64 (c % 2))) = W5 := ⟨_, rfl⟩
  have T5 : Touch W4 W5 (fun k => k = w.heap.size + 1) := by
    rw [← hW5]
    exact (Touch.setCell (S := fun k => k = w.heap.size + 1) (Touch.refl W4 _) ⟨w.heap.size + 1, 3, none⟩ (.inl rfl) _)
  have sz5 : W5.heap.size = W4.heap.size := by rw [← hW5]; simp
  have B5 := hide (show Below w.heap.size w W5 from B4.out.trans (T5.below (fun k hk => by omega) (by omega)))
  have HT5 := hide (there_block th (T5.block (w.heap.size + 3) (by omega) (by omega)))
  have t0 := rangeAt_block r0 (T5.block w.heap.size (by omega) (by omega))
  have g5 := fun i v hv => t0 i v hv
  simp only [Nat.zero_add] at g5
  have y0 := g5 0 _ rfl
  have y1 := g5 1 _ rfl
  have y2 := g5 2 _ rfl
  have y3 := g5 3 _ rfl
  have y4 := g5 4 _ rfl
  have y5 := g5 5 _ rfl
  have RJ5 : W5.rowIs (w.heap.size + 1) 52 5 (lrow ([Value.int .i64 2, .int .i64 a, .int .i64 b, .int .i64 c, .int .u64 hh].set 3 (.int .i64 (c % 2)))) := by
    rw [← hW5]
    exact rowIs.setL RJ (i := 3) (by simp) _
  have z0 : W5.cell? ⟨w.heap.size + 1, 0, none⟩ = some (.int .i64 2) := RJ5.cell (i := 0) (by omega)
  have z1 : W5.cell? ⟨w.heap.size + 1, 1, none⟩ = some (.int .i64 a) := RJ5.cell (i := 1) (by omega)
  have z2 : W5.cell? ⟨w.heap.size + 1, 2, none⟩ = some (.int .i64 b) := RJ5.cell (i := 2) (by omega)
  have z3 : W5.cell? ⟨w.heap.size + 1, 3, none⟩ = some (.int .i64 (c % 2)) := RJ5.cell (i := 3) (by omega)
  have z4 : W5.cell? ⟨w.heap.size + 1, 4, none⟩ = some (.int .u64 hh) := RJ5.cell (i := 4) (by omega)
  have l4 : w.heap.size + 1 < W4.heap.size := by omega
  have l5 : w.heap.size + 1 < W5.heap.size := by omega
  have gm : (wrap64 (c.tmod 2 + 2)).tmod 2 = c % 2 := by
    have h1 : c.tmod 2 = c % 2 ∨ c.tmod 2 = -(-c % 2) := by
      rcases Int.le_total 0 c with h | h
      · exact .inl (Int.tmod_eq_emod_of_nonneg h)
      · right
        rw [← Int.tmod_eq_emod_of_nonneg (show 0 ≤ -c by omega), Int.neg_tmod, Int.neg_neg]
    have h4 : wrap64 (c.tmod 2 + 2) = c.tmod 2 + 2 := by unfold wrap64; omega
    rw [h4, Int.tmod_eq_emod_of_nonneg (by omega)]
    omega
  obtain ⟨dT, hdT1, hdT2⟩ := row79
  have DT1 := hide hdT1
  have DT2 := hide hdT2
  clear hdT1 hdT2 hl r0 r1 th gq gj f1 t0 g5 T5 RJ RJ5
  go_enter Tryz.func33, Tryz.ntmps33
  go_wp2_with (refine wpList_store_mid (by rfl) 85 (.tmp 8) (.tmp 23) (by rfl) (w.heap.size + 3) 0 l.toArray (by rfl) (by exact HLA.out) (by simpa [hl1.out.1] using HT5.out) (by simpa [hl1.out.1] using size79) (by exact all_oneCell_toArray hl1.out.2) ?_)
  have r5 := World.rangeAt_setCells_same W5 (w.heap.size + 3) 0 l (by rw [hl1.out.1]; exact HT5.out)
  refine bodyPost_ret (v := .tuple #[.agg l.toArray, .int .i64 0]) ?res rfl ⟨rfl, ?bel⟩
  case res => exact results_ct (fn := Tryz.f33) (t := 8) (t' := 9) (by rfl) (by rfl) (run_loadVar_mid _ _ 0 _ l dT r5 DT1.out DT2.out (by rw [hl1.out.1]; exact size79))
  case bel => exact B5.out.trans ((touch_setCells (w.heap.size + 3) l 0 W5).below (fun k hk => by omega) (by omega))
end Shd
end Go.Proofs.YtnodkeoikamonaaGreat
