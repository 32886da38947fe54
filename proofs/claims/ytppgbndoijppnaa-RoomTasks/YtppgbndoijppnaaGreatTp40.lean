/-
  Lemmas: RoomRS.
-/
import Derived.Test.YtppgbndoijppnaaGreatTp32
import Derived.Test.YtppgbndoijppnaaGreatTp29
import Derived.Test.YtppgbndoijppnaaGreatTp31
namespace Go.Proofs.YtppgbndoijppnaaGreat
set_option maxHeartbeats 8000000
open Go.RowKit
set_option linter.unusedVariables false
set_option linter.unusedSimpArgs false
set_option linter.unnecessarySimpa false
set_option maxRecDepth 20000
section
namespace Rom
open Hp
theorem rmake_any (sh : Shp) (hand c : Int) (fl : Bool) (w : World) : Calls Tryz.prog 15 #[sh.val, .int .i64 hand, .bool fl, .int .i64 c] w fun e w' => e = .returned (.agg (tk sh hand ⟨1, 0, if fl = true then 1 else 0, if c = 0 then 0 else 1, 0⟩ 1 .zero ⟨false, 0⟩).toArray) ∧ Below w.heap.size w w' := by
 obtain ⟨s0, s1, s2, s3, s4, s5⟩ := sh
 simp only [Shp.val]
 obtain ⟨l, hl⟩ : ∃ l, tk ⟨s0, s1, s2, s3, s4, s5⟩ hand ⟨1, 0, if fl = true then 1 else 0, if c = 0 then 0 else 1, 0⟩ 1 .zero ⟨false, 0⟩ = l := ⟨_, rfl⟩
 rw [hl]
 have hl1 := hide (show IsTk l from by rw [← hl]; exact tk_is _ _ _ _ _ _)
 obtain ⟨W2, hW2⟩ : ∃ W2, (w.alloc (.cells #[.int .i64 s0, .int .i64 s1, .int .i64 s2, .int .i64 s3, .int .i64 s4, .int .i64 s5] 23)).alloc (.cells #[.int .i64 0, .int .i64 0, .int .i64 0, .int .i64 0, .int .i64 0, .int .i64 0, .int .i64 0, .int .i64 0, .int .i64 0, .int .i64 0, .int .i64 0, .int .u64 0, .int .i64 0, .int .u64 0, .int .u64 0, .int .u64 0, .int .u64 0, .int .u64 0, .int .u64 0, .int .u64 0, .int .u64 0, .slice none 0 0, .bool false, .int .u64 0, .int .u64 0, .int .u64 0, .int .u64 0, .int .u64 0] 59) = W2 := ⟨_, rfl⟩
 have sz2 : W2.heap.size = w.heap.size + 2 := by rw [← hW2]; simp
 have th2 : W2.there (w.heap.size + 1) 0 28 := by
  rw [← hW2]
  have := there_alloc_new (w := w.alloc (.cells #[.int .i64 s0, .int .i64 s1, .int .i64 s2, .int .i64 s3, .int .i64 s4, .int .i64 s5] 23)) (t := 59) (cs := tk0)
  simpa [tk0] using this
 have B2 : Below w.heap.size w W2 := by rw [← hW2]; exact ((Below.refl _ w).alloc (Nat.le_refl _) _).alloc (by simp) _
 have r02 : W2.rangeAt w.heap.size 0 [.int .i64 s0, .int .i64 s1, .int .i64 s2, .int .i64 s3, .int .i64 s4, .int .i64 s5] := by rw [← hW2]; exact World.rangeAt_alloc (cell_range (b := 0)) _
 go_enter Tryz.func15, Tryz.ntmps15
 go_upto_region 2 with (fail)
 obtain ⟨W3, hW3⟩ : ∃ W3, W2.alloc (.cells #[.int .i64 1, .int .i64 0, .int .i64 0, .int .i64 0, .int .u64 0] 52) = W3 := ⟨_, rfl⟩
 rw [hW3]
 have sz3 : W3.heap.size = w.heap.size + 3 := by rw [← hW3]; simp; omega
 have RJ : W3.rowIs (w.heap.size + 2) 52 5 (lrow [Value.int .i64 1, .int .i64 0, .int .i64 0, .int .i64 0, .int .u64 0]) := by
  rw [← hW3]
  have := rowL_alloc W2 [Value.int .i64 1, .int .i64 0, .int .i64 0, .int .i64 0, .int .u64 0] 52 (n := 5) rfl
  rwa [sz2] at this
 have B3 : Below W2.heap.size W2 W3 := by rw [← hW3]; exact (Below.refl _ W2).alloc (Nat.le_refl _) _
 have j2 : W3.cell? ⟨w.heap.size + 2, 2, none⟩ = some (.int .i64 0) := by rw [RJ.cell (i := 2) (by omega)]; rfl
 have j3 : W3.cell? ⟨w.heap.size + 2, 3, none⟩ = some (.int .i64 0) := by rw [RJ.cell (i := 3) (by omega)]; rfl
 have jf := RJ.frozen
 have jf2 := jf 2
 have jf3 := jf 3
 by_cases hcz : c = 0
 ·have hc : (c != 0) = false := by simpa using hcz
  cases fl
  ·have HLA := hide (show Value.agg #[.int .i64 s0, .int .i64 s1, .int .i64 s2, .int .i64 s3, .int .i64 s4, .int .i64 s5, .int .i64 hand, .int .i64 1, .int .i64 0, .int .i64 0, .int .i64 0, .int .u64 0, .int .i64 1, .int .u64 0, .int .u64 0, .int .u64 0, .int .u64 0, .int .u64 0, .int .u64 0, .int .u64 0, .int .u64 0, .slice none 0 0, .bool false, .int .u64 0, .int .u64 0, .int .u64 0, .int .u64 0, .int .u64 0] = .agg l.toArray from by rw [← hl, if_pos hcz]; rfl)
   obtain ⟨V, hV⟩ : ∃ V, W3 = V := ⟨_, rfl⟩
   have tV : Touch W3 V (fun k => k = w.heap.size + 2) := by rw [← hV]; exact (Touch.refl W3 _)
   have RV := (show V.rowIs (w.heap.size + 2) 52 5 _ from by rw [← hV]; exact RJ)
   subst hV
   have k0 : W3.cell? ⟨w.heap.size + 2, 0, none⟩ = some (.int .i64 1) := by rw [RV.cell (i := 0) (by omega)]; rfl
   have k1 : W3.cell? ⟨w.heap.size + 2, 1, none⟩ = some (.int .i64 0) := by rw [RV.cell (i := 1) (by omega)]; rfl
   have k2 : W3.cell? ⟨w.heap.size + 2, 2, none⟩ = some (.int .i64 0) := by rw [RV.cell (i := 2) (by omega)]; rfl
   have k3 : W3.cell? ⟨w.heap.size + 2, 3, none⟩ = some (.int .i64 0) := by rw [RV.cell (i := 3) (by omega)]; rfl
   have k4 : W3.cell? ⟨w.heap.size + 2, 4, none⟩ = some (.int .u64 0) := by rw [RV.cell (i := 4) (by omega)]; rfl
   have szV := tV.size
   have r0 := rangeAt_block (rangeAt_block r02 (B3.block w.heap.size (by omega))) (tV.block w.heap.size (by omega) (by omega))
   have g := fun i v hv => r0 i v hv
   simp only [Nat.zero_add] at g
   have q0 := g 0 _ rfl
   have q1 := g 1 _ rfl
   have q2 := g 2 _ rfl
   have q3 := g 3 _ rfl
   have q4 := g 4 _ rfl
   have q5 := g 5 _ rfl
   have HT1 := hide (there_block (there_block th2 (B3.block _ (by omega))) (tV.block (w.heap.size + 1) (by omega) (by omega)))
   have BV := hide ((B2.trans (B3.mono (by omega))).trans (tV.below (B := w.heap.size) (fun k hk => by omega) (by omega)))
   have lV : w.heap.size + 2 < W3.heap.size := by omega
   have l3 : w.heap.size + 2 < W3.heap.size := by omega
   clear g r0 r02 th2 B2 B3 RJ jf RV tV
   obtain ⟨dT, hdT1, hdT2⟩ := row79
   have DT1 := hide hdT1
   have DT2 := hide hdT2
   clear hdT1 hdT2 hl
   clear hW2 hW3
   go_wp2_with (refine wpList_store_mid (by rfl) 59 (.tmp 8) (.tmp 19) (by rfl) (w.heap.size + 1) 0 l.toArray (by rfl) (by exact HLA.out) (by simpa [hl1.out.1] using HT1.out) (by simpa [hl1.out.1] using size79) (by exact all_oneCell_toArray hl1.out.2) ?_)
   have r5 := World.rangeAt_setCells_same W3 (w.heap.size + 1) 0 l (by rw [hl1.out.1]; exact HT1.out)
   refine bodyPost_ret (v := .agg l.toArray) ?res rfl ⟨rfl, ?bel⟩
   case res => exact results_c (fn := Tryz.f15) (t := 8) (by rfl) (by rfl) (run_loadVar_mid _ _ 0 _ l dT r5 DT1.out DT2.out (by rw [hl1.out.1]; exact size79))
   case bel => exact BV.out.trans ((touch_setCells (w.heap.size + 1) l 0 _).below (fun k hk => by omega) (by omega))
  ·have HLA := hide (show Value.agg #[.int .i64 s0, .int .i64 s1, .int .i64 s2, .int .i64 s3, .int .i64 s4, .int .i64 s5, .int .i64 hand, .int .i64 1, .int .i64 0, .int .i64 1, .int .i64 0, .int .u64 0, .int .i64 1, .int .u64 0, .int .u64 0, .int .u64 0, .int .u64 0, .int .u64 0, .int .u64 0, .int .u64 0, .int .u64 0, .slice none 0 0, .bool false, .int .u64 0, .int .u64 0, .int .u64 0, .int .u64 0, .int .u64 0] = .agg l.toArray from by rw [← hl, if_pos hcz]; rfl)
   obtain ⟨V, hV⟩ : ∃ V, (W3.setCell ⟨w.heap.size + 2, 2, none⟩ (.int .i64 1)) = V := ⟨_, rfl⟩
   have tV : Touch W3 V (fun k => k = w.heap.size + 2) := by rw [← hV]; exact (Touch.setCell (S := fun k => k = w.heap.size + 2) (Touch.refl W3 _) ⟨w.heap.size + 2, 2, none⟩ (.inl rfl) _)
   have RV := (show V.rowIs (w.heap.size + 2) 52 5 _ from by rw [← hV]; exact (rowIs.setL RJ (i := 2) (by simp) (.int .i64 1)))
   have k0 : V.cell? ⟨w.heap.size + 2, 0, none⟩ = some (.int .i64 1) := by rw [RV.cell (i := 0) (by omega)]; rfl
   have k1 : V.cell? ⟨w.heap.size + 2, 1, none⟩ = some (.int .i64 0) := by rw [RV.cell (i := 1) (by omega)]; rfl
   have k2 : V.cell? ⟨w.heap.size + 2, 2, none⟩ = some (.int .i64 1) := by rw [RV.cell (i := 2) (by omega)]; rfl
   have k3 : V.cell? ⟨w.heap.size + 2, 3, none⟩ = some (.int .i64 0) := by rw [RV.cell (i := 3) (by omega)]; rfl
   have k4 : V.cell? ⟨w.heap.size + 2, 4, none⟩ = some (.int .u64 0) := by rw [RV.cell (i := 4) (by omega)]; rfl
   have szV := tV.size
   have r0 := rangeAt_block (rangeAt_block r02 (B3.block w.heap.size (by omega))) (tV.block w.heap.size (by omega) (by omega))
   have g := fun i v hv => r0 i v hv
   simp only [Nat.zero_add] at g
   have q0 := g 0 _ rfl
   have q1 := g 1 _ rfl
   have q2 := g 2 _ rfl
   have q3 := g 3 _ rfl
   have q4 := g 4 _ rfl
   have q5 := g 5 _ rfl
   have HT1 := hide (there_block (there_block th2 (B3.block _ (by omega))) (tV.block (w.heap.size + 1) (by omega) (by omega)))
   have BV := hide ((B2.trans (B3.mono (by omega))).trans (tV.below (B := w.heap.size) (fun k hk => by omega) (by omega)))
   have lV : w.heap.size + 2 < V.heap.size := by omega
   have l3 : w.heap.size + 2 < W3.heap.size := by omega
   clear g r0 r02 th2 B2 B3 RJ jf RV tV
   obtain ⟨dT, hdT1, hdT2⟩ := row79
   have DT1 := hide hdT1
   have DT2 := hide hdT2
   clear hdT1 hdT2 hl
   clear hW2 hW3
   go_wp2_with (refine wpList_store_mid (by rfl) 59 (.tmp 8) (.tmp 19) (by rfl) (w.heap.size + 1) 0 l.toArray (by rfl) (by exact HLA.out) (by simpa [hl1.out.1] using HT1.out) (by simpa [hl1.out.1] using size79) (by exact all_oneCell_toArray hl1.out.2) ?_)
   have r5 := World.rangeAt_setCells_same V (w.heap.size + 1) 0 l (by rw [hl1.out.1]; exact HT1.out)
   refine bodyPost_ret (v := .agg l.toArray) ?res rfl ⟨rfl, ?bel⟩
   case res => exact results_c (fn := Tryz.f15) (t := 8) (by rfl) (by rfl) (run_loadVar_mid _ _ 0 _ l dT r5 DT1.out DT2.out (by rw [hl1.out.1]; exact size79))
   case bel => exact BV.out.trans ((touch_setCells (w.heap.size + 1) l 0 _).below (fun k hk => by omega) (by omega))
 ·have hc : (c != 0) = true := by simpa using hcz
  cases fl
  ·have HLA := hide (show Value.agg #[.int .i64 s0, .int .i64 s1, .int .i64 s2, .int .i64 s3, .int .i64 s4, .int .i64 s5, .int .i64 hand, .int .i64 1, .int .i64 0, .int .i64 0, .int .i64 1, .int .u64 0, .int .i64 1, .int .u64 0, .int .u64 0, .int .u64 0, .int .u64 0, .int .u64 0, .int .u64 0, .int .u64 0, .int .u64 0, .slice none 0 0, .bool false, .int .u64 0, .int .u64 0, .int .u64 0, .int .u64 0, .int .u64 0] = .agg l.toArray from by rw [← hl, if_neg hcz]; rfl)
   obtain ⟨V, hV⟩ : ∃ V, (W3.setCell ⟨w.heap.size + 2, 3, none⟩ (.int .i64 1)) = V := ⟨_, rfl⟩
   have tV : Touch W3 V (fun k => k = w.heap.size + 2) := by rw [← hV]; exact (Touch.setCell (S := fun k => k = w.heap.size + 2) (Touch.refl W3 _) ⟨w.heap.size + 2, 3, none⟩ (.inl rfl) _)
   have RV := (show V.rowIs (w.heap.size + 2) 52 5 _ from by rw [← hV]; exact (rowIs.setL RJ (i := 3) (by simp) (.int .i64 1)))
   have k0 : V.cell? ⟨w.heap.size + 2, 0, none⟩ = some (.int .i64 1) := by rw [RV.cell (i := 0) (by omega)]; rfl
   have k1 : V.cell? ⟨w.heap.size + 2, 1, none⟩ = some (.int .i64 0) := by rw [RV.cell (i := 1) (by omega)]; rfl
   have k2 : V.cell? ⟨w.heap.size + 2, 2, none⟩ = some (.int .i64 0) := by rw [RV.cell (i := 2) (by omega)]; rfl
   have k3 : V.cell? ⟨w.heap.size + 2, 3, none⟩ = some (.int .i64 1) := by rw [RV.cell (i := 3) (by omega)]; rfl
   have k4 : V.cell? ⟨w.heap.size + 2, 4, none⟩ = some (.int .u64 0) := by rw [RV.cell (i := 4) (by omega)]; rfl
   have szV := tV.size
   have r0 := rangeAt_block (rangeAt_block r02 (B3.block w.heap.size (by omega))) (tV.block w.heap.size (by omega) (by omega))
   have g := fun i v hv => r0 i v hv
   simp only [Nat.zero_add] at g
   have q0 := g 0 _ rfl
   have q1 := g 1 _ rfl
   have q2 := g 2 _ rfl
   have q3 := g 3 _ rfl
   have q4 := g 4 _ rfl
   have q5 := g 5 _ rfl
   have HT1 := hide (there_block (there_block th2 (B3.block _ (by omega))) (tV.block (w.heap.size + 1) (by omega) (by omega)))
   have BV := hide ((B2.trans (B3.mono (by omega))).trans (tV.below (B := w.heap.size) (fun k hk => by omega) (by omega)))
   have lV : w.heap.size + 2 < V.heap.size := by omega
   have l3 : w.heap.size + 2 < W3.heap.size := by omega
   clear g r0 r02 th2 B2 B3 RJ jf RV tV
   obtain ⟨dT, hdT1, hdT2⟩ := row79
   have DT1 := hide hdT1
   have DT2 := hide hdT2
   clear hdT1 hdT2 hl
   clear hW2 hW3
   go_wp2_with (refine wpList_store_mid (by rfl) 59 (.tmp 8) (.tmp 19) (by rfl) (w.heap.size + 1) 0 l.toArray (by rfl) (by exact HLA.out) (by simpa [hl1.out.1] using HT1.out) (by simpa [hl1.out.1] using size79) (by exact all_oneCell_toArray hl1.out.2) ?_)
   have r5 := World.rangeAt_setCells_same V (w.heap.size + 1) 0 l (by rw [hl1.out.1]; exact HT1.out)
   refine bodyPost_ret (v := .agg l.toArray) ?res rfl ⟨rfl, ?bel⟩
   case res => exact results_c (fn := Tryz.f15) (t := 8) (by rfl) (by rfl) (run_loadVar_mid _ _ 0 _ l dT r5 DT1.out DT2.out (by rw [hl1.out.1]; exact size79))
   case bel => exact BV.out.trans ((touch_setCells (w.heap.size + 1) l 0 _).below (fun k hk => by omega) (by omega))
  ·have HLA := hide (show Value.agg #[.int .i64 s0, .int .i64 s1, .int .i64 s2, .int .i64 s3, .int .i64 s4, .int .i64 s5, .int .i64 hand, .int .i64 1, .int .i64 0, .int .i64 1, .int .i64 1, .int .u64 0, .int .i64 1, .int .u64 0, .int .u64 0, .int .u64 0, .int .u64 0, .int .u64 0, .int .u64 0, .int .u64 0, .int .u64 0, .slice none 0 0, .bool false, .int .u64 0, .int .u64 0, .int .u64 0, .int .u64 0, .int .u64 0] = .agg l.toArray from by rw [← hl, if_neg hcz]; rfl)
   obtain ⟨V, hV⟩ : ∃ V, ((W3.setCell ⟨w.heap.size + 2, 2, none⟩ (.int .i64 1)).setCell ⟨w.heap.size + 2, 3, none⟩ (.int .i64 1)) = V := ⟨_, rfl⟩
   have tV : Touch W3 V (fun k => k = w.heap.size + 2) := by rw [← hV]; exact (Touch.setCell (S := fun k => k = w.heap.size + 2) (Touch.setCell (S := fun k => k = w.heap.size + 2) (Touch.refl W3 _) ⟨w.heap.size + 2, 2, none⟩ (.inl rfl) _) ⟨w.heap.size + 2, 3, none⟩ (.inl rfl) _)
   have RV := (show V.rowIs (w.heap.size + 2) 52 5 _ from by rw [← hV]; exact (rowIs.setL (rowIs.setL RJ (i := 2) (by simp) (.int .i64 1)) (i := 3) (by simp) (.int .i64 1)))
   have k0 : V.cell? ⟨w.heap.size + 2, 0, none⟩ = some (.int .i64 1) := by rw [RV.cell (i := 0) (by omega)]; rfl
   have k1 : V.cell? ⟨w.heap.size + 2, 1, none⟩ = some (.int .i64 0) := by rw [RV.cell (i := 1) (by omega)]; rfl
   have k2 : V.cell? ⟨w.heap.size + 2, 2, none⟩ = some (.int .i64 1) := by rw [RV.cell (i := 2) (by omega)]; rfl
   have k3 : V.cell? ⟨w.heap.size + 2, 3, none⟩ = some (.int .i64 1) := by rw [RV.cell (i := 3) (by omega)]; rfl
   have k4 : V.cell? ⟨w.heap.size + 2, 4, none⟩ = some (.int .u64 0) := by rw [RV.cell (i := 4) (by omega)]; rfl
   have szV := tV.size
   have r0 := rangeAt_block (rangeAt_block r02 (B3.block w.heap.size (by omega))) (tV.block w.heap.size (by omega) (by omega))
   have g := fun i v hv => r0 i v hv
   simp only [Nat.zero_add] at g
   have q0 := g 0 _ rfl
   have q1 := g 1 _ rfl
   have q2 := g 2 _ rfl
   have q3 := g 3 _ rfl
   have q4 := g 4 _ rfl
   have q5 := g 5 _ rfl
   have HT1 := hide (there_block (there_block th2 (B3.block _ (by omega))) (tV.block (w.heap.size + 1) (by omega) (by omega)))
   have BV := hide ((B2.trans (B3.mono (by omega))).trans (tV.below (B := w.heap.size) (fun k hk => by omega) (by omega)))
   have lV : w.heap.size + 2 < V.heap.size := by omega
   have l3 : w.heap.size + 2 < W3.heap.size := by omega
   clear g r0 r02 th2 B2 B3 RJ jf RV tV
   obtain ⟨dT, hdT1, hdT2⟩ := row79
   have DT1 := hide hdT1
   have DT2 := hide hdT2
   clear hdT1 hdT2 hl
   clear hW2 hW3
   go_wp2_with (refine wpList_store_mid (by rfl) 59 (.tmp 8) (.tmp 19) (by rfl) (w.heap.size + 1) 0 l.toArray (by rfl) (by exact HLA.out) (by simpa [hl1.out.1] using HT1.out) (by simpa [hl1.out.1] using size79) (by exact all_oneCell_toArray hl1.out.2) ?_)
   have r5 := World.rangeAt_setCells_same V (w.heap.size + 1) 0 l (by rw [hl1.out.1]; exact HT1.out)
   refine bodyPost_ret (v := .agg l.toArray) ?res rfl ⟨rfl, ?bel⟩
   case res => exact results_c (fn := Tryz.f15) (t := 8) (by rfl) (by rfl) (run_loadVar_mid _ _ 0 _ l dT r5 DT1.out DT2.out (by rw [hl1.out.1]; exact size79))
   case bel => exact BV.out.trans ((touch_setCells (w.heap.size + 1) l 0 _).below (fun k hk => by omega) (by omega))
theorem rgv_no (w : World) (s0 s1 s2 s3 s4 s5 hand ix : Int) (hb : s1 < 1) :
  Calls Tryz.prog 17 #[.agg #[.int .i64 s0, .int .i64 s1, .int .i64 s2, .int .i64 s3, .int .i64 s4, .int .i64 s5], .int .i64 hand, .int .i64 ix] w fun e w' => e = .returned (.agg (tk ⟨s0, s1, s2, s3, s4, s5⟩ hand ⟨2, ix, 0, 0, 0⟩ 2 .zero ⟨false, 0⟩).toArray) ∧ Below w.heap.size w w' := by
 have kb : decide (s1 < 1) = true := by simpa using hb
 obtain ⟨l0, hl0⟩ : ∃ l, tk ⟨s0, s1, s2, s3, s4, s5⟩ hand ⟨2, ix, 0, 0, 0⟩ 1 .zero ⟨false, 0⟩ = l := ⟨_, rfl⟩
 obtain ⟨l, hl⟩ : ∃ l, tk ⟨s0, s1, s2, s3, s4, s5⟩ hand ⟨2, ix, 0, 0, 0⟩ 2 .zero ⟨false, 0⟩ = l := ⟨_, rfl⟩
 have hset : l0.set 12 (.int .i64 2) = l := by rw [← hl0, ← hl]; rfl
 rw [hl]
 have HL0 := hide (show l0.length = 28 from by rw [← hl0]; rfl)
 have hl1 := hide (show IsTk l from by rw [← hl]; exact tk_is _ _ _ _ _ _)
 have HLA := hide (show Value.agg #[.int .i64 s0, .int .i64 s1, .int .i64 s2, .int .i64 s3, .int .i64 s4, .int .i64 s5, .int .i64 hand, .int .i64 2, .int .i64 ix, .int .i64 0, .int .i64 0, .int .u64 0, .int .i64 1, .int .u64 0, .int .u64 0, .int .u64 0, .int .u64 0, .int .u64 0, .int .u64 0, .int .u64 0, .int .u64 0, .slice none 0 0, .bool false, .int .u64 0, .int .u64 0, .int .u64 0, .int .u64 0, .int .u64 0] = .agg l0.toArray from by rw [← hl0]; rfl)
 obtain ⟨W2, hW2⟩ : ∃ W2, (w.alloc (.cells #[.int .i64 s0, .int .i64 s1, .int .i64 s2, .int .i64 s3, .int .i64 s4, .int .i64 s5] 23)).alloc (.cells #[.int .i64 0, .int .i64 0, .int .i64 0, .int .i64 0, .int .i64 0, .int .i64 0, .int .i64 0, .int .i64 0, .int .i64 0, .int .i64 0, .int .i64 0, .int .u64 0, .int .i64 0, .int .u64 0, .int .u64 0, .int .u64 0, .int .u64 0, .int .u64 0, .int .u64 0, .int .u64 0, .int .u64 0, .slice none 0 0, .bool false, .int .u64 0, .int .u64 0, .int .u64 0, .int .u64 0, .int .u64 0] 59) = W2 := ⟨_, rfl⟩
 have sz2 : W2.heap.size = w.heap.size + 2 := by rw [← hW2]; simp
 have th2 : W2.there (w.heap.size + 1) 0 28 := by
  rw [← hW2]
  have := there_alloc_new (w := w.alloc (.cells #[.int .i64 s0, .int .i64 s1, .int .i64 s2, .int .i64 s3, .int .i64 s4, .int .i64 s5] 23)) (t := 59) (cs := tk0)
  simpa [tk0] using this
 have B2 : Below w.heap.size w W2 := by rw [← hW2]; exact ((Below.refl _ w).alloc (Nat.le_refl _) _).alloc (by simp) _
 have r02 : W2.rangeAt w.heap.size 0 [.int .i64 s0, .int .i64 s1, .int .i64 s2, .int .i64 s3, .int .i64 s4, .int .i64 s5] := by rw [← hW2]; exact World.rangeAt_alloc (cell_range (b := 0)) _
 have p2 := fun i v hv => r02 i v hv
 simp only [Nat.zero_add] at p2
 have p0 := p2 0 _ rfl
 have p1 := p2 1 _ rfl
 have p3 := p2 3 _ rfl
 have p4 := p2 4 _ rfl
 have p5 := p2 5 _ rfl
 replace p2 := p2 2 _ rfl
 obtain ⟨Wz, hWz⟩ : ∃ Wz, W2.alloc (.cells #[.int .i64 0, .int .i64 0, .int .i64 0, .int .i64 0, .int .i64 0, .int .i64 0, .int .i64 0, .int .i64 0, .int .i64 0, .int .i64 0, .int .i64 0, .int .u64 0, .int .i64 0, .int .u64 0, .int .u64 0, .int .u64 0, .int .u64 0, .int .u64 0, .int .u64 0, .int .u64 0, .int .u64 0, .slice none 0 0, .bool false, .int .u64 0, .int .u64 0, .int .u64 0, .int .u64 0, .int .u64 0] 59) = Wz := ⟨_, rfl⟩
 have szz : Wz.heap.size = w.heap.size + 3 := by rw [← hWz]; simp; omega
 have RZ : Wz.rowIs (w.heap.size + 2) 59 28 (lrow tk0) := by
  rw [← hWz]
  have := rowL_alloc W2 tk0 59 (n := 28) rfl
  rwa [sz2] at this
 have Bz : Below W2.heap.size W2 Wz := by rw [← hWz]; exact (Below.refl _ W2).alloc (Nat.le_refl _) _
 have THZ := hide (rowIs.there RZ (o := 0) (m := 28) (by omega))
 have HTK0 := hide (show IsTk l0 from by rw [← hl0]; exact tk_is _ _ _ _ _ _)
 have rz := rangeAt_block r02 (Bz.block w.heap.size (by omega))
 have gz := fun i v hv => rz i v hv
 simp only [Nat.zero_add] at gz
 have p0' := gz 0 _ rfl
 have p1' := gz 1 _ rfl
 have p2' := gz 2 _ rfl
 have p3' := gz 3 _ rfl
 have p4' := gz 4 _ rfl
 have p5' := gz 5 _ rfl
 clear gz rz
 obtain ⟨dT, hdT1, hdT2⟩ := row79
 have DT1 := hide hdT1
 have DT2 := hide hdT2
 clear hdT1 hdT2
 go_enter Tryz.func17, Tryz.ntmps17
 go_upto_region 2 with (refine wpList_store_mid (by rfl) 59 (.tmp 7) (.tmp 12) (by rfl) (w.heap.size + 2) 0 l0.toArray (by rfl) (by exact HLA.out) (by simpa [HL0.out] using THZ.out) (by simpa [HL0.out] using size79) (by exact all_oneCell_toArray HTK0.out.2) ?_)
 clear hW2 hWz p0 p1 p2 p3 p4 p5 p0' p1' p2' p3' p4' p5'
 obtain ⟨W3, hW3⟩ : ∃ W3, Wz.setCells (w.heap.size + 2) 0 l0 = W3 := ⟨_, rfl⟩
 have hW3' : Wz.setCells (w.heap.size + 2) 0 l0.toArray.toList = W3 := hW3
 try rw [hW3']
 try rw [hW3]
 have tt3 : Touch Wz W3 (fun k => k = w.heap.size + 2) := by rw [← hW3]; exact touch_setCells _ _ _ _
 have sz3 : w.heap.size + 3 ≤ W3.heap.size := by have := tt3.size; omega
 have RTK := hide (show W3.rowIs (w.heap.size + 2) 59 28 (lrow l0) from by rw [← hW3]; exact (rowIs.setCells _ 0 _ _ RZ).congr (fun i hi => by rw [if_pos (by rw [HL0.out]; omega)]; rfl))
 have B3 : Below W2.heap.size W2 W3 := Bz.trans (tt3.below (fun k hk => by omega) (by omega))
 clear hW3 hW3' tt3 RZ Bz THZ HTK0
 have v12 : W3.cell? ⟨w.heap.size + 2, 12, none⟩ = some (.int .i64 1) := by rw [RTK.out.cell (i := 12) (by omega), ← hl0]; rfl
 have vf12 := RTK.out.frozen 12
 have r0 := rangeAt_block r02 (B3.block w.heap.size (by omega))
 have g := fun i v hv => r0 i v hv
 simp only [Nat.zero_add] at g
 have q0 := g 0 _ rfl
 have q1 := g 1 _ rfl
 have q2 := g 2 _ rfl
 have q3 := g 3 _ rfl
 have q4 := g 4 _ rfl
 have q5 := g 5 _ rfl
 have TH3 := hide (there_block th2 (B3.block _ (by omega)))
 have BV := hide (B2.trans (B3.mono (by omega)))
 have l3 : w.heap.size + 2 < W3.heap.size := by omega
 clear g r0 r02 th2 B2 B3 HLA
 clear hl hl0
 have HRT := RTK
 have HTH := TH3
 have y12 := v12
 have yf12 := vf12
 have ly := l3
 go_upto_region 4 with (fail)
 obtain ⟨V, hV⟩ : ∃ V, (W3.setCell ⟨w.heap.size + 2, 12, none⟩ (.int .i64 2)) = V := ⟨_, rfl⟩
 rw [hV]
 have RL := hide (show V.rangeAt (w.heap.size + 2) 0 l from by rw [← hV, ← hset]; exact rowIs.range (rowIs.setL HRT.out (i := 12) (by rw [HL0.out]; omega) (.int .i64 2)) (by simp [HL0.out]))
 have HT1 := hide (show V.there (w.heap.size + 1) 0 28 from by rw [← hV]; exact there_block HTH.out ((Touch.setCell (S := fun k => k = w.heap.size + 2) (Touch.refl _ _) ⟨w.heap.size + 2, 12, none⟩ (.inl rfl) _).block _ (by omega) (by omega)))
 have BW := hide (show Below w.heap.size w V from by rw [← hV]; exact (BV.out).setCell (by simp only; omega) _)
 have lV : w.heap.size + 3 ≤ V.heap.size := by rw [← hV]; simp; omega
 clear hV
 go_wp2_with (first
  | (refine wpList_load_mid (by rfl) 59 (.tmp 7) (by rfl) (w.heap.size + 2) 0 (by rfl) l dT (by exact RL.out) (by exact DT1.out) (by exact DT2.out) (by rw [hl1.out.1]; exact size79) ?_)
  | (refine wpList_store_mid (by rfl) 59 (.tmp 6) (.tmp 23) (by rfl) (w.heap.size + 1) 0 l.toArray (by rfl) (by rfl) (by simpa [hl1.out.1] using HT1.out) (by simpa [hl1.out.1] using size79) (by exact all_oneCell_toArray hl1.out.2) ?_))
 have r5 := World.rangeAt_setCells_same V (w.heap.size + 1) 0 l (by rw [hl1.out.1]; exact HT1.out)
 refine bodyPost_ret (v := .agg l.toArray) ?res rfl ⟨rfl, ?bel⟩
 case res => exact results_c (fn := Tryz.f17) (t := 6) (by rfl) (by rfl) (run_loadVar_mid _ _ 0 _ l dT r5 DT1.out DT2.out (by rw [hl1.out.1]; exact size79))
 case bel => exact BW.out.trans ((touch_setCells (w.heap.size + 1) l 0 _).below (fun k hk => by omega) (by omega))
theorem rgv_out (w : World) (s0 s1 s2 s3 s4 s5 hand ix : Int) (h5 : Shape.R5 s0 s1 s2 s3 s4) (hb : ¬ s1 < 1) (ht : ¬ (1 ≤ ix ∧ ix ≤ s0)) :
  Calls Tryz.prog 17 #[.agg #[.int .i64 s0, .int .i64 s1, .int .i64 s2, .int .i64 s3, .int .i64 s4, .int .i64 s5], .int .i64 hand, .int .i64 ix] w fun e w' => e = .returned (.agg (tk ⟨s0, s1, s2, s3, s4, s5⟩ hand ⟨2, ix, 0, 0, 0⟩ 2 .zero ⟨false, 0⟩).toArray) ∧ Below w.heap.size w w' := by
 have kb : decide (s1 < 1) = false := by simpa using hb
 have OB := hide (fun w1 : World => rhead_any (sh := ⟨s0, s1, s2, s3, s4, s5⟩) h5 ix w1)
 rw [show headAt ⟨s0, s1, s2, s3, s4, s5⟩ ix = -1 from if_neg ht] at OB
 simp only [Shp.val] at OB
 obtain ⟨l0, hl0⟩ : ∃ l, tk ⟨s0, s1, s2, s3, s4, s5⟩ hand ⟨2, ix, 0, 0, 0⟩ 1 .zero ⟨false, 0⟩ = l := ⟨_, rfl⟩
 obtain ⟨l, hl⟩ : ∃ l, tk ⟨s0, s1, s2, s3, s4, s5⟩ hand ⟨2, ix, 0, 0, 0⟩ 2 .zero ⟨false, 0⟩ = l := ⟨_, rfl⟩
 have hset : l0.set 12 (.int .i64 2) = l := by rw [← hl0, ← hl]; rfl
 rw [hl]
 have HL0 := hide (show l0.length = 28 from by rw [← hl0]; rfl)
 have hl1 := hide (show IsTk l from by rw [← hl]; exact tk_is _ _ _ _ _ _)
 have HLA := hide (show Value.agg #[.int .i64 s0, .int .i64 s1, .int .i64 s2, .int .i64 s3, .int .i64 s4, .int .i64 s5, .int .i64 hand, .int .i64 2, .int .i64 ix, .int .i64 0, .int .i64 0, .int .u64 0, .int .i64 1, .int .u64 0, .int .u64 0, .int .u64 0, .int .u64 0, .int .u64 0, .int .u64 0, .int .u64 0, .int .u64 0, .slice none 0 0, .bool false, .int .u64 0, .int .u64 0, .int .u64 0, .int .u64 0, .int .u64 0] = .agg l0.toArray from by rw [← hl0]; rfl)
 obtain ⟨W2, hW2⟩ : ∃ W2, (w.alloc (.cells #[.int .i64 s0, .int .i64 s1, .int .i64 s2, .int .i64 s3, .int .i64 s4, .int .i64 s5] 23)).alloc (.cells #[.int .i64 0, .int .i64 0, .int .i64 0, .int .i64 0, .int .i64 0, .int .i64 0, .int .i64 0, .int .i64 0, .int .i64 0, .int .i64 0, .int .i64 0, .int .u64 0, .int .i64 0, .int .u64 0, .int .u64 0, .int .u64 0, .int .u64 0, .int .u64 0, .int .u64 0, .int .u64 0, .int .u64 0, .slice none 0 0, .bool false, .int .u64 0, .int .u64 0, .int .u64 0, .int .u64 0, .int .u64 0] 59) = W2 := ⟨_, rfl⟩
 have sz2 : W2.heap.size = w.heap.size + 2 := by rw [← hW2]; simp
 have th2 : W2.there (w.heap.size + 1) 0 28 := by
  rw [← hW2]
  have := there_alloc_new (w := w.alloc (.cells #[.int .i64 s0, .int .i64 s1, .int .i64 s2, .int .i64 s3, .int .i64 s4, .int .i64 s5] 23)) (t := 59) (cs := tk0)
  simpa [tk0] using this
 have B2 : Below w.heap.size w W2 := by rw [← hW2]; exact ((Below.refl _ w).alloc (Nat.le_refl _) _).alloc (by simp) _
 have r02 : W2.rangeAt w.heap.size 0 [.int .i64 s0, .int .i64 s1, .int .i64 s2, .int .i64 s3, .int .i64 s4, .int .i64 s5] := by rw [← hW2]; exact World.rangeAt_alloc (cell_range (b := 0)) _
 have p2 := fun i v hv => r02 i v hv
 simp only [Nat.zero_add] at p2
 have p0 := p2 0 _ rfl
 have p1 := p2 1 _ rfl
 have p3 := p2 3 _ rfl
 have p4 := p2 4 _ rfl
 have p5 := p2 5 _ rfl
 replace p2 := p2 2 _ rfl
 obtain ⟨Wz, hWz⟩ : ∃ Wz, W2.alloc (.cells #[.int .i64 0, .int .i64 0, .int .i64 0, .int .i64 0, .int .i64 0, .int .i64 0, .int .i64 0, .int .i64 0, .int .i64 0, .int .i64 0, .int .i64 0, .int .u64 0, .int .i64 0, .int .u64 0, .int .u64 0, .int .u64 0, .int .u64 0, .int .u64 0, .int .u64 0, .int .u64 0, .int .u64 0, .slice none 0 0, .bool false, .int .u64 0, .int .u64 0, .int .u64 0, .int .u64 0, .int .u64 0] 59) = Wz := ⟨_, rfl⟩
 have szz : Wz.heap.size = w.heap.size + 3 := by rw [← hWz]; simp; omega
 have RZ : Wz.rowIs (w.heap.size + 2) 59 28 (lrow tk0) := by
  rw [← hWz]
  have := rowL_alloc W2 tk0 59 (n := 28) rfl
  rwa [sz2] at this
 have Bz : Below W2.heap.size W2 Wz := by rw [← hWz]; exact (Below.refl _ W2).alloc (Nat.le_refl _) _
 have THZ := hide (rowIs.there RZ (o := 0) (m := 28) (by omega))
 have HTK0 := hide (show IsTk l0 from by rw [← hl0]; exact tk_is _ _ _ _ _ _)
 have rz := rangeAt_block r02 (Bz.block w.heap.size (by omega))
 have gz := fun i v hv => rz i v hv
 simp only [Nat.zero_add] at gz
 have p0' := gz 0 _ rfl
 have p1' := gz 1 _ rfl
 have p2' := gz 2 _ rfl
 have p3' := gz 3 _ rfl
 have p4' := gz 4 _ rfl
 have p5' := gz 5 _ rfl
 clear gz rz
 obtain ⟨dT, hdT1, hdT2⟩ := row79
 have DT1 := hide hdT1
 have DT2 := hide hdT2
 clear hdT1 hdT2
 go_enter Tryz.func17, Tryz.ntmps17
 go_upto_region 2 with (refine wpList_store_mid (by rfl) 59 (.tmp 7) (.tmp 12) (by rfl) (w.heap.size + 2) 0 l0.toArray (by rfl) (by exact HLA.out) (by simpa [HL0.out] using THZ.out) (by simpa [HL0.out] using size79) (by exact all_oneCell_toArray HTK0.out.2) ?_)
 clear hW2 hWz p0 p1 p2 p3 p4 p5 p0' p1' p2' p3' p4' p5'
 obtain ⟨W3, hW3⟩ : ∃ W3, Wz.setCells (w.heap.size + 2) 0 l0 = W3 := ⟨_, rfl⟩
 have hW3' : Wz.setCells (w.heap.size + 2) 0 l0.toArray.toList = W3 := hW3
 try rw [hW3']
 try rw [hW3]
 have tt3 : Touch Wz W3 (fun k => k = w.heap.size + 2) := by rw [← hW3]; exact touch_setCells _ _ _ _
 have sz3 : w.heap.size + 3 ≤ W3.heap.size := by have := tt3.size; omega
 have RTK := hide (show W3.rowIs (w.heap.size + 2) 59 28 (lrow l0) from by rw [← hW3]; exact (rowIs.setCells _ 0 _ _ RZ).congr (fun i hi => by rw [if_pos (by rw [HL0.out]; omega)]; rfl))
 have B3 : Below W2.heap.size W2 W3 := Bz.trans (tt3.below (fun k hk => by omega) (by omega))
 clear hW3 hW3' tt3 RZ Bz THZ HTK0
 have v12 : W3.cell? ⟨w.heap.size + 2, 12, none⟩ = some (.int .i64 1) := by rw [RTK.out.cell (i := 12) (by omega), ← hl0]; rfl
 have vf12 := RTK.out.frozen 12
 have r0 := rangeAt_block r02 (B3.block w.heap.size (by omega))
 have g := fun i v hv => r0 i v hv
 simp only [Nat.zero_add] at g
 have q0 := g 0 _ rfl
 have q1 := g 1 _ rfl
 have q2 := g 2 _ rfl
 have q3 := g 3 _ rfl
 have q4 := g 4 _ rfl
 have q5 := g 5 _ rfl
 have TH3 := hide (there_block th2 (B3.block _ (by omega)))
 have BV := hide (B2.trans (B3.mono (by omega)))
 have l3 : w.heap.size + 2 < W3.heap.size := by omega
 clear g r0 r02 th2 B2 B3 HLA h5 hb ht
 clear hl hl0
 go_upto_region 4 with ((go_at_call 38; refine (OB.out _).mono ?_; rintro e w1 ⟨rfl, hb1⟩; have HB1 := hide hb1; have y12 : w1.cell? ⟨w.heap.size + 2, 12, none⟩ = some (.int .i64 1) := (hb1.cell (p := ⟨w.heap.size + 2, 12, none⟩) (by simp only; omega)).trans v12; have yf12 := (hb1.frozen (p := ⟨w.heap.size + 2, 12, none⟩) (by simp only; omega)).trans vf12; have ly : w.heap.size + 2 < w1.heap.size := (by have := hb1.size; omega); have HRT := hide (RTK.out.of_block (hb1.block _ (by omega))); have HTH := hide (there_block TH3.out (hb1.block _ (by omega))); clear hb1))
 obtain ⟨V, hV⟩ : ∃ V, (w1.setCell ⟨w.heap.size + 2, 12, none⟩ (.int .i64 2)) = V := ⟨_, rfl⟩
 rw [hV]
 have RL := hide (show V.rangeAt (w.heap.size + 2) 0 l from by rw [← hV, ← hset]; exact rowIs.range (rowIs.setL HRT.out (i := 12) (by rw [HL0.out]; omega) (.int .i64 2)) (by simp [HL0.out]))
 have HT1 := hide (show V.there (w.heap.size + 1) 0 28 from by rw [← hV]; exact there_block HTH.out ((Touch.setCell (S := fun k => k = w.heap.size + 2) (Touch.refl _ _) ⟨w.heap.size + 2, 12, none⟩ (.inl rfl) _).block _ (by omega) (by omega)))
 have BW := hide (show Below w.heap.size w V from by rw [← hV]; exact (BV.out.trans (HB1.out.mono (by omega))).setCell (by simp only; omega) _)
 have lV : w.heap.size + 3 ≤ V.heap.size := by rw [← hV]; simp; omega
 clear hV
 go_wp2_with (first
  | (refine wpList_load_mid (by rfl) 59 (.tmp 7) (by rfl) (w.heap.size + 2) 0 (by rfl) l dT (by exact RL.out) (by exact DT1.out) (by exact DT2.out) (by rw [hl1.out.1]; exact size79) ?_)
  | (refine wpList_store_mid (by rfl) 59 (.tmp 6) (.tmp 23) (by rfl) (w.heap.size + 1) 0 l.toArray (by rfl) (by rfl) (by simpa [hl1.out.1] using HT1.out) (by simpa [hl1.out.1] using size79) (by exact all_oneCell_toArray hl1.out.2) ?_))
 have r5 := World.rangeAt_setCells_same V (w.heap.size + 1) 0 l (by rw [hl1.out.1]; exact HT1.out)
 refine bodyPost_ret (v := .agg l.toArray) ?res rfl ⟨rfl, ?bel⟩
 case res => exact results_c (fn := Tryz.f17) (t := 6) (by rfl) (by rfl) (run_loadVar_mid _ _ 0 _ l dT r5 DT1.out DT2.out (by rw [hl1.out.1]; exact size79))
 case bel => exact BW.out.trans ((touch_setCells (w.heap.size + 1) l 0 _).below (fun k hk => by omega) (by omega))
theorem rgv_in (w : World) (s0 s1 s2 s3 s4 s5 hand ix : Int) (h5 : Shape.R5 s0 s1 s2 s3 s4) (hb : ¬ s1 < 1) (ht : 1 ≤ ix ∧ ix ≤ s0) :
  Calls Tryz.prog 17 #[.agg #[.int .i64 s0, .int .i64 s1, .int .i64 s2, .int .i64 s3, .int .i64 s4, .int .i64 s5], .int .i64 hand, .int .i64 ix] w fun e w' => e = .returned (.agg (tk ⟨s0, s1, s2, s3, s4, s5⟩ hand ⟨2, ix, 0, 0, 0⟩ 1 .zero ⟨false, 0⟩).toArray) ∧ Below w.heap.size w w' := by
 have kb : decide (s1 < 1) = false := by simpa using hb
 have OB := hide (fun w1 : World => rhead_any (sh := ⟨s0, s1, s2, s3, s4, s5⟩) h5 ix w1)
 have hp := head_bd (sh := ⟨s0, s1, s2, s3, s4, s5⟩) h5 (i := ix) ht
 obtain ⟨p, ep⟩ : ∃ p, headAt ⟨s0, s1, s2, s3, s4, s5⟩ ix = p := ⟨_, rfl⟩
 rw [ep] at OB hp
 have kp : decide (p < 0) = false := by have := hp.1; simp; omega
 simp only [Shp.val] at OB
 clear ep hp
 obtain ⟨l0, hl0⟩ : ∃ l, tk ⟨s0, s1, s2, s3, s4, s5⟩ hand ⟨2, ix, 0, 0, 0⟩ 1 .zero ⟨false, 0⟩ = l := ⟨_, rfl⟩
 obtain ⟨l, hl⟩ : ∃ l, tk ⟨s0, s1, s2, s3, s4, s5⟩ hand ⟨2, ix, 0, 0, 0⟩ 1 .zero ⟨false, 0⟩ = l := ⟨_, rfl⟩
 have hset : l0 = l := hl0.symm.trans hl
 rw [hl]
 have HL0 := hide (show l0.length = 28 from by rw [← hl0]; rfl)
 have hl1 := hide (show IsTk l from by rw [← hl]; exact tk_is _ _ _ _ _ _)
 have HLA := hide (show Value.agg #[.int .i64 s0, .int .i64 s1, .int .i64 s2, .int .i64 s3, .int .i64 s4, .int .i64 s5, .int .i64 hand, .int .i64 2, .int .i64 ix, .int .i64 0, .int .i64 0, .int .u64 0, .int .i64 1, .int .u64 0, .int .u64 0, .int .u64 0, .int .u64 0, .int .u64 0, .int .u64 0, .int .u64 0, .int .u64 0, .slice none 0 0, .bool false, .int .u64 0, .int .u64 0, .int .u64 0, .int .u64 0, .int .u64 0] = .agg l0.toArray from by rw [← hl0]; rfl)
 obtain ⟨W2, hW2⟩ : ∃ W2, (w.alloc (.cells #[.int .i64 s0, .int .i64 s1, .int .i64 s2, .int .i64 s3, .int .i64 s4, .int .i64 s5] 23)).alloc (.cells #[.int .i64 0, .int .i64 0, .int .i64 0, .int .i64 0, .int .i64 0, .int .i64 0, .int .i64 0, .int .i64 0, .int .i64 0, .int .i64 0, .int .i64 0, .int .u64 0, .int .i64 0, .int .u64 0, .int .u64 0, .int .u64 0, .int .u64 0, .int .u64 0, .int .u64 0, .int .u64 0, .int .u64 0, .slice none 0 0, .bool false, .int .u64 0, .int .u64 0, .int .u64 0, .int .u64 0, .int .u64 0] 59) = W2 := ⟨_, rfl⟩
 have sz2 : W2.heap.size = w.heap.size + 2 := by rw [← hW2]; simp
 have th2 : W2.there (w.heap.size + 1) 0 28 := by
  rw [← hW2]
  have := there_alloc_new (w := w.alloc (.cells #[.int .i64 s0, .int .i64 s1, .int .i64 s2, .int .i64 s3, .int .i64 s4, .int .i64 s5] 23)) (t := 59) (cs := tk0)
  simpa [tk0] using this
 have B2 : Below w.heap.size w W2 := by rw [← hW2]; exact ((Below.refl _ w).alloc (Nat.le_refl _) _).alloc (by simp) _
 have r02 : W2.rangeAt w.heap.size 0 [.int .i64 s0, .int .i64 s1, .int .i64 s2, .int .i64 s3, .int .i64 s4, .int .i64 s5] := by rw [← hW2]; exact World.rangeAt_alloc (cell_range (b := 0)) _
 have p2 := fun i v hv => r02 i v hv
 simp only [Nat.zero_add] at p2
 have p0 := p2 0 _ rfl
 have p1 := p2 1 _ rfl
 have p3 := p2 3 _ rfl
 have p4 := p2 4 _ rfl
 have p5 := p2 5 _ rfl
 replace p2 := p2 2 _ rfl
 obtain ⟨Wz, hWz⟩ : ∃ Wz, W2.alloc (.cells #[.int .i64 0, .int .i64 0, .int .i64 0, .int .i64 0, .int .i64 0, .int .i64 0, .int .i64 0, .int .i64 0, .int .i64 0, .int .i64 0, .int .i64 0, .int .u64 0, .int .i64 0, .int .u64 0, .int .u64 0, .int .u64 0, .int .u64 0, .int .u64 0, .int .u64 0, .int .u64 0, .int .u64 0, .slice none 0 0, .bool false, .int .u64 0, .int .u64 0, .int .u64 0, .int .u64 0, .int .u64 0] 59) = Wz := ⟨_, rfl⟩
 have szz : Wz.heap.size = w.heap.size + 3 := by rw [← hWz]; simp; omega
 have RZ : Wz.rowIs (w.heap.size + 2) 59 28 (lrow tk0) := by
  rw [← hWz]
  have := rowL_alloc W2 tk0 59 (n := 28) rfl
  rwa [sz2] at this
 have Bz : Below W2.heap.size W2 Wz := by rw [← hWz]; exact (Below.refl _ W2).alloc (Nat.le_refl _) _
 have THZ := hide (rowIs.there RZ (o := 0) (m := 28) (by omega))
 have HTK0 := hide (show IsTk l0 from by rw [← hl0]; exact tk_is _ _ _ _ _ _)
 have rz := rangeAt_block r02 (Bz.block w.heap.size (by omega))
 have gz := fun i v hv => rz i v hv
 simp only [Nat.zero_add] at gz
 have p0' := gz 0 _ rfl
 have p1' := gz 1 _ rfl
 have p2' := gz 2 _ rfl
 have p3' := gz 3 _ rfl
 have p4' := gz 4 _ rfl
 have p5' := gz 5 _ rfl
 clear gz rz
 obtain ⟨dT, hdT1, hdT2⟩ := row79
 have DT1 := hide hdT1
 have DT2 := hide hdT2
 clear hdT1 hdT2
 go_enter Tryz.func17, Tryz.ntmps17
 go_upto_region 2 with (refine wpList_store_mid (by rfl) 59 (.tmp 7) (.tmp 12) (by rfl) (w.heap.size + 2) 0 l0.toArray (by rfl) (by exact HLA.out) (by simpa [HL0.out] using THZ.out) (by simpa [HL0.out] using size79) (by exact all_oneCell_toArray HTK0.out.2) ?_)
 clear hW2 hWz p0 p1 p2 p3 p4 p5 p0' p1' p2' p3' p4' p5'
 obtain ⟨W3, hW3⟩ : ∃ W3, Wz.setCells (w.heap.size + 2) 0 l0 = W3 := ⟨_, rfl⟩
 have hW3' : Wz.setCells (w.heap.size + 2) 0 l0.toArray.toList = W3 := hW3
 try rw [hW3']
 try rw [hW3]
 have tt3 : Touch Wz W3 (fun k => k = w.heap.size + 2) := by rw [← hW3]; exact touch_setCells _ _ _ _
 have sz3 : w.heap.size + 3 ≤ W3.heap.size := by have := tt3.size; omega
 have RTK := hide (show W3.rowIs (w.heap.size + 2) 59 28 (lrow l0) from by rw [← hW3]; exact (rowIs.setCells _ 0 _ _ RZ).congr (fun i hi => by rw [if_pos (by rw [HL0.out]; omega)]; rfl))
 have B3 : Below W2.heap.size W2 W3 := Bz.trans (tt3.below (fun k hk => by omega) (by omega))
 clear hW3 hW3' tt3 RZ Bz THZ HTK0
 have v12 : W3.cell? ⟨w.heap.size + 2, 12, none⟩ = some (.int .i64 1) := by rw [RTK.out.cell (i := 12) (by omega), ← hl0]; rfl
 have vf12 := RTK.out.frozen 12
 have r0 := rangeAt_block r02 (B3.block w.heap.size (by omega))
 have g := fun i v hv => r0 i v hv
 simp only [Nat.zero_add] at g
 have q0 := g 0 _ rfl
 have q1 := g 1 _ rfl
 have q2 := g 2 _ rfl
 have q3 := g 3 _ rfl
 have q4 := g 4 _ rfl
 have q5 := g 5 _ rfl
 have TH3 := hide (there_block th2 (B3.block _ (by omega)))
 have BV := hide (B2.trans (B3.mono (by omega)))
 have l3 : w.heap.size + 2 < W3.heap.size := by omega
 clear g r0 r02 th2 B2 B3 HLA h5 hb ht
 clear hl hl0
 go_upto_region 4 with ((go_at_call 38; refine (OB.out _).mono ?_; rintro e w1 ⟨rfl, hb1⟩; have HB1 := hide hb1; have y12 : w1.cell? ⟨w.heap.size + 2, 12, none⟩ = some (.int .i64 1) := (hb1.cell (p := ⟨w.heap.size + 2, 12, none⟩) (by simp only; omega)).trans v12; have yf12 := (hb1.frozen (p := ⟨w.heap.size + 2, 12, none⟩) (by simp only; omega)).trans vf12; have ly : w.heap.size + 2 < w1.heap.size := (by have := hb1.size; omega); have HRT := hide (RTK.out.of_block (hb1.block _ (by omega))); have HTH := hide (there_block TH3.out (hb1.block _ (by omega))); clear hb1))
 obtain ⟨V, hV⟩ : ∃ V, w1 = V := ⟨_, rfl⟩
 skip
 have RL := hide (show V.rangeAt (w.heap.size + 2) 0 l from by rw [← hV, ← hset]; exact rowIs.range HRT.out HL0.out)
 have HT1 := hide (show V.there (w.heap.size + 1) 0 28 from by rw [← hV]; exact HTH.out)
 have BW := hide (show Below w.heap.size w V from by rw [← hV]; exact BV.out.trans (HB1.out.mono (by omega)))
 have lV : w.heap.size + 3 ≤ V.heap.size := by rw [← hV]; omega
 subst hV
 go_wp2_with (first
  | (refine wpList_load_mid (by rfl) 59 (.tmp 7) (by rfl) (w.heap.size + 2) 0 (by rfl) l dT (by exact RL.out) (by exact DT1.out) (by exact DT2.out) (by rw [hl1.out.1]; exact size79) ?_)
  | (refine wpList_store_mid (by rfl) 59 (.tmp 6) (.tmp 23) (by rfl) (w.heap.size + 1) 0 l.toArray (by rfl) (by rfl) (by simpa [hl1.out.1] using HT1.out) (by simpa [hl1.out.1] using size79) (by exact all_oneCell_toArray hl1.out.2) ?_))
 have r5 := World.rangeAt_setCells_same w1 (w.heap.size + 1) 0 l (by rw [hl1.out.1]; exact HT1.out)
 refine bodyPost_ret (v := .agg l.toArray) ?res rfl ⟨rfl, ?bel⟩
 case res => exact results_c (fn := Tryz.f17) (t := 6) (by rfl) (by rfl) (run_loadVar_mid _ _ 0 _ l dT r5 DT1.out DT2.out (by rw [hl1.out.1]; exact size79))
 case bel => exact BW.out.trans ((touch_setCells (w.heap.size + 1) l 0 _).below (fun k hk => by omega) (by omega))
theorem rgive_any {sh : Shp} (h5 : Shape.R5 sh.a sh.b sh.c sh.d sh.e) (hand ix : Int) (w : World) : Calls Tryz.prog 17 #[sh.val, .int .i64 hand, .int .i64 ix] w fun e w' => e = .returned (.agg (tk sh hand ⟨2, ix, 0, 0, 0⟩ (if slotIn sh ix 0 then 1 else 2) .zero ⟨false, 0⟩).toArray) ∧ Below w.heap.size w w' := by
 obtain ⟨s0, s1, s2, s3, s4, s5⟩ := sh
 simp only at h5
 by_cases hb : s1 < 1
 ·rw [if_neg (fun h : slotIn ⟨s0, s1, s2, s3, s4, s5⟩ ix 0 => by have := h.2.2; simp only at this; omega)]
  exact rgv_no w s0 s1 s2 s3 s4 s5 hand ix hb
 ·by_cases ht : 1 ≤ ix ∧ ix ≤ s0
  ·rw [if_pos (show slotIn ⟨s0, s1, s2, s3, s4, s5⟩ ix 0 from ⟨ht, by omega, by show (0 : Int) < s1; omega⟩)]
   exact rgv_in w s0 s1 s2 s3 s4 s5 hand ix h5 hb ht
  ·rw [if_neg (fun h : slotIn ⟨s0, s1, s2, s3, s4, s5⟩ ix 0 => ht h.1)]
   exact rgv_out w s0 s1 s2 s3 s4 s5 hand ix h5 hb ht
end Rom
end
end Go.Proofs.YtppgbndoijppnaaGreat
