/-
  Lemmas: RoomRH, RSq, RSk.
-/
import Derived.Test.YtppgbndoijppnaaGreatTp40
import Derived.Test.YtppgbndoijppnaaGreatTp31
namespace Go.Proofs.YtppgbndoijppnaaGreat
set_option maxHeartbeats 8000000
open Go.RowKit
set_option linter.unusedVariables false
set_option linter.unusedSimpArgs false
set_option linter.unnecessarySimpa false
set_option maxRecDepth 20000
section
namespace Rom
theorem rstepM {w : World} {g n cap : Nat} {f f' : Nat → Int} {x : Stp} {l0 l1 : List Value} {en : Bool} (hl : IsTk l0) (hl1 : IsTk l1) (g7 : l0[7]? = some (.int .i64 1)) (hr : IsRow w g n cap f)
  (hc : ∀ w1 : World, IsRow w1 g n cap f → Calls Tryz.prog 58 #[.agg l0.toArray, .slice (some ⟨g, 0, none⟩) n cap] w1 fun e w' => e = .returned (.tuple #[.agg l1.toArray, x.val, .bool en]) ∧ IsRow w' g n cap f' ∧ w1.grownBy w' (some g)) :
  Calls Tryz.prog 30 #[.agg l0.toArray, .slice (some ⟨g, 0, none⟩) n cap] w fun e w' => e = .returned (.tuple #[.agg l1.toArray, x.val, .bool en]) ∧ IsRow w' g n cap f' ∧ w.grownBy w' (some g) := by
 have lg := hr.lt
 have hll : l0.length = 28 := hl.1
 obtain ⟨W3, hW3⟩ : ∃ W3, ((w.alloc (.cells l0.toArray 59)).alloc (.cells tk0.toArray 59)).alloc (.cells [Value.int .i64 0, .int .i64 0, .int .i64 0, .int .u64 0, .int .u64 0, .bool false].toArray 69) = W3 := ⟨_, rfl⟩
 have sz3 : W3.heap.size = w.heap.size + 3 := by rw [← hW3]; simp
 have R0 : W3.rowIs w.heap.size 59 28 (lrow l0) := by rw [← hW3]; exact ((rowL_alloc w l0 _ hll).alloc _).alloc _
 have R1 : W3.rowIs (w.heap.size + 1) 59 28 (lrow tk0) := by
  rw [← hW3]
  have := (rowL_alloc (w.alloc (.cells l0.toArray 59)) tk0 59 (n := 28) rfl).alloc (.cells [Value.int .i64 0, .int .i64 0, .int .i64 0, .int .u64 0, .int .u64 0, .bool false].toArray 69)
  rwa [World.size_alloc] at this
 have R2 : W3.rowIs (w.heap.size + 2) 69 6 (lrow [Value.int .i64 0, .int .i64 0, .int .i64 0, .int .u64 0, .int .u64 0, .bool false]) := by
  rw [← hW3]
  have := rowL_alloc ((w.alloc (.cells l0.toArray 59)).alloc (.cells tk0.toArray 59)) [Value.int .i64 0, .int .i64 0, .int .i64 0, .int .u64 0, .int .u64 0, .bool false] 69 (n := 6) rfl
  rwa [World.size_alloc, World.size_alloc] at this
 have G3 := hide (show w.grownBy W3 (some g) from by rw [← hW3]; exact grown_alloc (grown_alloc (grown_alloc (grown_refl _ _) _) _) _)
 have HR3 := hide (show IsRow W3 g n cap f from hr.grown (grown_none (by rw [← hW3]; exact grown_alloc (grown_alloc (grown_alloc (grown_refl _ _) _) _) _) none) (by simp))
 have c7 : W3.cell? ⟨w.heap.size, 7, none⟩ = some (.int .i64 1) := by rw [R0.cell (i := 7) (by omega), lrow_of g7]
 obtain ⟨dT, hdT1, hdT2⟩ := row79
 have DT1 := hide hdT1
 have DT2 := hide hdT2
 obtain ⟨dS, hdS1, hdS2⟩ := row46
 have HD := hide (And.intro hdS1 hdS2)
 have RR := hide (rowIs.range R0 hll)
 have HR1 := hide R1
 have HR2 := hide R2
 have HC := hide (hc W3 HR3.out)
 have HL := hide hll
 have HL1 := hide hl1
 clear hdT1 hdT2 hdS1 hdS2 hc hr R0 R1 R2 hl hl1 g7
 simp only [tk0] at hW3
 go_enter Tryz.func30, Tryz.ntmps30
 go_wp2_with (refine wpList_load_mid (by rfl) 59 (.tmp 2) (by rfl) w.heap.size 0 (by rfl) l0 dT (by exact RR.out) (by exact DT1.out) (by exact DT2.out) (by rw [HL.out]; exact size79) ?_)
 refine HC.out.mono ?_
 rintro e w1 ⟨rfl, hr1, hg1⟩
 have sz1 := hg1.size
 have T1 := HR1.out.of_block (hg1.block (w.heap.size + 1) (by omega) (by simp; omega))
 have HT1 := hide (rowIs.there T1 (o := 0) (m := 28) (by omega))
 have RS := hide (HR2.out.of_block (hg1.block (w.heap.size + 2) (by omega) (by simp; omega)))
 have HRW := hide hr1
 have HGW := hide (grown_trans G3.out hg1)
 have l2 : w.heap.size + 2 < w1.heap.size := by omega
 clear hr1 hg1 T1 HC c7 hW3 HR1 HR2 RR
 obtain ⟨W5, hW5⟩ : ∃ W5, w1.setCells (w.heap.size + 1) 0 l1 = W5 := ⟨_, rfl⟩
 have tt5 : Touch w1 W5 (fun k => k = w.heap.size + 1) := by rw [← hW5]; exact touch_setCells _ _ _ _
 have r5 := hide (show W5.rangeAt (w.heap.size + 1) 0 l1 from by rw [← hW5]; exact World.rangeAt_setCells_same w1 (w.heap.size + 1) 0 l1 (by rw [HL1.out.1]; exact HT1.out))
 have RS5 := hide (RS.out.of_block (tt5.block _ (by omega) (by omega)))
 have HR5 := hide (HRW.out.block (tt5.block g HRW.out.lt (by omega)))
 have HG5 := hide (show w.grownBy W5 (some g) from by
  have := (Touch.of_grown HGW.out).trans' tt5 (S := fun k => some k = some g) (fun k hk h => absurd hk (by omega))
  exact ⟨this.os, this.tape, this.output, this.size, fun k hk hn => this.block k hk (by simpa using hn)⟩)
 have l5 : w.heap.size + 2 < W5.heap.size := by have := tt5.size; omega
 have z0 : W5.cell? ⟨w.heap.size + 2, 0, none⟩ = some (.int .i64 0) := by rw [RS5.out.cell (i := 0) (by omega)]; rfl
 have zf0 := RS5.out.frozen 0
 have z1 : W5.cell? ⟨w.heap.size + 2, 1, none⟩ = some (.int .i64 0) := by rw [RS5.out.cell (i := 1) (by omega)]; rfl
 have zf1 := RS5.out.frozen 1
 have z2 : W5.cell? ⟨w.heap.size + 2, 2, none⟩ = some (.int .i64 0) := by rw [RS5.out.cell (i := 2) (by omega)]; rfl
 have zf2 := RS5.out.frozen 2
 have z3 : W5.cell? ⟨w.heap.size + 2, 3, none⟩ = some (.int .u64 0) := by rw [RS5.out.cell (i := 3) (by omega)]; rfl
 have zf3 := RS5.out.frozen 3
 have z4 : W5.cell? ⟨w.heap.size + 2, 4, none⟩ = some (.int .u64 0) := by rw [RS5.out.cell (i := 4) (by omega)]; rfl
 have zf4 := RS5.out.frozen 4
 have z5 : W5.cell? ⟨w.heap.size + 2, 5, none⟩ = some (.bool false) := by rw [RS5.out.cell (i := 5) (by omega)]; rfl
 have zf5 := RS5.out.frozen 5
 clear tt5 RS HGW
 simp only [Stp.val]
 go_wp2_with (refine wpList_store_mid (by rfl) 59 (.tmp 4) (.tmp 14) (by rfl) (w.heap.size + 1) 0 l1.toArray (by rfl) (by rfl) (by simpa [HL1.out.1] using HT1.out) (by simpa [HL1.out.1] using size79) (by exact all_oneCell_toArray HL1.out.2) ?_)
 obtain ⟨W6, hW6⟩ : ∃ W6, ((((((W5.setCell ⟨w.heap.size + 2, 0, none⟩ (.int .i64 x.hand)).setCell ⟨w.heap.size + 2, 1, none⟩ (.int .i64 x.act)).setCell ⟨w.heap.size + 2, 2, none⟩ (.int .i64 x.at_)).setCell ⟨w.heap.size + 2, 3, none⟩ (.int .u64 x.had)).setCell ⟨w.heap.size + 2, 4, none⟩ (.int .u64 x.put)).setCell ⟨w.heap.size + 2, 5, none⟩ (.bool x.ok)) = W6 := ⟨_, rfl⟩
 have tt6 : Touch W5 W6 (fun k => k = w.heap.size + 2) := by rw [← hW6]; exact (Touch.setCell (S := fun k => k = w.heap.size + 2) (Touch.setCell (S := fun k => k = w.heap.size + 2) (Touch.setCell (S := fun k => k = w.heap.size + 2) (Touch.setCell (S := fun k => k = w.heap.size + 2) (Touch.setCell (S := fun k => k = w.heap.size + 2) (Touch.setCell (S := fun k => k = w.heap.size + 2) (Touch.refl W5 _) ⟨w.heap.size + 2, 0, none⟩ (.inl rfl) _) ⟨w.heap.size + 2, 1, none⟩ (.inl rfl) _) ⟨w.heap.size + 2, 2, none⟩ (.inl rfl) _) ⟨w.heap.size + 2, 3, none⟩ (.inl rfl) _) ⟨w.heap.size + 2, 4, none⟩ (.inl rfl) _) ⟨w.heap.size + 2, 5, none⟩ (.inl rfl) _)
 have rq : W6.rangeAt (w.heap.size + 2) 0 [Value.int .i64 x.hand, .int .i64 x.act, .int .i64 x.at_, .int .u64 x.had, .int .u64 x.put, .bool x.ok] := by rw [← hW6]; exact rowIs.range (rowIs.setL (rowIs.setL (rowIs.setL (rowIs.setL (rowIs.setL (rowIs.setL RS5.out (i := 0) (by simp) (.int .i64 x.hand)) (i := 1) (by simp) (.int .i64 x.act)) (i := 2) (by simp) (.int .i64 x.at_)) (i := 3) (by simp) (.int .u64 x.had)) (i := 4) (by simp) (.int .u64 x.put)) (i := 5) (by simp) (.bool x.ok)) (by simp)
 have r6 := rangeAt_block r5.out (tt6.block (w.heap.size + 1) (by omega) (by omega))
 have hT := run_loadVar_mid (P := Tryz.prog) W6 (w.heap.size + 1) 0 _ l1 dT r6 DT1.out DT2.out (by rw [HL1.out.1]; exact size79)
 have hS := run_loadVar_mid (P := Tryz.prog) W6 (w.heap.size + 2) 0 _ _ dS rq HD.out.1 HD.out.2 size46
 try simp only [hW5, hW6]
 refine bodyPost_ret (v := .tuple #[.agg l1.toArray, x.val, .bool en]) ?res rfl ⟨rfl, HR5.out.block (tt6.block g HR5.out.lt (by omega)), ?gro⟩
 case res => exact results_cct (Q := Tryz.prog) (fn := Tryz.f30) (t := 4) (t' := 5) (t'' := 6) (W := W6) (by rfl) (by rfl) hT (by rfl) hS
 case gro =>
  have := (Touch.of_grown HG5.out).trans' tt6 (S := fun k => some k = some g) (fun k hk h => absurd hk (by omega))
  exact ⟨this.os, this.tape, this.output, this.size, fun k hk hn => this.block k hk (by simpa using hn)⟩
theorem rstepG {w : World} {g n cap : Nat} {f f' : Nat → Int} {x : Stp} {l0 l1 : List Value} {en : Bool} (hl : IsTk l0) (hl1 : IsTk l1) (g7 : l0[7]? = some (.int .i64 2)) (hr : IsRow w g n cap f)
  (hc : ∀ w1 : World, IsRow w1 g n cap f → Calls Tryz.prog 59 #[.agg l0.toArray, .slice (some ⟨g, 0, none⟩) n cap] w1 fun e w' => e = .returned (.tuple #[.agg l1.toArray, x.val, .bool en]) ∧ IsRow w' g n cap f' ∧ w1.grownBy w' (some g)) :
  Calls Tryz.prog 30 #[.agg l0.toArray, .slice (some ⟨g, 0, none⟩) n cap] w fun e w' => e = .returned (.tuple #[.agg l1.toArray, x.val, .bool en]) ∧ IsRow w' g n cap f' ∧ w.grownBy w' (some g) := by
 have lg := hr.lt
 have hll : l0.length = 28 := hl.1
 obtain ⟨W3, hW3⟩ : ∃ W3, ((w.alloc (.cells l0.toArray 59)).alloc (.cells tk0.toArray 59)).alloc (.cells [Value.int .i64 0, .int .i64 0, .int .i64 0, .int .u64 0, .int .u64 0, .bool false].toArray 69) = W3 := ⟨_, rfl⟩
 have sz3 : W3.heap.size = w.heap.size + 3 := by rw [← hW3]; simp
 have R0 : W3.rowIs w.heap.size 59 28 (lrow l0) := by rw [← hW3]; exact ((rowL_alloc w l0 _ hll).alloc _).alloc _
 have R1 : W3.rowIs (w.heap.size + 1) 59 28 (lrow tk0) := by
  rw [← hW3]
  have := (rowL_alloc (w.alloc (.cells l0.toArray 59)) tk0 59 (n := 28) rfl).alloc (.cells [Value.int .i64 0, .int .i64 0, .int .i64 0, .int .u64 0, .int .u64 0, .bool false].toArray 69)
  rwa [World.size_alloc] at this
 have R2 : W3.rowIs (w.heap.size + 2) 69 6 (lrow [Value.int .i64 0, .int .i64 0, .int .i64 0, .int .u64 0, .int .u64 0, .bool false]) := by
  rw [← hW3]
  have := rowL_alloc ((w.alloc (.cells l0.toArray 59)).alloc (.cells tk0.toArray 59)) [Value.int .i64 0, .int .i64 0, .int .i64 0, .int .u64 0, .int .u64 0, .bool false] 69 (n := 6) rfl
  rwa [World.size_alloc, World.size_alloc] at this
 have G3 := hide (show w.grownBy W3 (some g) from by rw [← hW3]; exact grown_alloc (grown_alloc (grown_alloc (grown_refl _ _) _) _) _)
 have HR3 := hide (show IsRow W3 g n cap f from hr.grown (grown_none (by rw [← hW3]; exact grown_alloc (grown_alloc (grown_alloc (grown_refl _ _) _) _) _) none) (by simp))
 have c7 : W3.cell? ⟨w.heap.size, 7, none⟩ = some (.int .i64 2) := by rw [R0.cell (i := 7) (by omega), lrow_of g7]
 obtain ⟨dT, hdT1, hdT2⟩ := row79
 have DT1 := hide hdT1
 have DT2 := hide hdT2
 obtain ⟨dS, hdS1, hdS2⟩ := row46
 have HD := hide (And.intro hdS1 hdS2)
 have RR := hide (rowIs.range R0 hll)
 have HR1 := hide R1
 have HR2 := hide R2
 have HC := hide (hc W3 HR3.out)
 have HL := hide hll
 have HL1 := hide hl1
 clear hdT1 hdT2 hdS1 hdS2 hc hr R0 R1 R2 hl hl1 g7
 simp only [tk0] at hW3
 go_enter Tryz.func30, Tryz.ntmps30
 go_wp2_with (refine wpList_load_mid (by rfl) 59 (.tmp 2) (by rfl) w.heap.size 0 (by rfl) l0 dT (by exact RR.out) (by exact DT1.out) (by exact DT2.out) (by rw [HL.out]; exact size79) ?_)
 refine HC.out.mono ?_
 rintro e w1 ⟨rfl, hr1, hg1⟩
 have sz1 := hg1.size
 have T1 := HR1.out.of_block (hg1.block (w.heap.size + 1) (by omega) (by simp; omega))
 have HT1 := hide (rowIs.there T1 (o := 0) (m := 28) (by omega))
 have RS := hide (HR2.out.of_block (hg1.block (w.heap.size + 2) (by omega) (by simp; omega)))
 have HRW := hide hr1
 have HGW := hide (grown_trans G3.out hg1)
 have l2 : w.heap.size + 2 < w1.heap.size := by omega
 clear hr1 hg1 T1 HC c7 hW3 HR1 HR2 RR
 obtain ⟨W5, hW5⟩ : ∃ W5, w1.setCells (w.heap.size + 1) 0 l1 = W5 := ⟨_, rfl⟩
 have tt5 : Touch w1 W5 (fun k => k = w.heap.size + 1) := by rw [← hW5]; exact touch_setCells _ _ _ _
 have r5 := hide (show W5.rangeAt (w.heap.size + 1) 0 l1 from by rw [← hW5]; exact World.rangeAt_setCells_same w1 (w.heap.size + 1) 0 l1 (by rw [HL1.out.1]; exact HT1.out))
 have RS5 := hide (RS.out.of_block (tt5.block _ (by omega) (by omega)))
 have HR5 := hide (HRW.out.block (tt5.block g HRW.out.lt (by omega)))
 have HG5 := hide (show w.grownBy W5 (some g) from by
  have := (Touch.of_grown HGW.out).trans' tt5 (S := fun k => some k = some g) (fun k hk h => absurd hk (by omega))
  exact ⟨this.os, this.tape, this.output, this.size, fun k hk hn => this.block k hk (by simpa using hn)⟩)
 have l5 : w.heap.size + 2 < W5.heap.size := by have := tt5.size; omega
 have z0 : W5.cell? ⟨w.heap.size + 2, 0, none⟩ = some (.int .i64 0) := by rw [RS5.out.cell (i := 0) (by omega)]; rfl
 have zf0 := RS5.out.frozen 0
 have z1 : W5.cell? ⟨w.heap.size + 2, 1, none⟩ = some (.int .i64 0) := by rw [RS5.out.cell (i := 1) (by omega)]; rfl
 have zf1 := RS5.out.frozen 1
 have z2 : W5.cell? ⟨w.heap.size + 2, 2, none⟩ = some (.int .i64 0) := by rw [RS5.out.cell (i := 2) (by omega)]; rfl
 have zf2 := RS5.out.frozen 2
 have z3 : W5.cell? ⟨w.heap.size + 2, 3, none⟩ = some (.int .u64 0) := by rw [RS5.out.cell (i := 3) (by omega)]; rfl
 have zf3 := RS5.out.frozen 3
 have z4 : W5.cell? ⟨w.heap.size + 2, 4, none⟩ = some (.int .u64 0) := by rw [RS5.out.cell (i := 4) (by omega)]; rfl
 have zf4 := RS5.out.frozen 4
 have z5 : W5.cell? ⟨w.heap.size + 2, 5, none⟩ = some (.bool false) := by rw [RS5.out.cell (i := 5) (by omega)]; rfl
 have zf5 := RS5.out.frozen 5
 clear tt5 RS HGW
 simp only [Stp.val]
 go_wp2_with (refine wpList_store_mid (by rfl) 59 (.tmp 4) (.tmp 20) (by rfl) (w.heap.size + 1) 0 l1.toArray (by rfl) (by rfl) (by simpa [HL1.out.1] using HT1.out) (by simpa [HL1.out.1] using size79) (by exact all_oneCell_toArray HL1.out.2) ?_)
 obtain ⟨W6, hW6⟩ : ∃ W6, ((((((W5.setCell ⟨w.heap.size + 2, 0, none⟩ (.int .i64 x.hand)).setCell ⟨w.heap.size + 2, 1, none⟩ (.int .i64 x.act)).setCell ⟨w.heap.size + 2, 2, none⟩ (.int .i64 x.at_)).setCell ⟨w.heap.size + 2, 3, none⟩ (.int .u64 x.had)).setCell ⟨w.heap.size + 2, 4, none⟩ (.int .u64 x.put)).setCell ⟨w.heap.size + 2, 5, none⟩ (.bool x.ok)) = W6 := ⟨_, rfl⟩
 have tt6 : Touch W5 W6 (fun k => k = w.heap.size + 2) := by rw [← hW6]; exact (Touch.setCell (S := fun k => k = w.heap.size + 2) (Touch.setCell (S := fun k => k = w.heap.size + 2) (Touch.setCell (S := fun k => k = w.heap.size + 2) (Touch.setCell (S := fun k => k = w.heap.size + 2) (Touch.setCell (S := fun k => k = w.heap.size + 2) (Touch.setCell (S := fun k => k = w.heap.size + 2) (Touch.refl W5 _) ⟨w.heap.size + 2, 0, none⟩ (.inl rfl) _) ⟨w.heap.size + 2, 1, none⟩ (.inl rfl) _) ⟨w.heap.size + 2, 2, none⟩ (.inl rfl) _) ⟨w.heap.size + 2, 3, none⟩ (.inl rfl) _) ⟨w.heap.size + 2, 4, none⟩ (.inl rfl) _) ⟨w.heap.size + 2, 5, none⟩ (.inl rfl) _)
 have rq : W6.rangeAt (w.heap.size + 2) 0 [Value.int .i64 x.hand, .int .i64 x.act, .int .i64 x.at_, .int .u64 x.had, .int .u64 x.put, .bool x.ok] := by rw [← hW6]; exact rowIs.range (rowIs.setL (rowIs.setL (rowIs.setL (rowIs.setL (rowIs.setL (rowIs.setL RS5.out (i := 0) (by simp) (.int .i64 x.hand)) (i := 1) (by simp) (.int .i64 x.act)) (i := 2) (by simp) (.int .i64 x.at_)) (i := 3) (by simp) (.int .u64 x.had)) (i := 4) (by simp) (.int .u64 x.put)) (i := 5) (by simp) (.bool x.ok)) (by simp)
 have r6 := rangeAt_block r5.out (tt6.block (w.heap.size + 1) (by omega) (by omega))
 have hT := run_loadVar_mid (P := Tryz.prog) W6 (w.heap.size + 1) 0 _ l1 dT r6 DT1.out DT2.out (by rw [HL1.out.1]; exact size79)
 have hS := run_loadVar_mid (P := Tryz.prog) W6 (w.heap.size + 2) 0 _ _ dS rq HD.out.1 HD.out.2 size46
 try simp only [hW5, hW6]
 refine bodyPost_ret (v := .tuple #[.agg l1.toArray, x.val, .bool en]) ?res rfl ⟨rfl, HR5.out.block (tt6.block g HR5.out.lt (by omega)), ?gro⟩
 case res => exact results_cct (Q := Tryz.prog) (fn := Tryz.f30) (t := 4) (t' := 5) (t'' := 6) (W := W6) (by rfl) (by rfl) hT (by rfl) hS
 case gro =>
  have := (Touch.of_grown HG5.out).trans' tt6 (S := fun k => some k = some g) (fun k hk h => absurd hk (by omega))
  exact ⟨this.os, this.tape, this.output, this.size, fun k hk hn => this.block k hk (by simpa using hn)⟩
end Rom
end
section
namespace RSq
open RetN (pv D)
structure In (ks : List (Nat × Nat)) (vals : Nat → Value) (WI : World → Prop) (a0 : Act) (n : Nat) (a : Act) (w : World) : Prop where
 sz : a.tmps.size = a0.tmps.size
 df : a.defers = a0.defers
 fix : ∀ k, ¬ D ks k → a.eval (.tmp k) = a0.eval (.tmp k)
 pure : ∀ i d v, pv ks vals i = some (d, v) → i < n → a.eval (.tmp d) = v
 world : WI w
structure Does (P : Program) (Q : Exit → Act → World → Prop) (ops : Array Oper) (ks : List (Nat × Nat)) (vals : Nat → Value) (WI : World → Prop) (a0 : Act) (i : Nat) (o : Oper) : Prop where
 dst : o.dst = Reg.look ks i
 want : ∀ a w, In ks vals WI a0 i a w → Region.wanted o (yielded ops a.tmps) = true
 wp : ∀ a w (K : Act → World → Prop), In ks vals WI a0 i a w → (∀ w' v, (∀ d, o.dst = some d → v = vals i) → WI w' → K (a.put o.dst v) w') → o.wp P a w K Q
section
variable {P : Program} {Q : Exit → Act → World → Prop} {ops : Array Oper} {ks : List (Nat × Nat)} {vals : Nat → Value} {WI : World → Prop} {a0 : Act} {i : Nat} {o : Oper}
theorem free (h : o.guard = none) : ∀ a w, In ks vals WI a0 i a w → Region.wanted o (yielded ops a.tmps) = true := fun a w _ => by simp [Region.wanted, h]
theorem held {j d : Nat} {b : Bool} (h : o.guard = some (j, b)) (hd : (ops[j]?).bind (·.dst) = some d) (hj : j < i) (hp : pv ks vals j = some (d, .bool b)) (hds : d < a0.tmps.size) : ∀ a w, In ks vals WI a0 i a w → Region.wanted o (yielded ops a.tmps) = true := fun a w hI => by
 have e := hI.pure j d _ hp hj
 have hs : d < a.tmps.size := by rw [hI.sz]; exact hds
 have e2 : a.tmps[d]? = some (.bool b) := by
  have : a.tmps.getD d undef = .bool b := e
  simpa [Array.getD, hs] using this
 simp [Region.wanted, h, yielded, hd, e2]
theorem Does.read (hd : o.dst = Reg.look ks i) (hw : ∀ a w, In ks vals WI a0 i a w → Region.wanted o (yielded ops a.tmps) = true) (h : ∀ a w, In ks vals WI a0 i a w → (execOp a.eval o).run P w = .ok (.value (vals i)) w) : Does P Q ops ks vals WI a0 i o :=
 ⟨hd, hw, fun a w K hI hk => wp_value (h a w hI) (hk w _ (fun _ _ => rfl) hI.world)⟩
theorem Does.call {f : FuncId} {args : Array Value} (hd : o.dst = Reg.look ks i) (hw : ∀ a w, In ks vals WI a0 i a w → Region.wanted o (yielded ops a.tmps) = true) (h : ∀ a w, In ks vals WI a0 i a w → (execOp a.eval o).run P w = .ok (.enter f args) w)
  (hc : ∀ w, WI w → Calls P f args w fun e w' => e = .returned (vals i) ∧ WI w') : Does P Q ops ks vals WI a0 i o :=
 ⟨hd, hw, fun a w K hI hk => wp_call (h a w hI) ((hc w hI.world).mono (by rintro e w' ⟨rfl, h2⟩; exact ⟨_, rfl, hk _ _ (fun _ _ => rfl) h2⟩))⟩
end
end RSq
section
variable {ev : Operand → Value} {o : Oper} {w : World}
end
end
section
namespace RSk
open RetN (pv D)
def Skip (ops : Array Oper) (ks : List (Nat × Nat)) (vals : Nat → Value) (WI : World → Prop) (a0 : Act) (i : Nat) (o : Oper) : Prop :=
 o.dst = Reg.look ks i ∧ vals i = undef ∧ ∀ a w, RSq.In ks vals WI a0 i a w → Region.wanted o (yielded ops a.tmps) = false
section
variable {P : Program} {Q : Exit → Act → World → Prop} {ops : Array Oper} {ks : List (Nat × Nat)} {vals : Nat → Value} {WI : World → Prop} {a0 : Act} {i : Nat} {o : Oper}
theorem gone {j d : Nat} {b : Bool} (h : o.guard = some (j, b)) (hl : o.dst = Reg.look ks i) (hu : vals i = undef) (hd : (ops[j]?).bind (·.dst) = some d) (hj : j < i) (hp : pv ks vals j = some (d, undef)) (hds : d < a0.tmps.size) : Skip ops ks vals WI a0 i o := ⟨hl, hu, fun a w hI => by
 have e := hI.pure j d _ hp hj
 have hs : d < a.tmps.size := by rw [hI.sz]; exact hds
 have e2 : a.tmps[d]? = some undef := by
  have : a.tmps.getD d undef = undef := e
  simpa [Array.getD, hs] using this
 simp [Region.wanted, h, yielded, hd, e2, undef]⟩
end
end RSk
section
variable {ev : Operand → Value} {o : Oper} {w : World}
end
end
end Go.Proofs.YtppgbndoijppnaaGreat
