/-
  Lemmas: RoomE, ListM, AlongL, RoomF, AlongM, RoomJ.
-/
import Derived.Test.YtppgbndoijppnaaGreatTp38
import Derived.Test.YtppgbndoijppnaaGreatTp26
import Derived.Test.YtppgbndoijppnaaGreatTp29
import Derived.Laws.Build
import Derived.Test.YtppgbndoijppnaaGreatTp44
import Derived.Test.YtppgbndoijppnaaGreatTp15
namespace Go.Proofs.YtppgbndoijppnaaGreat
set_option maxHeartbeats 8000000
open Go.RowKit
set_option linter.unusedVariables false
set_option linter.unusedSimpArgs false
set_option maxRecDepth 20000
section
namespace Rom
open Hp
theorem wol_yes {w : World} {b : Nat} {sh : Shp} {hand : Int} {fn v2 v3 : Value} {t : Ans} {ix sl gn : Int} (h_ : w.rowIs b 103 15 (gC sh hand fn v2 v3 t ix sl gn)) (h5 : Shape.R5 sh.a sh.b sh.c sh.d sh.e) (ht : slotIn sh ix sl) :
  Calls Tryz.prog 37 #[.pointer (some ⟨b, 0, none⟩)] w fun e w' => e = .returned (.func (.func 69) #[.pointer (some ⟨b, 0, none⟩)] #[]) ∧ Below w.heap.size w w' := by
 have SL := hide (fun w1 : World => slotAt_any h5 ix sl w1)
 have hbd : (slotAt sh ix sl == -1) = false := by
  have := head_bd h5 ht.1; have := slot_bd h5 ht; have := ht.2.1; simp; omega
 obtain ⟨p, hp⟩ : ∃ p, slotAt sh ix sl = p := ⟨_, rfl⟩
 rw [hp] at SL hbd
 have HB := hide hbd
 have hl := h_.lt
 obtain ⟨dG, hdG1, hdG2⟩ := rowSh
 have HDS := hide (And.intro hdG1 hdG2)
 have HR := hide h_
 clear h_ h5 ht hp hbd hdG1 hdG2
 go_enter Tryz.func37, Tryz.ntmps37
 go_wp2_with fail
 refine RG.regionB 14 (ks := [(0, 3), (1, 4), (2, 5), (3, 6), (4, 7), (5, 8), (6, 9), (7, 10), (8, 11), (9, 12), (10, 13), (11, 14), (12, 15), (13, 16)]) (vals := fun i => match i with
   | 0 => .pointer (some ⟨b, 0, none⟩)
   | 1 => .pointer (some ⟨b, 0, none⟩)
   | 2 => .pointer (some ⟨b, 6, none⟩)
   | 3 => sh.val
   | 4 => .pointer (some ⟨b, 0, none⟩)
   | 5 => .pointer (some ⟨b, 0, none⟩)
   | 6 => .pointer (some ⟨b, 12, none⟩)
   | 7 => .int .i64 ix
   | 8 => .pointer (some ⟨b, 0, none⟩)
   | 9 => .pointer (some ⟨b, 0, none⟩)
   | 10 => .pointer (some ⟨b, 13, none⟩)
   | 11 => .int .i64 sl
   | 12 => .int .i64 p
   | 13 => .bool false
   | _ => undef) (x := 1) (WI := fun L v_ w' => SQ b 103 15 (gC sh hand fn v2 v3 t ix sl gn) w w') (by kernel_rfl) (by kernel_rfl) rfl (by kernel_rfl) (by kernel_rfl) (SQ.start HR.out) ?does ?fin
 case does =>
  intro i o ho
  have hi : i < 14 := RG.lt_of ho rfl
  match i, hi with
  | 0, _ => cases ho; exact RG.Does.read rfl (fun L v_ w' h => h) (fun L a w' hI hd => ex_move rfl (hI.fx 0 rfl))
  | 1, _ => cases ho; exact RG.Does.read rfl (fun L v_ w' h => h) (fun L a w' hI hd => ex_nil rfl (hI.pure 0 _ _ rfl (hd ⟨0, .data⟩ (by simp) rfl)))
  | 2, _ => cases ho; exact RG.Does.read rfl (fun L v_ w' h => h) (fun L a w' hI hd => ex_field rfl (hI.pure 1 _ _ rfl (hd ⟨1, .data⟩ (by simp) rfl)) (fieldG1 w' _))
  | 3, _ => cases ho; exact RG.Does.read rfl (fun L v_ w' h => h) (fun L a w' hI hd => ex_load_row rfl (hI.pure 2 _ _ rfl (hd ⟨2, .data⟩ (by simp) rfl)) (shrowAt (o := 6) (sh := sh) (by omega) rfl rfl rfl rfl rfl rfl hI.world.row) HDS.out.1 HDS.out.2 sizeSh)
  | 4, _ => cases ho; exact RG.Does.read rfl (fun L v_ w' h => h) (fun L a w' hI hd => ex_move rfl (hI.fx 0 rfl))
  | 5, _ => cases ho; exact RG.Does.read rfl (fun L v_ w' h => h) (fun L a w' hI hd => ex_nil rfl (hI.pure 4 _ _ rfl (hd ⟨4, .data⟩ (by simp) rfl)))
  | 6, _ => cases ho; exact RG.Does.read rfl (fun L v_ w' h => h) (fun L a w' hI hd => ex_field rfl (hI.pure 5 _ _ rfl (hd ⟨5, .data⟩ (by simp) rfl)) (fieldG2 w' _))
  | 7, _ => cases ho; exact RG.Does.read rfl (fun L v_ w' h => h) (fun L a w' hI hd => ex_load rfl (hI.pure 6 _ _ rfl (hd ⟨6, .data⟩ (by simp) rfl)) (aggI w') (hI.world.row.cell (i := 12) (by omega)))
  | 8, _ => cases ho; exact RG.Does.read rfl (fun L v_ w' h => h) (fun L a w' hI hd => ex_move rfl (hI.fx 0 rfl))
  | 9, _ => cases ho; exact RG.Does.read rfl (fun L v_ w' h => h) (fun L a w' hI hd => ex_nil rfl (hI.pure 8 _ _ rfl (hd ⟨8, .data⟩ (by simp) rfl)))
  | 10, _ => cases ho; exact RG.Does.read rfl (fun L v_ w' h => h) (fun L a w' hI hd => ex_field rfl (hI.pure 9 _ _ rfl (hd ⟨9, .data⟩ (by simp) rfl)) (fieldG3 w' _))
  | 11, _ => cases ho; exact RG.Does.read rfl (fun L v_ w' h => h) (fun L a w' hI hd => ex_load rfl (hI.pure 10 _ _ rfl (hd ⟨10, .data⟩ (by simp) rfl)) (aggI w') (hI.world.row.cell (i := 13) (by omega)))
  | 12, _ => cases ho; exact RG.Does.call rfl (fun L a w' hI hd => call3 rfl (hI.pure 3 _ _ rfl (hd ⟨3, .data⟩ (by simp) rfl)) (hI.pure 7 _ _ rfl (hd ⟨7, .data⟩ (by simp) rfl)) (hI.pure 11 _ _ rfl (hd ⟨11, .data⟩ (by simp) rfl)) rfl (by simp [go_sem])) (fun L v_ w2 hI hL => ((SL.out) w2).mono (by rintro e w3 ⟨rfl, hb⟩; exact ⟨rfl,  (SQq hI hb)⟩))
  | 13, _ => cases ho; exact RG.Does.read rfl (fun L v_ w' h => h) (fun L a w' hI hd => ex_eqm rfl (hI.pure 12 _ _ rfl (hd ⟨12, .data⟩ (by simp) rfl)) rfl HB.out)
 case fin =>
  intro L a' w4 hI hall
  have hw := hI.world
  have ea := act_all a' 21 (by rw [hI.sz]; rfl) hI.df
  simp only [List.range, List.range.loop, List.map] at ea
  rw [hI.fx 0 rfl, hI.fx 2 rfl, hI.fx 17 rfl, hI.fx 18 rfl, hI.fx 19 rfl, hI.fx 20 rfl] at ea
  have kv16 := hI.pure 13 16 _ rfl (hall 13 (by decide))
  clear hI hall
  obtain ⟨us, hus⟩ : ∃ us : Nat → Value, ∀ k, a'.eval (.tmp k) = us k := ⟨_, fun _ => rfl⟩
  simp only [hus] at ea kv16
  rw [kv16] at ea
  simp only [show ∀ (ts : Array Value) (ds) (i : Nat), (Act.mk ts ds).eval (.tmp i) = ts.getD i undef from fun _ _ _ => rfl] at ea
  simp at ea
  subst ea
  have BW := hide hw.bel
  clear hw
  go_wp2_with fail
  go_ret
  exact ⟨rfl, BW.out⟩
theorem wol_no {w : World} {b : Nat} {sh : Shp} {hand : Int} {fn v2 v3 : Value} {t : Ans} {ix sl gn : Int} (h_ : w.rowIs b 103 15 (gC sh hand fn v2 v3 t ix sl gn)) (h5 : Shape.R5 sh.a sh.b sh.c sh.d sh.e) (ht : ¬ slotIn sh ix sl) :
  Calls Tryz.prog 37 #[.pointer (some ⟨b, 0, none⟩)] w fun e w' => e = .returned (.func (.func 68) #[.pointer (some ⟨b, 0, none⟩)] #[]) ∧ Below w.heap.size w w' := by
 have SL := hide (fun w1 : World => slotAt_any h5 ix sl w1)
 have hbd : (slotAt sh ix sl == -1) = true := by
  simp [slotAt, ht]
 obtain ⟨p, hp⟩ : ∃ p, slotAt sh ix sl = p := ⟨_, rfl⟩
 rw [hp] at SL hbd
 have HB := hide hbd
 have hl := h_.lt
 obtain ⟨dG, hdG1, hdG2⟩ := rowSh
 have HDS := hide (And.intro hdG1 hdG2)
 have HR := hide h_
 clear h_ h5 ht hp hbd hdG1 hdG2
 go_enter Tryz.func37, Tryz.ntmps37
 go_wp2_with fail
 refine RG.regionB 14 (ks := [(0, 3), (1, 4), (2, 5), (3, 6), (4, 7), (5, 8), (6, 9), (7, 10), (8, 11), (9, 12), (10, 13), (11, 14), (12, 15), (13, 16)]) (vals := fun i => match i with
   | 0 => .pointer (some ⟨b, 0, none⟩)
   | 1 => .pointer (some ⟨b, 0, none⟩)
   | 2 => .pointer (some ⟨b, 6, none⟩)
   | 3 => sh.val
   | 4 => .pointer (some ⟨b, 0, none⟩)
   | 5 => .pointer (some ⟨b, 0, none⟩)
   | 6 => .pointer (some ⟨b, 12, none⟩)
   | 7 => .int .i64 ix
   | 8 => .pointer (some ⟨b, 0, none⟩)
   | 9 => .pointer (some ⟨b, 0, none⟩)
   | 10 => .pointer (some ⟨b, 13, none⟩)
   | 11 => .int .i64 sl
   | 12 => .int .i64 p
   | 13 => .bool true
   | _ => undef) (x := 1) (WI := fun L v_ w' => SQ b 103 15 (gC sh hand fn v2 v3 t ix sl gn) w w') (by kernel_rfl) (by kernel_rfl) rfl (by kernel_rfl) (by kernel_rfl) (SQ.start HR.out) ?does ?fin
 case does =>
  intro i o ho
  have hi : i < 14 := RG.lt_of ho rfl
  match i, hi with
  | 0, _ => cases ho; exact RG.Does.read rfl (fun L v_ w' h => h) (fun L a w' hI hd => ex_move rfl (hI.fx 0 rfl))
  | 1, _ => cases ho; exact RG.Does.read rfl (fun L v_ w' h => h) (fun L a w' hI hd => ex_nil rfl (hI.pure 0 _ _ rfl (hd ⟨0, .data⟩ (by simp) rfl)))
  | 2, _ => cases ho; exact RG.Does.read rfl (fun L v_ w' h => h) (fun L a w' hI hd => ex_field rfl (hI.pure 1 _ _ rfl (hd ⟨1, .data⟩ (by simp) rfl)) (fieldG1 w' _))
  | 3, _ => cases ho; exact RG.Does.read rfl (fun L v_ w' h => h) (fun L a w' hI hd => ex_load_row rfl (hI.pure 2 _ _ rfl (hd ⟨2, .data⟩ (by simp) rfl)) (shrowAt (o := 6) (sh := sh) (by omega) rfl rfl rfl rfl rfl rfl hI.world.row) HDS.out.1 HDS.out.2 sizeSh)
  | 4, _ => cases ho; exact RG.Does.read rfl (fun L v_ w' h => h) (fun L a w' hI hd => ex_move rfl (hI.fx 0 rfl))
  | 5, _ => cases ho; exact RG.Does.read rfl (fun L v_ w' h => h) (fun L a w' hI hd => ex_nil rfl (hI.pure 4 _ _ rfl (hd ⟨4, .data⟩ (by simp) rfl)))
  | 6, _ => cases ho; exact RG.Does.read rfl (fun L v_ w' h => h) (fun L a w' hI hd => ex_field rfl (hI.pure 5 _ _ rfl (hd ⟨5, .data⟩ (by simp) rfl)) (fieldG2 w' _))
  | 7, _ => cases ho; exact RG.Does.read rfl (fun L v_ w' h => h) (fun L a w' hI hd => ex_load rfl (hI.pure 6 _ _ rfl (hd ⟨6, .data⟩ (by simp) rfl)) (aggI w') (hI.world.row.cell (i := 12) (by omega)))
  | 8, _ => cases ho; exact RG.Does.read rfl (fun L v_ w' h => h) (fun L a w' hI hd => ex_move rfl (hI.fx 0 rfl))
  | 9, _ => cases ho; exact RG.Does.read rfl (fun L v_ w' h => h) (fun L a w' hI hd => ex_nil rfl (hI.pure 8 _ _ rfl (hd ⟨8, .data⟩ (by simp) rfl)))
  | 10, _ => cases ho; exact RG.Does.read rfl (fun L v_ w' h => h) (fun L a w' hI hd => ex_field rfl (hI.pure 9 _ _ rfl (hd ⟨9, .data⟩ (by simp) rfl)) (fieldG3 w' _))
  | 11, _ => cases ho; exact RG.Does.read rfl (fun L v_ w' h => h) (fun L a w' hI hd => ex_load rfl (hI.pure 10 _ _ rfl (hd ⟨10, .data⟩ (by simp) rfl)) (aggI w') (hI.world.row.cell (i := 13) (by omega)))
  | 12, _ => cases ho; exact RG.Does.call rfl (fun L a w' hI hd => call3 rfl (hI.pure 3 _ _ rfl (hd ⟨3, .data⟩ (by simp) rfl)) (hI.pure 7 _ _ rfl (hd ⟨7, .data⟩ (by simp) rfl)) (hI.pure 11 _ _ rfl (hd ⟨11, .data⟩ (by simp) rfl)) rfl (by simp [go_sem])) (fun L v_ w2 hI hL => ((SL.out) w2).mono (by rintro e w3 ⟨rfl, hb⟩; exact ⟨rfl,  (SQq hI hb)⟩))
  | 13, _ => cases ho; exact RG.Does.read rfl (fun L v_ w' h => h) (fun L a w' hI hd => ex_eqm rfl (hI.pure 12 _ _ rfl (hd ⟨12, .data⟩ (by simp) rfl)) rfl HB.out)
 case fin =>
  intro L a' w4 hI hall
  have hw := hI.world
  have ea := act_all a' 21 (by rw [hI.sz]; rfl) hI.df
  simp only [List.range, List.range.loop, List.map] at ea
  rw [hI.fx 0 rfl, hI.fx 2 rfl, hI.fx 17 rfl, hI.fx 18 rfl, hI.fx 19 rfl, hI.fx 20 rfl] at ea
  have kv16 := hI.pure 13 16 _ rfl (hall 13 (by decide))
  clear hI hall
  obtain ⟨us, hus⟩ : ∃ us : Nat → Value, ∀ k, a'.eval (.tmp k) = us k := ⟨_, fun _ => rfl⟩
  simp only [hus] at ea kv16
  rw [kv16] at ea
  simp only [show ∀ (ts : Array Value) (ds) (i : Nat), (Act.mk ts ds).eval (.tmp i) = ts.getD i undef from fun _ _ _ => rfl] at ea
  simp at ea
  subst ea
  have BW := hide hw.bel
  clear hw
  go_wp2_with fail
  go_ret
  exact ⟨rfl, BW.out⟩
theorem wipe_more {w : World} {b bm bw n : Nat} {f f' : Nat → Int} {x : Stp} {sh : Shp} {hand : Int} {fn v2 v3 : Value} {t : Ans} {ix sl gn : Int} (h_ : w.rowIs b 103 15 (gC sh hand fn v2 v3 t ix sl gn)) (hm : IsMem w bm bw n f) (h1 : b ≠ bm) (h2 : b ≠ bw) (h5 : Shape.R5 sh.a sh.b sh.c sh.d sh.e) (hs : 0 ≤ sl ∧ sl ≤ 4) (ht : slotIn sh ix (sl + 1))
  (hx : stepOf n f ⟨hand, 2, slotAt sh ix sl, 0, 0, true⟩ = x) (hf' : wordsOf n f ⟨hand, 2, slotAt sh ix sl, 0, 0, true⟩ = f') :
  Calls Tryz.prog 69 #[.pointer (some ⟨b, 0, none⟩), .pointer (some ⟨bm, 0, none⟩)] w fun e w' => e = .returned (.tuple #[x.val, .int .i64 0]) ∧
   w'.rowIs b 103 15 (gC sh hand (.func (.func 69) #[.pointer (some ⟨b, 0, none⟩)] #[]) v2 v3 t ix (sl + 1) gn) ∧ IsMem w' bm bw n f' ∧ Touch w w' (fun k => k = b ∨ k = bw) := by
 have hl := h_.lt
 have lw := hm.row.lt
 have lm := hm.head.lt
 have hn3 : w.heap.size ≠ b := by omega
 have hn4 : w.heap.size ≠ bw := by omega
 have hn5 : w.heap.size ≠ bm := by omega
 obtain ⟨W1, hW1⟩ : ∃ W1, w.alloc (.cells #[.int .i64 0, .int .i64 0, .int .i64 0, .int .u64 0, .int .u64 0, .bool false] 69) = W1 := ⟨_, rfl⟩
 have R := hide (show W1.rowIs b 103 15 (gC sh hand fn v2 v3 t ix sl gn) from by rw [← hW1]; exact h_.alloc _)
 have M := hide (show IsMem W1 bm bw n f from by rw [← hW1]; exact hm.alloc _)
 have RZ := hide (show W1.rowIs w.heap.size 69 6 zcell from by rw [← hW1]; exact row0 w)
 have T0 := hide (show Touch w W1 (fun k => k = b ∨ k = bw) from by rw [← hW1]; exact (Touch.refl w _).alloc _)
 have sz : W1.heap.size = w.heap.size + 1 := by rw [← hW1]; simp
 have lW1 : b < W1.heap.size := by omega
 obtain ⟨dS, hdS1, hdS2⟩ := row46
 have HD := hide (And.intro hdS1 hdS2)
 obtain ⟨dG, hdG1, hdG2⟩ := rowSh
 have HDS := hide (And.intro hdG1 hdG2)
 have HX := hide hx
 have HF := hide hf'
 have HW : Hid (0 ≤ (⟨hand, 2, slotAt sh ix sl, 0, 0, true⟩ : Stp).put ∧ (⟨hand, 2, slotAt sh ix sl, 0, 0, true⟩ : Stp).put ≤ 18446744073709551615) := ⟨by show (0 : Int) ≤ 0; omega, by show (0 : Int) ≤ 18446744073709551615; omega⟩
 have HT := hide ht
 have g1 : wrap64 (sl + 1) = sl + 1 := by unfold wrap64; omega
 have H5 := hide h5
 clear hm h_ hx hf' hdS1 hdS2 hdG1 hdG2 h5 ht hs
 go_enter Tryz.func69, Tryz.ntmps69
 go_wp2_with fail
 clear hW1
 refine RG.regionB 20 (ks := [(0, 7), (1, 8), (2, 9), (3, 10), (4, 11), (5, 12), (6, 13), (7, 14), (8, 15), (9, 16), (10, 17), (11, 18), (12, 19), (13, 20), (14, 21), (15, 22), (16, 23), (17, 24)]) (vals := fun i => match i with
   | 0 => .pointer (some ⟨b, 0, none⟩)
   | 1 => .pointer (some ⟨b, 0, none⟩)
   | 2 => .pointer (some ⟨b, 0, none⟩)
   | 3 => .pointer (some ⟨bm, 0, none⟩)
   | 4 => .pointer (some ⟨b, 0, none⟩)
   | 5 => .pointer (some ⟨b, 0, none⟩)
   | 6 => .pointer (some ⟨b, 6, none⟩)
   | 7 => sh.val
   | 8 => .pointer (some ⟨b, 0, none⟩)
   | 9 => .pointer (some ⟨b, 0, none⟩)
   | 10 => .pointer (some ⟨b, 12, none⟩)
   | 11 => .int .i64 ix
   | 12 => .pointer (some ⟨b, 0, none⟩)
   | 13 => .pointer (some ⟨b, 0, none⟩)
   | 14 => .pointer (some ⟨b, 13, none⟩)
   | 15 => .int .i64 sl
   | 16 => .int .i64 (slotAt sh ix sl)
   | 17 => x.val
   | _ => undef) (x := 6) (WI := fun L v_ w' => RG.SW b 103 15 (gC sh hand fn v2 v3 t ix sl gn) bm bw n f f' x w.heap.size W1 (L 17) (L 18) (L 19) v_ w') (by kernel_rfl) (by kernel_rfl) rfl (by kernel_rfl) (by kernel_rfl) (RG.SW.start R.out M.out RZ.out) ?does ?fin
 case does =>
  intro i o ho
  have hi : i < 20 := RG.lt_of ho rfl
  match i, hi with
  | 0, _ => cases ho; exact RG.rW rfl rfl (fun L a w' hI hd => ex_move rfl (hI.fx 0 rfl))
  | 1, _ => cases ho; exact RG.rW rfl rfl (fun L a w' hI hd => ex_nil rfl (hI.pure 0 _ _ rfl (hd ⟨0, .data⟩ (by simp) rfl)))
  | 2, _ => cases ho; exact RG.rW rfl rfl (fun L a w' hI hd => ex_field rfl (hI.pure 1 _ _ rfl (hd ⟨1, .data⟩ (by simp) rfl)) (fieldG0 w' _))
  | 3, _ => cases ho; exact RG.rW rfl rfl (fun L a w' hI hd => ex_move rfl (hI.fx 1 rfl))
  | 4, _ => cases ho; exact RG.rW rfl rfl (fun L a w' hI hd => ex_move rfl (hI.fx 0 rfl))
  | 5, _ => cases ho; exact RG.rW rfl rfl (fun L a w' hI hd => ex_nil rfl (hI.pure 4 _ _ rfl (hd ⟨4, .data⟩ (by simp) rfl)))
  | 6, _ => cases ho; exact RG.rW rfl rfl (fun L a w' hI hd => ex_field rfl (hI.pure 5 _ _ rfl (hd ⟨5, .data⟩ (by simp) rfl)) (fieldG1 w' _))
  | 7, _ => cases ho; exact RG.rW rfl rfl (fun L a w' hI hd => ex_load_row rfl (hI.pure 6 _ _ rfl (hd ⟨6, .data⟩ (by simp) rfl)) (shrowAt (o := 6) (sh := sh) (by omega) rfl rfl rfl rfl rfl rfl hI.world.row) HDS.out.1 HDS.out.2 sizeSh)
  | 8, _ => cases ho; exact RG.rW rfl rfl (fun L a w' hI hd => ex_move rfl (hI.fx 0 rfl))
  | 9, _ => cases ho; exact RG.rW rfl rfl (fun L a w' hI hd => ex_nil rfl (hI.pure 8 _ _ rfl (hd ⟨8, .data⟩ (by simp) rfl)))
  | 10, _ => cases ho; exact RG.rW rfl rfl (fun L a w' hI hd => ex_field rfl (hI.pure 9 _ _ rfl (hd ⟨9, .data⟩ (by simp) rfl)) (fieldG2 w' _))
  | 11, _ => cases ho; exact RG.rW rfl rfl (fun L a w' hI hd => ex_load rfl (hI.pure 10 _ _ rfl (hd ⟨10, .data⟩ (by simp) rfl)) (aggI w') (hI.world.row.cell (i := 12) (by omega)))
  | 12, _ => cases ho; exact RG.rW rfl rfl (fun L a w' hI hd => ex_move rfl (hI.fx 0 rfl))
  | 13, _ => cases ho; exact RG.rW rfl rfl (fun L a w' hI hd => ex_nil rfl (hI.pure 12 _ _ rfl (hd ⟨12, .data⟩ (by simp) rfl)))
  | 14, _ => cases ho; exact RG.rW rfl rfl (fun L a w' hI hd => ex_field rfl (hI.pure 13 _ _ rfl (hd ⟨13, .data⟩ (by simp) rfl)) (fieldG3 w' _))
  | 15, _ => cases ho; exact RG.rW rfl rfl (fun L a w' hI hd => ex_load rfl (hI.pure 14 _ _ rfl (hd ⟨14, .data⟩ (by simp) rfl)) (aggI w') (hI.world.row.cell (i := 13) (by omega)))
  | 16, _ => cases ho; exact RG.Does.call rfl (fun L a w' hI hd => call3 rfl (hI.pure 7 _ _ rfl (hd ⟨7, .data⟩ (by simp) rfl)) (hI.pure 11 _ _ rfl (hd ⟨11, .data⟩ (by simp) rfl)) (hI.pure 15 _ _ rfl (hd ⟨15, .data⟩ (by simp) rfl)) rfl (by simp [go_sem])) (fun L v_ w2 hI hL => ((fun w9 : World => slotAt_any H5.out ix sl w9) w2).mono (by rintro e w3 ⟨rfl, hb⟩; exact ⟨rfl, RG.SW.skip (by decide) (by decide) (by decide)  (SWq hI hb)⟩))
  | 17, _ => cases ho; exact RG.Does.call rfl (fun L a w' hI hd => call4 rfl (hI.pure 2 _ _ rfl (hd ⟨2, .data⟩ (by simp) rfl)) (hI.pure 3 _ _ rfl (hd ⟨3, .data⟩ (by simp) rfl)) (hI.pure 16 _ _ rfl (hd ⟨16, .data⟩ (by simp) rfl)) rfl rfl (by simp [go_sem])) (SWcalls h2 hn4 (by decide) (by decide) (fun w2 R2 M2 => store_any (R2.cell (i := 0) (by omega)) R2.lt M2 HW.out HX.out HF.out))
  | 18, _ => cases ho; exact RG.Does.make (u := fun w' => .pointer (some ⟨w'.heap.size, 0, none⟩)) rfl rfl (fun ev w' => alloc46 rfl) (fun L v_ w' h hL => by have := RG.SW.make h hL; rw [← upd_same L 18 true] at this; simpa only [upd_other _ _ (show 17 ≠ 18 by decide), upd_other _ _ (show 19 ≠ 18 by decide)] using this)
  | 19, _ => cases ho; exact RG.Does.put (ls := x.cells) rfl rfl rfl size46 (by simp [Stp.cells, Value.oneCell']) (fun L a w' hI hL hd => ⟨(hI.pure 17 _ _ rfl (hd ⟨17, .data⟩ (by simp) rfl)), by obtain ⟨q, e1, e2, e3⟩ := RG.SW.put hI.world (hd ⟨17, .data⟩ (by simp) rfl) (hd ⟨18, .data⟩ (by simp) rfl) hL; exact ⟨q, 0, e1, e2, by rw [← upd_same L 19 true] at e3; simpa only [upd_other _ _ (show 17 ≠ 19 by decide), upd_other _ _ (show 18 ≠ 19 by decide)] using e3⟩⟩)
 case fin =>
  intro L a' w1 hI hall
  have hw := hI.world
  simp only [hall 17 (by decide), hall 18 (by decide), hall 19 (by decide), if_true] at hw
  obtain ⟨q, hq, hq1, hq2, _, hr⟩ := hw.own rfl
  replace hr := hr rfl
  have ea := act_all a' 39 (by rw [hI.sz]; rfl) hI.df
  simp only [List.range, List.range.loop, List.map] at ea
  rw [hI.fx 0 rfl, hI.fx 1 rfl, hI.fx 2 rfl, hI.fx 3 rfl, hI.fx 4 rfl, hI.fx 5 rfl, hI.fx 25 rfl, hI.fx 26 rfl, hI.fx 27 rfl, hI.fx 28 rfl, hI.fx 29 rfl, hI.fx 30 rfl, hI.fx 31 rfl, hI.fx 32 rfl, hI.fx 33 rfl, hI.fx 34 rfl, hI.fx 35 rfl, hI.fx 36 rfl, hI.fx 37 rfl, hI.fx 38 rfl, hq] at ea
  clear hI hall
  obtain ⟨us, hus⟩ : ∃ us : Nat → Value, ∀ k, a'.eval (.tmp k) = us k := ⟨_, fun _ => rfl⟩
  simp only [hus] at ea
  simp only [show ∀ (ts : Array Value) (ds) (i : Nat), (Act.mk ts ds).eval (.tmp i) = ts.getD i undef from fun _ _ _ => rfl] at ea
  simp at ea
  subst ea
  have M1 := hide (show IsMem w1 bm bw n f' from by simpa using hw.mem)
  have R1 := hide hw.row
  have RR := hide hw.res
  have T1 := hide (T0.out.trans' hw.tch (fun k _ h => .inr h))
  have RQ := hide hr
  have hqb : q ≠ b := by omega
  have hqr : q ≠ w.heap.size := by omega
  have hqm : q ≠ bm ∧ q ≠ bw := by omega
  have lw1 := hw.tch.size
  have l1 : b < w1.heap.size := by omega
  have l2 : w.heap.size < w1.heap.size := by omega
  have l3 : q < w1.heap.size := by omega
  clear hw hr hq
  obtain ⟨s0, s1, s2, s3, s4, s5⟩ := stp6 RQ.out
  have Rw1 := R1
  have Mw1 := M1
  have Qw1 := RR
  have Sw1 := RQ
  have Tw1 := T1
  have db : w1.cell? ⟨b, 13, none⟩ = some (.int .i64 sl) := R1.out.cell (i := 13) (by omega)
  have dfb := R1.out.frozen 13
  obtain ⟨V, hV⟩ : ∃ W', w1.setCell ⟨b, 13, none⟩ (.int .i64 (sl + 1)) = W' := ⟨_, rfl⟩
  have tV : Touch w1 V (fun k => k = b) := by
   rw [← hV]
   exact Touch.trans' (S' := fun k => k = b) (⟨rfl, rfl, rfl, Nat.le_refl _, fun _ _ _ => rfl⟩ : Touch w1 w1 (fun k => k = b)) ((Touch.refl w1 _).setCell (S := fun k => k = b) ⟨b, 13, none⟩ (.inl rfl) _) (fun k _ h => h)
  have RV := hide (show V.rowIs b 103 15 (gC sh hand fn v2 v3 t ix (sl + 1) gn) from by
   rw [← hV]
   exact World.rowIs.congr (World.rowIs.set (show World.rowIs w1 b 103 15 _ from Rw1.out.of_block rfl) 13 _) (fun i hi => g_sl _ _ _ _ _ _ _ _ _ _ i hi))
  have QV := hide (Qw1.out.of_block (tV.block _ (by omega) (by omega)))
  have MV := hide (show IsMem V bm bw n f' from ⟨Mw1.out.head.of_block (tV.block _ Mw1.out.head.lt (by omega)), Mw1.out.row.of_block (tV.block _ Mw1.out.row.lt (by omega)), Mw1.out.most, Mw1.out.word⟩)
  have TV := hide (show Touch w V (fun k => k = b ∨ k = bw) from Tw1.out.trans' tV (fun k _ h => .inl h))
  have SV := hide (rangeAt_block Sw1.out (tV.block q (by omega) (by omega)))
  have szV : V.heap.size = w1.heap.size := by rw [← hV] <;> first | (simp; done) | rfl | (simp; rfl)
  clear tV
  go_wp2_with fail
  clear hV s0 s1 s2 s3 s4 s5 db dfb g1
  refine RG.regionB 9 (ks := [(0, 32), (1, 33), (2, 34), (3, 35), (4, 36), (5, 37), (6, 38), (8, 5)]) (vals := fun i => match i with
     | 0 => x.val
     | 1 => .pointer (some ⟨b, 0, none⟩)
     | 2 => .pointer (some ⟨b, 0, none⟩)
     | 3 => .pointer (some ⟨b, 0, none⟩)
     | 4 => .pointer (some ⟨b, 0, none⟩)
     | 5 => .func (.func 69) #[.pointer (some ⟨b, 0, none⟩)] #[]
     | 6 => .int .i64 0
     | 8 => .int .i64 0
     | _ => undef) (x := 2) (WI := fun L v_ w' => RG.SX b 103 15 (fun c_ g_ => gC sh hand (if g_ = true then (.func (.func 69) #[.pointer (some ⟨b, 0, none⟩)] #[]) else fn) v2 v3 t ix (sl + 1) gn) bm bw n f' f' x w.heap.size (some q) V true (L 6) (L 7) w') (by kernel_rfl) (by kernel_rfl) rfl (by kernel_rfl) (by kernel_rfl) (RG.SX.start (c := true) (g := false) RV.out (by simpa using MV.out) QV.out ⟨h1, h2, hn3, hn5, hn4⟩ (fun k e => by cases e; exact ⟨SV.out, by omega, hqb, hqm.2, hqr⟩)) ?does ?fin
  case does =>
   intro i o ho
   have hi : i < 9 := RG.lt_of ho rfl
   match i, hi with
   | 0, _ => cases ho; exact RG.rX2 rfl rfl (fun L a w' hI hd => ex_load_row rfl (hI.fx 6 rfl) (hI.world.var _ rfl).1 HD.out.1 HD.out.2 size46)
   | 1, _ => cases ho; exact RG.rX2 rfl rfl (fun L a w' hI hd => ex_move rfl (hI.fx 0 rfl))
   | 2, _ => cases ho; exact RG.rX2 rfl rfl (fun L a w' hI hd => ex_nil rfl (hI.pure 1 _ _ rfl (hd ⟨1, .data⟩ (by simp) rfl)))
   | 3, _ => cases ho; exact RG.rX2 rfl rfl (fun L a w' hI hd => ex_field rfl (hI.pure 2 _ _ rfl (hd ⟨2, .data⟩ (by simp) rfl)) (fieldG0 w' _))
   | 4, _ => cases ho; exact RG.rX2 rfl rfl (fun L a w' hI hd => ex_move rfl (hI.fx 0 rfl))
   | 5, _ => cases ho; exact RG.Does.call rfl (fun L a w' hI hd => call1 rfl (hI.pure 4 _ _ rfl (hd ⟨4, .data⟩ (by simp) rfl)) rfl (by simp [go_sem])) (fun L v_ w2 hI hL => (wol_yes hI.row H5.out HT.out).mono (by rintro e w3 ⟨rfl, hb⟩; exact ⟨rfl, RG.SX.skip2 (by decide) (by decide)  (SXq hI hb)⟩))
   | 6, _ => cases ho; exact RG.Does.call rfl (fun L a w' hI hd => call2 rfl (hI.pure 3 _ _ rfl (hd ⟨3, .data⟩ (by simp) rfl)) (hI.pure 5 _ _ rfl (hd ⟨5, .data⟩ (by simp) rfl)) rfl (by simp [go_sem])) (fun L v_ w2 hI hL => by have h3 := hI; rw [hL] at h3; refine (goOn_any 69 h3.row (by omega)).mono ?_; rintro e w3 ⟨rfl, r3, t3⟩; refine ⟨rfl, ?_⟩; rw [upd_same, upd_other _ _ (show 7 ≠ 6 by decide)]; exact h3.turn (g' := true) (r3.congr (fun i hi => g_fn _ _ _ _ _ _ _ _ _ _ i hi)) ⟨h3.mem.head.of_block (t3.block _ h3.mem.head.lt (fun e => h1 e.symm)), h3.mem.row.of_block (t3.block _ h3.mem.row.lt (fun e => h2 e.symm)), h3.mem.most, h3.mem.word⟩ t3 (fun k e => .inl e))
   | 7, _ => cases ho; exact RG.Does.put (ls := x.cells) rfl rfl rfl size46 (by simp [Stp.cells, Value.oneCell']) (fun L a w' hI hL hdd => ⟨(hI.pure 0 _ _ rfl (hdd ⟨0, .data⟩ (by simp) rfl)), by obtain ⟨e2, e3⟩ := RG.SX.put hI.world; exact ⟨w.heap.size, 0, hI.fx 4 rfl, e2, by show RG.SX b 103 15 (fun c_ g_ => gC sh hand (if g_ = true then (.func (.func 69) #[.pointer (some ⟨b, 0, none⟩)] #[]) else fn) v2 v3 t ix (sl + 1) gn) bm bw n f' f' x w.heap.size (some q) V true (upd L 7 true 6) (upd L 7 true 7) _; rw [upd_same, upd_other _ _ (show 6 ≠ 7 by decide)]; exact e3⟩⟩)
   | 8, _ => cases ho; exact RG.rX2 rfl rfl (fun L a w' hI hd => ex_assign rfl (hI.pure 6 _ _ rfl (hd ⟨6, .data⟩ (by simp) rfl)))
  case fin =>
   intro L a' w' hI hall
   rename_i K2 hK2
   refine hK2 _ _ ?_
   have hw := hI.world
   simp only [hall 6 (by decide), hall 7 (by decide)] at hw
   have rE := hw.sto rfl
   have pE : a'.eval (.tmp 4) = .pointer (some ⟨w.heap.size, 0, none⟩) := hI.fx 4 rfl
   have pe : a'.eval (.tmp 5) = .int .i64 0 := hI.pure 8 5 _ rfl (hall 8 (by decide))
   have hdf : a'.defers = [] := hI.df
   have hS := run_loadVar_mid (P := Tryz.prog) w' w.heap.size 0 _ _ dS rE HD.out.1 HD.out.2 size46
   have hres := results_ct (Q := Tryz.prog) (fn := Tryz.f69) (tmps := a'.tmps) (t := 4) (t' := 5) (W := w') (by rfl) pE hS
   rw [show a'.tmps.getD 5 undef = .int .i64 0 from pe] at hres
   go_wp2
   exact bodyPost_ret (v := .tuple #[x.val, .int .i64 0]) hres hdf ⟨rfl, hw.row, by simpa using hw.mem, TV.out.trans' hw.tch (fun k hk h => by rcases h with h | h | h; exact .inl h; exact .inr h; omega)⟩
theorem wipe_last {w : World} {b bm bw n : Nat} {f f' : Nat → Int} {x : Stp} {sh : Shp} {hand : Int} {fn v2 v3 : Value} {t : Ans} {ix sl gn : Int} (h_ : w.rowIs b 103 15 (gC sh hand fn v2 v3 t ix sl gn)) (hm : IsMem w bm bw n f) (h1 : b ≠ bm) (h2 : b ≠ bw) (h5 : Shape.R5 sh.a sh.b sh.c sh.d sh.e) (hs : 0 ≤ sl ∧ sl ≤ 4) (ht : ¬ slotIn sh ix (sl + 1))
  (hx : stepOf n f ⟨hand, 2, slotAt sh ix sl, 0, 0, true⟩ = x) (hf' : wordsOf n f ⟨hand, 2, slotAt sh ix sl, 0, 0, true⟩ = f') :
  Calls Tryz.prog 69 #[.pointer (some ⟨b, 0, none⟩), .pointer (some ⟨bm, 0, none⟩)] w fun e w' => e = .returned (.tuple #[x.val, .int .i64 0]) ∧
   w'.rowIs b 103 15 (gC sh hand (.func (.func 68) #[.pointer (some ⟨b, 0, none⟩)] #[]) v2 v3 t ix (sl + 1) gn) ∧ IsMem w' bm bw n f' ∧ Touch w w' (fun k => k = b ∨ k = bw) := by
 have hl := h_.lt
 have lw := hm.row.lt
 have lm := hm.head.lt
 have hn3 : w.heap.size ≠ b := by omega
 have hn4 : w.heap.size ≠ bw := by omega
 have hn5 : w.heap.size ≠ bm := by omega
 obtain ⟨W1, hW1⟩ : ∃ W1, w.alloc (.cells #[.int .i64 0, .int .i64 0, .int .i64 0, .int .u64 0, .int .u64 0, .bool false] 69) = W1 := ⟨_, rfl⟩
 have R := hide (show W1.rowIs b 103 15 (gC sh hand fn v2 v3 t ix sl gn) from by rw [← hW1]; exact h_.alloc _)
 have M := hide (show IsMem W1 bm bw n f from by rw [← hW1]; exact hm.alloc _)
 have RZ := hide (show W1.rowIs w.heap.size 69 6 zcell from by rw [← hW1]; exact row0 w)
 have T0 := hide (show Touch w W1 (fun k => k = b ∨ k = bw) from by rw [← hW1]; exact (Touch.refl w _).alloc _)
 have sz : W1.heap.size = w.heap.size + 1 := by rw [← hW1]; simp
 have lW1 : b < W1.heap.size := by omega
 obtain ⟨dS, hdS1, hdS2⟩ := row46
 have HD := hide (And.intro hdS1 hdS2)
 obtain ⟨dG, hdG1, hdG2⟩ := rowSh
 have HDS := hide (And.intro hdG1 hdG2)
 have HX := hide hx
 have HF := hide hf'
 have HW : Hid (0 ≤ (⟨hand, 2, slotAt sh ix sl, 0, 0, true⟩ : Stp).put ∧ (⟨hand, 2, slotAt sh ix sl, 0, 0, true⟩ : Stp).put ≤ 18446744073709551615) := ⟨by show (0 : Int) ≤ 0; omega, by show (0 : Int) ≤ 18446744073709551615; omega⟩
 have HT := hide ht
 have g1 : wrap64 (sl + 1) = sl + 1 := by unfold wrap64; omega
 have H5 := hide h5
 clear hm h_ hx hf' hdS1 hdS2 hdG1 hdG2 h5 ht hs
 go_enter Tryz.func69, Tryz.ntmps69
 go_wp2_with fail
 clear hW1
 refine RG.regionB 20 (ks := [(0, 7), (1, 8), (2, 9), (3, 10), (4, 11), (5, 12), (6, 13), (7, 14), (8, 15), (9, 16), (10, 17), (11, 18), (12, 19), (13, 20), (14, 21), (15, 22), (16, 23), (17, 24)]) (vals := fun i => match i with
   | 0 => .pointer (some ⟨b, 0, none⟩)
   | 1 => .pointer (some ⟨b, 0, none⟩)
   | 2 => .pointer (some ⟨b, 0, none⟩)
   | 3 => .pointer (some ⟨bm, 0, none⟩)
   | 4 => .pointer (some ⟨b, 0, none⟩)
   | 5 => .pointer (some ⟨b, 0, none⟩)
   | 6 => .pointer (some ⟨b, 6, none⟩)
   | 7 => sh.val
   | 8 => .pointer (some ⟨b, 0, none⟩)
   | 9 => .pointer (some ⟨b, 0, none⟩)
   | 10 => .pointer (some ⟨b, 12, none⟩)
   | 11 => .int .i64 ix
   | 12 => .pointer (some ⟨b, 0, none⟩)
   | 13 => .pointer (some ⟨b, 0, none⟩)
   | 14 => .pointer (some ⟨b, 13, none⟩)
   | 15 => .int .i64 sl
   | 16 => .int .i64 (slotAt sh ix sl)
   | 17 => x.val
   | _ => undef) (x := 6) (WI := fun L v_ w' => RG.SW b 103 15 (gC sh hand fn v2 v3 t ix sl gn) bm bw n f f' x w.heap.size W1 (L 17) (L 18) (L 19) v_ w') (by kernel_rfl) (by kernel_rfl) rfl (by kernel_rfl) (by kernel_rfl) (RG.SW.start R.out M.out RZ.out) ?does ?fin
 case does =>
  intro i o ho
  have hi : i < 20 := RG.lt_of ho rfl
  match i, hi with
  | 0, _ => cases ho; exact RG.rW rfl rfl (fun L a w' hI hd => ex_move rfl (hI.fx 0 rfl))
  | 1, _ => cases ho; exact RG.rW rfl rfl (fun L a w' hI hd => ex_nil rfl (hI.pure 0 _ _ rfl (hd ⟨0, .data⟩ (by simp) rfl)))
  | 2, _ => cases ho; exact RG.rW rfl rfl (fun L a w' hI hd => ex_field rfl (hI.pure 1 _ _ rfl (hd ⟨1, .data⟩ (by simp) rfl)) (fieldG0 w' _))
  | 3, _ => cases ho; exact RG.rW rfl rfl (fun L a w' hI hd => ex_move rfl (hI.fx 1 rfl))
  | 4, _ => cases ho; exact RG.rW rfl rfl (fun L a w' hI hd => ex_move rfl (hI.fx 0 rfl))
  | 5, _ => cases ho; exact RG.rW rfl rfl (fun L a w' hI hd => ex_nil rfl (hI.pure 4 _ _ rfl (hd ⟨4, .data⟩ (by simp) rfl)))
  | 6, _ => cases ho; exact RG.rW rfl rfl (fun L a w' hI hd => ex_field rfl (hI.pure 5 _ _ rfl (hd ⟨5, .data⟩ (by simp) rfl)) (fieldG1 w' _))
  | 7, _ => cases ho; exact RG.rW rfl rfl (fun L a w' hI hd => ex_load_row rfl (hI.pure 6 _ _ rfl (hd ⟨6, .data⟩ (by simp) rfl)) (shrowAt (o := 6) (sh := sh) (by omega) rfl rfl rfl rfl rfl rfl hI.world.row) HDS.out.1 HDS.out.2 sizeSh)
  | 8, _ => cases ho; exact RG.rW rfl rfl (fun L a w' hI hd => ex_move rfl (hI.fx 0 rfl))
  | 9, _ => cases ho; exact RG.rW rfl rfl (fun L a w' hI hd => ex_nil rfl (hI.pure 8 _ _ rfl (hd ⟨8, .data⟩ (by simp) rfl)))
  | 10, _ => cases ho; exact RG.rW rfl rfl (fun L a w' hI hd => ex_field rfl (hI.pure 9 _ _ rfl (hd ⟨9, .data⟩ (by simp) rfl)) (fieldG2 w' _))
  | 11, _ => cases ho; exact RG.rW rfl rfl (fun L a w' hI hd => ex_load rfl (hI.pure 10 _ _ rfl (hd ⟨10, .data⟩ (by simp) rfl)) (aggI w') (hI.world.row.cell (i := 12) (by omega)))
  | 12, _ => cases ho; exact RG.rW rfl rfl (fun L a w' hI hd => ex_move rfl (hI.fx 0 rfl))
  | 13, _ => cases ho; exact RG.rW rfl rfl (fun L a w' hI hd => ex_nil rfl (hI.pure 12 _ _ rfl (hd ⟨12, .data⟩ (by simp) rfl)))
  | 14, _ => cases ho; exact RG.rW rfl rfl (fun L a w' hI hd => ex_field rfl (hI.pure 13 _ _ rfl (hd ⟨13, .data⟩ (by simp) rfl)) (fieldG3 w' _))
  | 15, _ => cases ho; exact RG.rW rfl rfl (fun L a w' hI hd => ex_load rfl (hI.pure 14 _ _ rfl (hd ⟨14, .data⟩ (by simp) rfl)) (aggI w') (hI.world.row.cell (i := 13) (by omega)))
  | 16, _ => cases ho; exact RG.Does.call rfl (fun L a w' hI hd => call3 rfl (hI.pure 7 _ _ rfl (hd ⟨7, .data⟩ (by simp) rfl)) (hI.pure 11 _ _ rfl (hd ⟨11, .data⟩ (by simp) rfl)) (hI.pure 15 _ _ rfl (hd ⟨15, .data⟩ (by simp) rfl)) rfl (by simp [go_sem])) (fun L v_ w2 hI hL => ((fun w9 : World => slotAt_any H5.out ix sl w9) w2).mono (by rintro e w3 ⟨rfl, hb⟩; exact ⟨rfl, RG.SW.skip (by decide) (by decide) (by decide)  (SWq hI hb)⟩))
  | 17, _ => cases ho; exact RG.Does.call rfl (fun L a w' hI hd => call4 rfl (hI.pure 2 _ _ rfl (hd ⟨2, .data⟩ (by simp) rfl)) (hI.pure 3 _ _ rfl (hd ⟨3, .data⟩ (by simp) rfl)) (hI.pure 16 _ _ rfl (hd ⟨16, .data⟩ (by simp) rfl)) rfl rfl (by simp [go_sem])) (SWcalls h2 hn4 (by decide) (by decide) (fun w2 R2 M2 => store_any (R2.cell (i := 0) (by omega)) R2.lt M2 HW.out HX.out HF.out))
  | 18, _ => cases ho; exact RG.Does.make (u := fun w' => .pointer (some ⟨w'.heap.size, 0, none⟩)) rfl rfl (fun ev w' => alloc46 rfl) (fun L v_ w' h hL => by have := RG.SW.make h hL; rw [← upd_same L 18 true] at this; simpa only [upd_other _ _ (show 17 ≠ 18 by decide), upd_other _ _ (show 19 ≠ 18 by decide)] using this)
  | 19, _ => cases ho; exact RG.Does.put (ls := x.cells) rfl rfl rfl size46 (by simp [Stp.cells, Value.oneCell']) (fun L a w' hI hL hd => ⟨(hI.pure 17 _ _ rfl (hd ⟨17, .data⟩ (by simp) rfl)), by obtain ⟨q, e1, e2, e3⟩ := RG.SW.put hI.world (hd ⟨17, .data⟩ (by simp) rfl) (hd ⟨18, .data⟩ (by simp) rfl) hL; exact ⟨q, 0, e1, e2, by rw [← upd_same L 19 true] at e3; simpa only [upd_other _ _ (show 17 ≠ 19 by decide), upd_other _ _ (show 18 ≠ 19 by decide)] using e3⟩⟩)
 case fin =>
  intro L a' w1 hI hall
  have hw := hI.world
  simp only [hall 17 (by decide), hall 18 (by decide), hall 19 (by decide), if_true] at hw
  obtain ⟨q, hq, hq1, hq2, _, hr⟩ := hw.own rfl
  replace hr := hr rfl
  have ea := act_all a' 39 (by rw [hI.sz]; rfl) hI.df
  simp only [List.range, List.range.loop, List.map] at ea
  rw [hI.fx 0 rfl, hI.fx 1 rfl, hI.fx 2 rfl, hI.fx 3 rfl, hI.fx 4 rfl, hI.fx 5 rfl, hI.fx 25 rfl, hI.fx 26 rfl, hI.fx 27 rfl, hI.fx 28 rfl, hI.fx 29 rfl, hI.fx 30 rfl, hI.fx 31 rfl, hI.fx 32 rfl, hI.fx 33 rfl, hI.fx 34 rfl, hI.fx 35 rfl, hI.fx 36 rfl, hI.fx 37 rfl, hI.fx 38 rfl, hq] at ea
  clear hI hall
  obtain ⟨us, hus⟩ : ∃ us : Nat → Value, ∀ k, a'.eval (.tmp k) = us k := ⟨_, fun _ => rfl⟩
  simp only [hus] at ea
  simp only [show ∀ (ts : Array Value) (ds) (i : Nat), (Act.mk ts ds).eval (.tmp i) = ts.getD i undef from fun _ _ _ => rfl] at ea
  simp at ea
  subst ea
  have M1 := hide (show IsMem w1 bm bw n f' from by simpa using hw.mem)
  have R1 := hide hw.row
  have RR := hide hw.res
  have T1 := hide (T0.out.trans' hw.tch (fun k _ h => .inr h))
  have RQ := hide hr
  have hqb : q ≠ b := by omega
  have hqr : q ≠ w.heap.size := by omega
  have hqm : q ≠ bm ∧ q ≠ bw := by omega
  have lw1 := hw.tch.size
  have l1 : b < w1.heap.size := by omega
  have l2 : w.heap.size < w1.heap.size := by omega
  have l3 : q < w1.heap.size := by omega
  clear hw hr hq
  obtain ⟨s0, s1, s2, s3, s4, s5⟩ := stp6 RQ.out
  have Rw1 := R1
  have Mw1 := M1
  have Qw1 := RR
  have Sw1 := RQ
  have Tw1 := T1
  have db : w1.cell? ⟨b, 13, none⟩ = some (.int .i64 sl) := R1.out.cell (i := 13) (by omega)
  have dfb := R1.out.frozen 13
  obtain ⟨V, hV⟩ : ∃ W', w1.setCell ⟨b, 13, none⟩ (.int .i64 (sl + 1)) = W' := ⟨_, rfl⟩
  have tV : Touch w1 V (fun k => k = b) := by
   rw [← hV]
   exact Touch.trans' (S' := fun k => k = b) (⟨rfl, rfl, rfl, Nat.le_refl _, fun _ _ _ => rfl⟩ : Touch w1 w1 (fun k => k = b)) ((Touch.refl w1 _).setCell (S := fun k => k = b) ⟨b, 13, none⟩ (.inl rfl) _) (fun k _ h => h)
  have RV := hide (show V.rowIs b 103 15 (gC sh hand fn v2 v3 t ix (sl + 1) gn) from by
   rw [← hV]
   exact World.rowIs.congr (World.rowIs.set (show World.rowIs w1 b 103 15 _ from Rw1.out.of_block rfl) 13 _) (fun i hi => g_sl _ _ _ _ _ _ _ _ _ _ i hi))
  have QV := hide (Qw1.out.of_block (tV.block _ (by omega) (by omega)))
  have MV := hide (show IsMem V bm bw n f' from ⟨Mw1.out.head.of_block (tV.block _ Mw1.out.head.lt (by omega)), Mw1.out.row.of_block (tV.block _ Mw1.out.row.lt (by omega)), Mw1.out.most, Mw1.out.word⟩)
  have TV := hide (show Touch w V (fun k => k = b ∨ k = bw) from Tw1.out.trans' tV (fun k _ h => .inl h))
  have SV := hide (rangeAt_block Sw1.out (tV.block q (by omega) (by omega)))
  have szV : V.heap.size = w1.heap.size := by rw [← hV] <;> first | (simp; done) | rfl | (simp; rfl)
  clear tV
  go_wp2_with fail
  clear hV s0 s1 s2 s3 s4 s5 db dfb g1
  refine RG.regionB 9 (ks := [(0, 32), (1, 33), (2, 34), (3, 35), (4, 36), (5, 37), (6, 38), (8, 5)]) (vals := fun i => match i with
     | 0 => x.val
     | 1 => .pointer (some ⟨b, 0, none⟩)
     | 2 => .pointer (some ⟨b, 0, none⟩)
     | 3 => .pointer (some ⟨b, 0, none⟩)
     | 4 => .pointer (some ⟨b, 0, none⟩)
     | 5 => .func (.func 68) #[.pointer (some ⟨b, 0, none⟩)] #[]
     | 6 => .int .i64 0
     | 8 => .int .i64 0
     | _ => undef) (x := 2) (WI := fun L v_ w' => RG.SX b 103 15 (fun c_ g_ => gC sh hand (if g_ = true then (.func (.func 68) #[.pointer (some ⟨b, 0, none⟩)] #[]) else fn) v2 v3 t ix (sl + 1) gn) bm bw n f' f' x w.heap.size (some q) V true (L 6) (L 7) w') (by kernel_rfl) (by kernel_rfl) rfl (by kernel_rfl) (by kernel_rfl) (RG.SX.start (c := true) (g := false) RV.out (by simpa using MV.out) QV.out ⟨h1, h2, hn3, hn5, hn4⟩ (fun k e => by cases e; exact ⟨SV.out, by omega, hqb, hqm.2, hqr⟩)) ?does ?fin
  case does =>
   intro i o ho
   have hi : i < 9 := RG.lt_of ho rfl
   match i, hi with
   | 0, _ => cases ho; exact RG.rX2 rfl rfl (fun L a w' hI hd => ex_load_row rfl (hI.fx 6 rfl) (hI.world.var _ rfl).1 HD.out.1 HD.out.2 size46)
   | 1, _ => cases ho; exact RG.rX2 rfl rfl (fun L a w' hI hd => ex_move rfl (hI.fx 0 rfl))
   | 2, _ => cases ho; exact RG.rX2 rfl rfl (fun L a w' hI hd => ex_nil rfl (hI.pure 1 _ _ rfl (hd ⟨1, .data⟩ (by simp) rfl)))
   | 3, _ => cases ho; exact RG.rX2 rfl rfl (fun L a w' hI hd => ex_field rfl (hI.pure 2 _ _ rfl (hd ⟨2, .data⟩ (by simp) rfl)) (fieldG0 w' _))
   | 4, _ => cases ho; exact RG.rX2 rfl rfl (fun L a w' hI hd => ex_move rfl (hI.fx 0 rfl))
   | 5, _ => cases ho; exact RG.Does.call rfl (fun L a w' hI hd => call1 rfl (hI.pure 4 _ _ rfl (hd ⟨4, .data⟩ (by simp) rfl)) rfl (by simp [go_sem])) (fun L v_ w2 hI hL => (wol_no hI.row H5.out HT.out).mono (by rintro e w3 ⟨rfl, hb⟩; exact ⟨rfl, RG.SX.skip2 (by decide) (by decide)  (SXq hI hb)⟩))
   | 6, _ => cases ho; exact RG.Does.call rfl (fun L a w' hI hd => call2 rfl (hI.pure 3 _ _ rfl (hd ⟨3, .data⟩ (by simp) rfl)) (hI.pure 5 _ _ rfl (hd ⟨5, .data⟩ (by simp) rfl)) rfl (by simp [go_sem])) (fun L v_ w2 hI hL => by have h3 := hI; rw [hL] at h3; refine (goOn_any 68 h3.row (by omega)).mono ?_; rintro e w3 ⟨rfl, r3, t3⟩; refine ⟨rfl, ?_⟩; rw [upd_same, upd_other _ _ (show 7 ≠ 6 by decide)]; exact h3.turn (g' := true) (r3.congr (fun i hi => g_fn _ _ _ _ _ _ _ _ _ _ i hi)) ⟨h3.mem.head.of_block (t3.block _ h3.mem.head.lt (fun e => h1 e.symm)), h3.mem.row.of_block (t3.block _ h3.mem.row.lt (fun e => h2 e.symm)), h3.mem.most, h3.mem.word⟩ t3 (fun k e => .inl e))
   | 7, _ => cases ho; exact RG.Does.put (ls := x.cells) rfl rfl rfl size46 (by simp [Stp.cells, Value.oneCell']) (fun L a w' hI hL hdd => ⟨(hI.pure 0 _ _ rfl (hdd ⟨0, .data⟩ (by simp) rfl)), by obtain ⟨e2, e3⟩ := RG.SX.put hI.world; exact ⟨w.heap.size, 0, hI.fx 4 rfl, e2, by show RG.SX b 103 15 (fun c_ g_ => gC sh hand (if g_ = true then (.func (.func 68) #[.pointer (some ⟨b, 0, none⟩)] #[]) else fn) v2 v3 t ix (sl + 1) gn) bm bw n f' f' x w.heap.size (some q) V true (upd L 7 true 6) (upd L 7 true 7) _; rw [upd_same, upd_other _ _ (show 6 ≠ 7 by decide)]; exact e3⟩⟩)
   | 8, _ => cases ho; exact RG.rX2 rfl rfl (fun L a w' hI hd => ex_assign rfl (hI.pure 6 _ _ rfl (hd ⟨6, .data⟩ (by simp) rfl)))
  case fin =>
   intro L a' w' hI hall
   rename_i K2 hK2
   refine hK2 _ _ ?_
   have hw := hI.world
   simp only [hall 6 (by decide), hall 7 (by decide)] at hw
   have rE := hw.sto rfl
   have pE : a'.eval (.tmp 4) = .pointer (some ⟨w.heap.size, 0, none⟩) := hI.fx 4 rfl
   have pe : a'.eval (.tmp 5) = .int .i64 0 := hI.pure 8 5 _ rfl (hall 8 (by decide))
   have hdf : a'.defers = [] := hI.df
   have hS := run_loadVar_mid (P := Tryz.prog) w' w.heap.size 0 _ _ dS rE HD.out.1 HD.out.2 size46
   have hres := results_ct (Q := Tryz.prog) (fn := Tryz.f69) (tmps := a'.tmps) (t := 4) (t' := 5) (W := w') (by rfl) pE hS
   rw [show a'.tmps.getD 5 undef = .int .i64 0 from pe] at hres
   go_wp2
   exact bodyPost_ret (v := .tuple #[x.val, .int .i64 0]) hres hdf ⟨rfl, hw.row, by simpa using hw.mem, TV.out.trans' hw.tch (fun k hk h => by rcases h with h | h | h; exact .inl h; exact .inr h; omega)⟩
end Rom
end
section
namespace Hp
theorem goAlong_any {w : World} {b T nc : Nat} {C : Nat → Value} {tid : TypeId} {p : Addr} {fb : FuncId} {first caps : Array Value} (h : w.rowIs b T nc C) (hn : 3 < nc) :
  Calls Tryz.prog 62 #[.pointer (some ⟨b, 0, none⟩), .iface tid (.pointer (some p)), .func (.func fb) first caps] w fun e w' => e = .returned (.int .i64 0) ∧
   w'.rowIs b T nc (fun k => if k = 1 then .func (.func 93) #[.pointer (some ⟨b, 0, none⟩)] #[] else if k = 3 then .func (.func fb) first caps else if k = 2 then .iface tid (.pointer (some p)) else C k) ∧ Touch w w' (fun k => k = b) := by
 have c1 := h.cell (i := 1) (by omega)
 have f1 := h.frozen 1
 have c2 := h.cell (i := 2) (by omega)
 have f2 := h.frozen 2
 have c3 := h.cell (i := 3) (by omega)
 have f3 := h.frozen 3
 have hl := h.lt
 have hmf : ∀ (fn : Fn) (first cap : Array Value) (w : World), (Instr.makeFunc fn first cap).run Tryz.prog w = .ok (.func fn first cap) w := fun _ _ _ _ => rfl
 have R2 := hide ((h.set 2 (.iface tid (.pointer (some p)))).set 3 (.func (.func fb) first caps))
 have T2 := hide (((Touch.refl w (fun k => k = b)).setCell ⟨b, 2, none⟩ (.inl rfl) (.iface tid (.pointer (some p)))).setCell ⟨b, 3, none⟩ (.inl rfl) (.func (.func fb) first caps))
 have rs : ∀ (a : Addr) (F : FuncId) (x y : Array Value) (w1 : World), (store a (.func (.func F) x y)).run Tryz.prog w1 = stored Tryz.prog w1 a (.func (.func F) x y) .plain := fun a F x y w1 => run_store Tryz.prog w1 _ _ _ rfl
 clear h
 go_enter Tryz.func62, Tryz.ntmps62
 go_wp2_with (go_at_call 65; refine (goOn_any _ R2.out (by omega)).mono ?_; rintro e w1 ⟨rfl, r1, t1⟩; have R1 := hide r1; have T1 := hide t1; clear r1 t1)
 go_ret
 exact ⟨rfl, R1.out, T2.out.trans T1.out⟩
end Hp
namespace Ls
open Hp
theorem begin_any {w : World} {b T nc : Nat} {C : Nat → Value} {hand : Int} {F : FuncId} {p : Addr} (h : w.rowIs b T nc C) (hn : 1 < nc) :
  Calls Tryz.prog 36 #[.pointer (some ⟨b, 0, none⟩), .int .i64 hand, .func (.func F) #[.pointer (some p)] #[]] w fun e w' => e = .returned (.tuple #[]) ∧
   w'.rowIs b T nc (fun k => if k = 1 then .func (.func F) #[.pointer (some p)] #[] else if k = 0 then .int .i64 hand else C k) ∧ Touch w w' (fun k => k = b) := by
 have c0 := h.cell (i := 0) (by omega)
 have f0 := h.frozen 0
 have c1 := h.cell (i := 1) (by omega)
 have f1 := h.frozen 1
 have hl := h.lt
 have R := hide ((h.set 0 (.int .i64 hand)).set 1 (.func (.func F) #[.pointer (some p)] #[]))
 have T0 := hide (((Touch.refl w (fun k => k = b)).setCell ⟨b, 0, none⟩ (.inl rfl) (.int .i64 hand)).setCell ⟨b, 1, none⟩ (.inl rfl) (.func (.func F) #[.pointer (some p)] #[]))
 have rs : ∀ (a : Addr) (F : FuncId) (x y : Array Value) (w1 : World), (store a (.func (.func F) x y)).run Tryz.prog w1 = stored Tryz.prog w1 a (.func (.func F) x y) .plain := fun a F x y w1 => run_store Tryz.prog w1 _ _ _ rfl
 clear h
 go_enter Tryz.func36, Tryz.ntmps36
 go_wp2_with fail
 go_end0
 exact ⟨rfl, R.out, T0.out⟩
theorem lay_new {sh : Shp} (h5 : Shape.R5 sh.a sh.b sh.c sh.d sh.e) (hand : Int) (j : Jb) (hk : j.kind = 1) (w : World) :
  Calls Tryz.prog 122 #[sh.val, .int .i64 hand, .int .i64 j.a, .int .i64 j.b] w fun e w' => ∃ B R, e = .returned (.iface (tid j) (.pointer (some ⟨B 0, 0, none⟩))) ∧ (kList sh).Lies w' j B R (init sh hand j) ∧ (∀ i x, R i = some x → w.heap.size ≤ B i) ∧ w.grownBy w' none := by
 have BH := hide (fun w1 : World => behindAt_any h5 j.a j.b w1)
 have hmi : ∀ (x : Value) (w : World), (Instr.makeInterface 198 x).run Tryz.prog w = .ok (.iface 198 x) w := fun x w => run_makeInterface w 198 x (by kernel_rfl)
 have hmf : ∀ (fn : Fn) (first cap : Array Value) (w : World), (Instr.makeFunc fn first cap).run Tryz.prog w = .ok (.func fn first cap) w := fun _ _ _ _ => rfl
 obtain ⟨kind, a, b, c, hh⟩ := j
 obtain rfl : kind = 1 := hk
 clear h5
 have FIN := hide (show ∀ (w' : World) (q : Nat), w'.rowIs q 200 10 (lC hand (.func (.func 138) #[.pointer (some ⟨q, 0, none⟩)] #[]) .nilIface .nilFunc ⟨false, 0⟩ a 0 b (behAt sh a b)) → w.heap.size ≤ q → ∃ R, (kList sh).Lies w' ⟨1, a, b, c, hh⟩ (fun _ => q) R (init sh hand ⟨1, a, b, c, hh⟩) ∧ ∀ i x, R i = some x → w.heap.size ≤ q from fun w' q hr hq => by
  obtain ⟨Rf, hRf⟩ : ∃ Rf : Nat → Option Row, Rf = fun i => if i = 0 then some ⟨200, 10, lC hand (.func (.func 138) #[.pointer (some ⟨q, 0, none⟩)] #[]) .nilIface .nilFunc ⟨false, 0⟩ a 0 b (behAt sh a b)⟩ else none := ⟨_, rfl⟩
  have r0 : ∀ i x, Rf i = some x → i = 0 ∧ x = ⟨200, 10, lC hand (.func (.func 138) #[.pointer (some ⟨q, 0, none⟩)] #[]) .nilIface .nilFunc ⟨false, 0⟩ a 0 b (behAt sh a b)⟩ := by
   intro i x e
   rw [hRf] at e
   dsimp only at e
   split at e
   ·next h => cases e; exact ⟨h, rfl⟩
   ·cases e
  have ei : init sh hand ⟨1, a, b, c, hh⟩ = ⟨⟨true, sh, hand, a, 0, b, 0⟩, .on .meet, ⟨false, 0⟩⟩ := by unfold init; rw [if_pos rfl]
  have hf : W.form (init sh hand ⟨1, a, b, c, hh⟩) (fun _ => q) Rf := by
   rw [ei]
   refine ⟨_, .nilIface, .nilFunc, ?_, rfl, fun i hi => by rw [hRf]; dsimp only; rw [if_neg (by omega)]⟩
   rw [row_lay (o := ⟨true, sh, hand, a, 0, b, 0⟩) rfl, hRf]
   rfl
  exact ⟨Rf, ⟨hf, fun i x e => by obtain ⟨_, rfl⟩ := r0 i x e; exact hr, fun i i' x x' e e' _ => by rw [(r0 i x e).1, (r0 i' x' e').1]⟩, fun i x e => hq⟩)
 obtain ⟨s0, s1, s2, s3, s4, s5⟩ := sh
 simp only [Shp.val] at BH ⊢
 generalize behAt ⟨s0, s1, s2, s3, s4, s5⟩ a b = bh at BH FIN
 go_enter Tryz.func122, Tryz.ntmps122
 have rs : ∀ (a : Addr) (F : FuncId) (x y : Array Value) (w1 : World), (store a (.func (.func F) x y)).run Tryz.prog w1 = stored Tryz.prog w1 a (.func (.func F) x y) .plain := fun a F x y w1 => run_store Tryz.prog w1 _ _ _ rfl
 go_wp2_with (go_at_call 114; refine (BH.out _).mono ?_; rintro e w1 ⟨rfl, b1⟩; have B1 := hide b1; clear b1)
 obtain ⟨W1, hW1⟩ : ∃ W1, w1.alloc (.cells #[.int .i64 0, .nilFunc, .nilIface, .nilFunc, .bool false, .int .u64 0, .int .i64 a, .int .u64 0, .int .i64 b, .int .i64 bh] 200) = W1 := ⟨_, rfl⟩
 have RW := hide (show W1.rowIs w1.heap.size 200 10 (lC 0 .nilFunc .nilIface .nilFunc ⟨false, 0⟩ a 0 b bh) from by
  rw [← hW1]
  exact rowIs_cells _ _ _ 10 rfl (fun i hi => by
   match i, hi with
   | 0, _ | 1, _ | 2, _ | 3, _ | 4, _ | 5, _ | 6, _ | 7, _ | 8, _ | 9, _ => rfl))
 have s1 := B1.out.size
 simp only [World.size_alloc] at s1
 have BW : Below w.heap.size w W1 := by rw [← hW1]; exact (((Below.refl _ w).alloc (Nat.le_refl _) _).trans (B1.out.mono (by simp))).alloc (by omega) _
 have BWH := hide BW
 rw [hW1]
 clear hW1 BW
 refine (begin_any RW.out (by omega)).mono ?_
 rintro e w2 ⟨rfl, r2, t2⟩
 have RR := hide (show w2.rowIs w1.heap.size 200 10 (lC hand (.func (.func 138) #[.pointer (some ⟨w1.heap.size, 0, none⟩)] #[]) .nilIface .nilFunc ⟨false, 0⟩ a 0 b bh) from r2.congr (fun i hi => by
  match i, hi with
  | 0, _ | 1, _ | 2, _ | 3, _ | 4, _ | 5, _ | 6, _ | 7, _ | 8, _ | 9, _ => rfl))
 have B2 := hide (BWH.out.trans (t2.below (B := w.heap.size) (fun k hk => by subst hk; omega) BWH.out.size))
 clear r2 t2
 go_wp2_with fail
 go_ret
 obtain ⟨R, hR, hN⟩ := FIN.out w2 w1.heap.size RR.out (by omega)
 exact ⟨fun _ => w1.heap.size, R, rfl, hR, hN, below_grown B2.out none⟩
end Ls
end
section
set_option linter.unusedSectionVars false
namespace Hp
def alongC (b : Nat) (C : Nat → Value) (tid : TypeId) (fb : FuncId) (p : Nat) : Nat → Value := fun k => if k = 1 then .func (.func 93) #[.pointer (some ⟨b, 0, none⟩)] #[] else if k = 3 then .func (.func fb) #[.pointer (some ⟨b, 0, none⟩)] #[] else if k = 2 then .iface tid (.pointer (some ⟨p, 0, none⟩)) else C k
structure GS (b T nc : Nat) (C : Nat → Value) (bm bw m : Nat) (f f' : Nat → Int) (x : Stp) (rb : Nat) (sh : Shp) (hand : Int) (j : Jb) (fb : FuncId) (V : World) (P : (Nat → Value) → Prop) (sH sL sG : Nat) (n : Nat) (s : Nat → Value) (w' : World) : Prop where
 tch : Touch V w' (fun k => k = b ∨ k = bw ∨ k = rb)
 mem : IsMem w' bm bw m (if 1 ≤ n then f' else f)
 put : 1 ≤ n → P s
 hnd : n = 2 → s sH = .int .i64 hand
 row : n ≤ 3 → w'.rowIs b T nc C
 res : n ≤ 4 → w'.rowIs rb 69 6 zcell
 lay : 3 ≤ n → ∃ B R, (n = 3 → s sL = .iface (Ls.tid j) (.pointer (some ⟨B 0, 0, none⟩))) ∧ (Ls.kList sh).Lies w' j B R (Ls.init sh hand j) ∧ (∀ i x, R i = some x → V.heap.size ≤ B i) ∧ (4 ≤ n → w'.rowIs b T nc (alongC b C (Ls.tid j) fb (B 0)))
 go : n = 4 ∨ n = 5 → s sG = .int .i64 0
 sto : 5 ≤ n → w'.rangeAt rb 0 x.cells
 fin : 6 ≤ n → s 5 = .int .i64 0
namespace GS
variable {b T nc : Nat} {C : Nat → Value} {bm bw m : Nat} {f f' : Nat → Int} {x : Stp} {rb : Nat} {sh : Shp} {hand : Int} {j : Jb} {fb : FuncId} {V : World} {P : (Nat → Value) → Prop} {sH sL sG n : Nat} {s s' : Nat → Value} {w' w2 : World}
theorem loc1 {sP : Nat} (hs : ∀ k, k = sP ∨ k = sH ∨ k = sL ∨ k = sG ∨ k = 5 → s k = s' k) {v : Value} (h : GS b T nc C bm bw m f f' x rb sh hand j fb V (fun s => s sP = v) sH sL sG n s w') : GS b T nc C bm bw m f f' x rb sh hand j fb V (fun s => s sP = v) sH sL sG n s' w' :=
 ⟨h.tch, h.mem, fun e => (hs sP (.inl rfl)).symm.trans (h.put e), fun e => by rw [← hs _ (.inr (.inl rfl))]; exact h.hnd e, h.row, h.res, fun e => by obtain ⟨B, R, h1, h2⟩ := h.lay e; exact ⟨B, R, fun e => by rw [← hs _ (.inr (.inr (.inl rfl)))]; exact h1 e, h2⟩, fun e => by rw [← hs _ (.inr (.inr (.inr (.inl rfl))))]; exact h.go e, h.sto, fun e => by rw [← hs _ (.inr (.inr (.inr (.inr rfl))))]; exact h.fin e⟩
theorem any (h : GS b T nc C bm bw m f f' x rb sh hand j fb V P sH sL sG n s w') : ∃ C', w'.rowIs b T nc C' ∧ ∀ i, i ≠ 1 → i ≠ 2 → i ≠ 3 → C' i = C i := by
 by_cases hn : n ≤ 3
 ·exact ⟨C, h.row hn, fun _ _ _ _ => rfl⟩
 ·obtain ⟨B, R, _, _, _, h4⟩ := h.lay (by omega)
  exact ⟨_, h4 (by omega), fun i h1 h2 h3 => by unfold alongC; rw [if_neg h1, if_neg h3, if_neg h2]⟩
theorem cell (h : GS b T nc C bm bw m f f' x rb sh hand j fb V P sH sL sG n s w') {i : Nat} (hi : i < nc) (h1 : i ≠ 1) (h2 : i ≠ 2) (h3 : i ≠ 3) : w'.cell? ⟨b, i, none⟩ = some (C i) := by
 obtain ⟨C', hr, hc⟩ := h.any
 rw [← hc i h1 h2 h3]
 exact hr.cell hi
theorem shape (h : GS b T nc C bm bw m f f' x rb sh hand j fb V P sH sL sG n s w') (hn : 11 < nc) {sh : Shp} (e6 : C 6 = .int .i64 sh.a) (e7 : C 7 = .int .i64 sh.b) (e8 : C 8 = .int .i64 sh.c) (e9 : C 9 = .int .i64 sh.d) (e10 : C 10 = .int .i64 sh.e) (e11 : C 11 = .int .i64 sh.f) :
  w'.rangeAt b 6 [.int .i64 sh.a, .int .i64 sh.b, .int .i64 sh.c, .int .i64 sh.d, .int .i64 sh.e, .int .i64 sh.f] := by
 obtain ⟨C', hr, hc⟩ := h.any
 exact shrowAt (o := 6) (sh := sh) (by omega) ((hc 6 (by omega) (by omega) (by omega)).trans e6) ((hc 7 (by omega) (by omega) (by omega)).trans e7) ((hc 8 (by omega) (by omega) (by omega)).trans e8) ((hc 9 (by omega) (by omega) (by omega)).trans e9) ((hc 10 (by omega) (by omega) (by omega)).trans e10) ((hc 11 (by omega) (by omega) (by omega)).trans e11) hr
theorem var (h : GS b T nc C bm bw m f f' x rb sh hand j fb V P sH sL sG n s w') {q : Nat} (hq : V.rangeAt q 0 x.cells) (hl : q < V.heap.size) (h1 : q ≠ b) (h2 : q ≠ bw) (h3 : q ≠ rb) : w'.rangeAt q 0 x.cells :=
 rangeAt_block hq (h.tch.block q hl (by rintro (e | e | e); exact h1 e; exact h2 e; exact h3 e))
variable (hb : b < V.heap.size) (hbm : bm < V.heap.size) (hbw : bw < V.heap.size) (hrb : rb < V.heap.size) (n1 : b ≠ bm) (n2 : b ≠ bw) (n3 : rb ≠ b) (n4 : rb ≠ bm) (n5 : rb ≠ bw)
include hb hbm hbw hrb n1 n2 n3 n4 n5
theorem start (hr : V.rowIs b T nc C) (hm : IsMem V bm bw m f) (hz : V.rowIs rb 69 6 zcell) : GS b T nc C bm bw m f f' x rb sh hand j fb V P sH sL sG 0 s { V with drawn := V.drawn + 1 } :=
 ⟨(Touch.refl V _).drew, hm.drew, fun e => absurd e (by omega), fun e => absurd e (by omega), fun _ => hr.drew, fun _ => hz.drew, fun e => absurd e (by omega), fun e => absurd e (by omega), fun e => absurd e (by omega), fun e => absurd e (by omega)⟩
theorem start1 (hr : V.rowIs b T nc C) (hm : IsMem V bm bw m f') (hz : V.rowIs rb 69 6 zcell) (hp : P s) : GS b T nc C bm bw m f f' x rb sh hand j fb V P sH sL sG 1 s { V with drawn := V.drawn + 1 } :=
 ⟨(Touch.refl V _).drew, hm.drew, fun _ => hp, fun e => absurd e (by omega), fun _ => hr.drew, fun _ => hz.drew, fun e => absurd e (by omega), fun e => absurd e (by omega), fun e => absurd e (by omega), fun e => absurd e (by omega)⟩
theorem act (h : GS b T nc C bm bw m f f' x rb sh hand j fb V P sH sL sG 0 s w') (hr : w2.rowIs b T nc C) (hm : IsMem w2 bm bw m f') (ht : Touch w' w2 (fun k => k = b ∨ k = bw)) (hp : P s') : GS b T nc C bm bw m f f' x rb sh hand j fb V P sH sL sG 1 s' w2 :=
 ⟨h.tch.trans' ht (fun i _ e => e.elim .inl (fun e => .inr (.inl e))), hm, fun _ => hp, fun e => absurd e (by omega), fun _ => hr, fun _ => (h.res (by omega)).of_block (ht.block rb (by have := h.tch.size; omega) (by rintro (e | e); exact n3 e; exact n5 e)), fun e => absurd e (by omega), fun e => absurd e (by omega), fun e => absurd e (by omega), fun e => absurd e (by omega)⟩
theorem hand_ (h : GS b T nc C bm bw m f f' x rb sh hand j fb V P sH sL sG 1 s w') (hp : P s') (hs : s' sH = .int .i64 hand) : GS b T nc C bm bw m f f' x rb sh hand j fb V P sH sL sG 2 s' w' :=
 ⟨h.tch, h.mem, fun _ => hp, fun _ => hs, fun _ => h.row (by omega), fun _ => h.res (by omega), fun e => absurd e (by omega), fun e => absurd e (by omega), fun e => absurd e (by omega), fun e => absurd e (by omega)⟩
theorem lay_ (h : GS b T nc C bm bw m f f' x rb sh hand j fb V P sH sL sG 2 s w') {B : Nat → Nat} {R : Nat → Option Row} (hg : w'.grownBy w2 none) (hL : (Ls.kList sh).Lies w2 j B R (Ls.init sh hand j)) (hN : ∀ i x, R i = some x → w'.heap.size ≤ B i) (hp : P s') (hs : s' sL = .iface (Ls.tid j) (.pointer (some ⟨B 0, 0, none⟩))) : GS b T nc C bm bw m f f' x rb sh hand j fb V P sH sL sG 3 s' w2 := by
 have hz := h.tch.size
 have tt := Touch.of_grown_none hg (fun _ => False)
 exact ⟨h.tch.trans' tt (fun i _ e => e.elim), isMem_touch h.mem tt id id, fun _ => hp, fun e => absurd e (by omega), fun _ => (h.row (by omega)).of_block (tt.block b (by omega) id), fun _ => (h.res (by omega)).of_block (tt.block rb (by omega) id), fun _ => ⟨B, R, fun _ => hs, hL, fun i x e => by have := hN i x e; omega, fun e => absurd e (by omega)⟩, fun e => absurd e (by omega), fun e => absurd e (by omega), fun e => absurd e (by omega)⟩
theorem go_ (h : GS b T nc C bm bw m f f' x rb sh hand j fb V P sH sL sG 3 s w') {B : Nat → Nat} {R : Nat → Option Row} (hL : (Ls.kList sh).Lies w' j B R (Ls.init sh hand j)) (hN : ∀ i x, R i = some x → V.heap.size ≤ B i) (hr : w2.rowIs b T nc (alongC b C (Ls.tid j) fb (B 0))) (ht : Touch w' w2 (fun k => k = b)) (hp : P s') (hs : s' sG = .int .i64 0) : GS b T nc C bm bw m f f' x rb sh hand j fb V P sH sL sG 4 s' w2 := by
 have hz := h.tch.size
 exact ⟨h.tch.trans' ht (fun i _ e => .inl e), isMem_touch h.mem ht (fun e => n1 e.symm) (fun e => n2 e.symm), fun _ => hp, fun e => absurd e (by omega), fun e => absurd e (by omega), fun _ => (h.res (by omega)).of_block (ht.block rb (by omega) n3), fun _ => ⟨B, R, fun e => absurd e (by omega), hL.touch ht (fun i x e e' => by have := hN i x e; omega), hN, fun _ => hr⟩, fun _ => hs, fun e => absurd e (by omega), fun e => absurd e (by omega)⟩
theorem thr (h : GS b T nc C bm bw m f f' x rb sh hand j fb V P sH sL sG 4 s w') : w'.there rb 0 x.cells.length := there_row (h.res (by omega)) (by simp [Stp.cells])
theorem sto_ (h : GS b T nc C bm bw m f f' x rb sh hand j fb V P sH sL sG 4 s w') : GS b T nc C bm bw m f f' x rb sh hand j fb V P sH sL sG 5 s (w'.setCells rb 0 x.cells) := by
 have hz := h.tch.size
 have tt := touch_setCells rb x.cells 0 w'
 obtain ⟨B, R, _, hL, hN, hr⟩ := h.lay (by omega)
 exact ⟨h.tch.trans' tt (fun i _ e => .inr (.inr e)), isMem_touch h.mem tt (fun e => n4 e.symm) (fun e => n5 e.symm), fun _ => h.put (by omega), fun e => absurd e (by omega), fun e => absurd e (by omega), fun e => absurd e (by omega), fun _ => ⟨B, R, fun e => absurd e (by omega), hL.touch tt (fun i x e e' => by have := hN i x e; omega), hN, fun _ => (hr (by omega)).of_block (tt.block b (by omega) (fun e => n3 e.symm))⟩, fun _ => h.go (.inl rfl), fun _ => World.rangeAt_setCells_same w' rb 0 x.cells (h.thr hb hbm hbw hrb n1 n2 n3 n4 n5), fun e => absurd e (by omega)⟩
omit hb hbm hbw hrb n1 n2 n3 n4 n5 in
theorem fin_ (h : GS b T nc C bm bw m f f' x rb sh hand j fb V P sH sL sG 5 s w') (hp : P s') (hs : s' 5 = .int .i64 0) : GS b T nc C bm bw m f f' x rb sh hand j fb V P sH sL sG 6 s' w' :=
 ⟨h.tch, h.mem, fun _ => hp, fun e => absurd e (by omega), fun e => absurd e (by omega), fun e => absurd e (by omega), fun e => by obtain ⟨B, R, _, hL⟩ := h.lay (by omega); exact ⟨B, R, fun e => absurd e (by omega), hL.1, hL.2.1, fun _ => hL.2.2 (by omega)⟩, fun e => absurd e (by omega), fun _ => h.sto (by omega), fun _ => hs⟩
end GS
theorem hand_any {w : World} {b : Nat} {hand : Int} (c0 : w.cell? ⟨b, 0, none⟩ = some (.int .i64 hand)) (hl : b < w.heap.size) : Calls Tryz.prog 123 #[.pointer (some ⟨b, 0, none⟩)] w fun e w' => e = .returned (.int .i64 hand) ∧ w' = w := by
 go_enter Tryz.func123, Tryz.ntmps123
 go_wp2
 go_ret
 exact ⟨rfl, rfl⟩
theorem ex_addu {ev : Operand → Value} {o : Oper} {w : World} {x y : Operand} {v z : Int} (ho : o.op = .binOp .add 50 x y 50) (hx : ev x = .int .u64 v) (hy : ev y = .int .u64 1) (hz : IntKind.u64.wrap (v + 1) = z) : (execOp ev o).run Tryz.prog w = .ok (.value (.int .u64 z)) w := by
 simp [execOp, ho, hx, hy, go_sem, hz]
end Hp
end
section
namespace Rom
open Hp
theorem leave_next {w : World} {b bm bw n : Nat} {f f' : Nat → Int} {x : Stp} {sh : Shp} {hand : Int} {fn v2 v3 : Value} {t : Ans} {ix sl gn : Int} (h_ : w.rowIs b 103 15 (gC sh hand fn v2 v3 t ix sl gn)) (hm : IsMem w bm bw n f) (h1 : b ≠ bm) (h2 : b ≠ bw) (h5 : Shape.R5 sh.a sh.b sh.c sh.d sh.e) (hn : 0 ≤ gn ∧ gn ≤ 4294967295) (hq : ¬ gn = 4294967295)
  (hx : stepOf n f ⟨hand, 2, headAt sh ix, 0, hd 0 (gn + 1), true⟩ = x) (hf' : wordsOf n f ⟨hand, 2, headAt sh ix, 0, hd 0 (gn + 1), true⟩ = f') :
  Calls Tryz.prog 103 #[.pointer (some ⟨b, 0, none⟩), .pointer (some ⟨bm, 0, none⟩)] w fun e w' => e = .returned (.tuple #[x.val, .int .i64 0]) ∧
   ∃ B R, w'.rowIs b 103 15 (alongC b (gC sh hand fn v2 v3 t ix sl gn) (Ls.tid (lj ix)) 124 (B 0)) ∧ (Ls.kList sh).Lies w' (lj ix) B R (Ls.init sh hand (lj ix)) ∧ (∀ i x, R i = some x → w.heap.size ≤ B i) ∧ IsMem w' bm bw n f' ∧ Touch w w' (fun k => k = b ∨ k = bw) := by
 have hl := h_.lt
 have lw := hm.row.lt
 have lm := hm.head.lt
 have hn3 : w.heap.size ≠ b := by omega
 have hn4 : w.heap.size ≠ bw := by omega
 have hn5 : w.heap.size ≠ bm := by omega
 obtain ⟨W1, hW1⟩ : ∃ W1, w.alloc (.cells #[.int .i64 0, .int .i64 0, .int .i64 0, .int .u64 0, .int .u64 0, .bool false] 69) = W1 := ⟨_, rfl⟩
 have R := hide (show W1.rowIs b 103 15 (gC sh hand fn v2 v3 t ix sl gn) from by rw [← hW1]; exact h_.alloc _)
 have M := hide (show IsMem W1 bm bw n f from by rw [← hW1]; exact hm.alloc _)
 have RZ := hide (show W1.rowIs w.heap.size 69 6 zcell from by rw [← hW1]; exact row0 w)
 have T0 := hide (show Touch w W1 (fun k => k = b ∨ k = bw) from by rw [← hW1]; exact (Touch.refl w _).alloc _)
 have sz : W1.heap.size = w.heap.size + 1 := by rw [← hW1]; simp
 have lW1 : b < W1.heap.size := by omega
 obtain ⟨⟨e0, ef0⟩, ⟨e1, ef1⟩, ⟨e2, ef2⟩, ⟨e3, ef3⟩, ⟨e4, ef4⟩, ⟨e5, ef5⟩, ⟨e6, ef6⟩, ⟨e7, ef7⟩, ⟨e8, ef8⟩, ⟨e9, ef9⟩, ⟨e10, ef10⟩, ⟨e11, ef11⟩, ⟨e12, ef12⟩, ⟨e13, ef13⟩, e14, ef14⟩ := g_facts R.out
 obtain ⟨dS, hdS1, hdS2⟩ := row46
 have HD := hide (And.intro hdS1 hdS2)
 obtain ⟨dG, hdG1, hdG2⟩ := rowSh
 have HDS := hide (And.intro hdG1 hdG2)
 have HX := hide hx
 have HF := hide hf'
 have HW : Hid (0 ≤ (⟨hand, 2, headAt sh ix, 0, hd 0 (gn + 1), true⟩ : Stp).put ∧ (⟨hand, 2, headAt sh ix, 0, hd 0 (gn + 1), true⟩ : Stp).put ≤ 18446744073709551615) := ⟨hd_lo _ _, by have := hd_hi 0 (gn + 1); show hd 0 (gn + 1) ≤ _; omega⟩
 have H5 := hide h5
 have G1 := hide (show IntKind.u64.wrap (gn + 1) = gn + 1 from by rw [IntKind.wrap_u64]; omega)
 have hq2 : (gn == 4294967295) = false := by simpa using hq
 clear hm h_ hx hf' hdS1 hdS2 hdG1 hdG2 h5 hn
 go_enter Tryz.func103, Tryz.ntmps103
 go_wp2_with fail
 clear hW1 e0 ef0 e1 ef1 e2 ef2 e3 ef3 e4 ef4 e5 ef5 e6 ef6 e7 ef7 e8 ef8 e9 ef9 e10 ef10 e11 ef11 e12 ef12 e13 ef13 e14 ef14
 clear hq hq2
 have RW1 := R
 have MW1 := M
 have QW1 := RZ
 have TW1 := T0
 have lb0 : b < W1.heap.size := by omega
 have lbm : bm < W1.heap.size := by omega
 have lbw : bw < W1.heap.size := by omega
 have lrb : w.heap.size < W1.heap.size := by omega
 refine LtH.region2 (ks := [(0, 20), (1, 21), (2, 22), (3, 23), (4, 24), (5, 25), (6, 26), (8, 28), (9, 29), (10, 30), (11, 31), (12, 32), (13, 33), (14, 34), (15, 35), (16, 36), (17, 37), (19, 39), (20, 40), (21, 41), (22, 42), (24, 44), (25, 45)]) (vals := fun iv => match iv with | 0 => .pointer (some ⟨b, 0, none⟩) | 1 => .pointer (some ⟨bm, 0, none⟩) | 2 => .pointer (some ⟨b, 0, none⟩) | 3 => .pointer (some ⟨b, 0, none⟩) | 4 => .pointer (some ⟨b, 14, none⟩) | 5 => .int .u64 gn | 6 => .int .u64 (gn + 1) | 8 => .pointer (some ⟨b, 0, none⟩) | 9 => .pointer (some ⟨b, 0, none⟩) | 10 => .pointer (some ⟨b, 0, none⟩) | 11 => .pointer (some ⟨b, 0, none⟩) | 12 => .pointer (some ⟨b, 0, none⟩) | 13 => .pointer (some ⟨b, 6, none⟩) | 14 => sh.val | 15 => .pointer (some ⟨b, 0, none⟩) | 16 => .pointer (some ⟨b, 0, none⟩) | 17 => .pointer (some ⟨b, 0, none⟩) | 19 => .pointer (some ⟨b, 0, none⟩) | 20 => .pointer (some ⟨b, 0, none⟩) | 21 => .pointer (some ⟨b, 12, none⟩) | 22 => .int .i64 ix | 24 => .pointer (some ⟨b, 0, none⟩) | 25 => .func (.func 124) #[.pointer (some ⟨b, 0, none⟩)] #[] | _ => undef)
  (xs := [27, 38, 43, 46, 5]) (WI := LtE.WI [7, 18, 23, 26, 27, 28] [] (GS b 103 15 (gC sh hand fn v2 v3 t ix sl gn) bm bw n f f' x w.heap.size sh hand (lj ix) 124 W1 (fun s => s 27 = x.val) 38 43 46)) (by kernel_rfl) ?Agd ?Abk rfl ?Add ?Axx ?Alc ?Ast ?Ado ?Afi
 case Agd =>
  intro iq oq ho
  have hiq : iq < 29 := by have := (Array.getElem?_eq_some_iff.1 ho).1; simpa using this
  match iq, hiq with
  | 0, _ | 1, _ | 2, _ | 3, _ | 4, _ | 5, _ | 6, _ | 7, _ | 8, _ | 9, _ | 10, _ | 11, _ | 12, _ | 13, _ | 14, _ | 15, _ | 16, _ | 17, _ | 18, _ | 19, _ | 20, _ | 21, _ | 22, _ | 23, _ | 24, _ | 25, _ | 26, _ | 27, _ | 28, _ => injection ho with ho; subst ho; rfl
 case Abk =>
  intro iq oq ho
  have hiq : iq < 29 := by have := (Array.getElem?_eq_some_iff.1 ho).1; simpa using this
  match iq, hiq with
  | 0, _ | 1, _ | 2, _ | 3, _ | 4, _ | 5, _ | 6, _ | 7, _ | 8, _ | 9, _ | 10, _ | 11, _ | 12, _ | 13, _ | 14, _ | 15, _ | 16, _ | 17, _ | 18, _ | 19, _ | 20, _ | 21, _ | 22, _ | 23, _ | 24, _ | 25, _ | 26, _ | 27, _ | 28, _ => injection ho with ho; subst ho; simp [Region.binds]
 case Add =>
  intro kq hk
  have hk2 : kq < 47 := by
   simp [Lt.D] at hk
   omega
  exact hk2
 case Axx =>
  intro kq hk
  have hk2 : kq < 47 := by
   simp at hk
   omega
  exact hk2
 case Alc =>
  rintro L s1 s2 w1' hx ⟨⟨n1, h1', h2', h3⟩, h4⟩
  exact ⟨⟨n1, h1', h2', GS.loc1 (fun k hk => hx k (by rcases hk with rfl | rfl | rfl | rfl | rfl <;> rfl)) h3⟩, h4⟩
 case Ast => exact LtE.WI.start (GS.start lb0 lbm lbw lrb h1 h2 hn3 hn5 hn4 RW1.out MW1.out QW1.out)
 case Ado =>
  intro iq oq ho
  have hiq : iq < 29 := by have := (Array.getElem?_eq_some_iff.1 ho).1; simpa using this
  match iq, hiq with
  | 0, _ => injection ho with ho; subst ho; exact LtE.read rfl rfl rfl (fun L a w' hI hL hq => Lt.ex_move rfl (hI.fix 0 (Lt.notD rfl) rfl))
  | 1, _ => injection ho with ho; subst ho; exact LtE.read rfl rfl rfl (fun L a w' hI hL hq => Lt.ex_move rfl (hI.fix 1 (Lt.notD rfl) rfl))
  | 2, _ => injection ho with ho; subst ho; exact LtE.read rfl rfl rfl (fun L a w' hI hL hq => Lt.ex_move rfl (hI.fix 0 (Lt.notD rfl) rfl))
  | 3, _ => injection ho with ho; subst ho; exact LtE.read rfl rfl rfl (fun L a w' hI hL hq => ex_nilc rfl (hI.pure 2 _ _ rfl (hq ⟨2, .data⟩ (by simp) rfl)))
  | 4, _ => injection ho with ho; subst ho; exact LtE.read rfl rfl rfl (fun L a w' hI hL hq => Lt.ex_field rfl (hI.pure 3 _ _ rfl (hq ⟨3, .data⟩ (by simp) rfl)) (fieldG4 w' b))
  | 5, _ => injection ho with ho; subst ho; exact LtE.read rfl rfl rfl (fun L a w' hI hL hq => Lt.ex_load rfl (hI.pure 4 _ _ rfl (hq ⟨4, .data⟩ (by simp) rfl)) (by simp [go_sem]) (by obtain ⟨n1, hn1⟩ := hI.world.any; exact hn1.cell (i := 14) (by omega) (by omega) (by omega) (by omega)))
  | 6, _ => injection ho with ho; subst ho; exact LtE.read rfl rfl rfl (fun L a w' hI hL hq => Hp.ex_addu rfl (hI.pure 5 _ _ rfl (hq ⟨5, .data⟩ (by simp) rfl)) rfl G1.out)
  | 7, _ => injection ho with ho; subst ho; exact LtE.call (m := 0) (args := fun s => #[.pointer (some ⟨b, 0, none⟩), .pointer (some ⟨bm, 0, none⟩), .int .u64 (gn + 1)]) (by decide) rfl rfl rfl rfl (fun L hq p hp e => by cases hp) (fun L hq m1 j1 e1 _ => absurd e1 (by omega)) (fun L a w' hI hq hS => Lt.call3 rfl (hI.pure 0 _ _ rfl (hq ⟨0, .data⟩ (by simp) rfl)) (hI.pure 1 _ _ rfl (hq ⟨1, .data⟩ (by simp) rfl)) (hI.pure 6 _ _ rfl (hq ⟨6, .data⟩ (by simp) rfl)) rfl (by simp [go_sem])) (fun s w' hS => (put_any (y := gn + 1) H5.out (hS.row (by omega)) hS.mem h1 h2 HX.out HF.out).mono (by rintro e w3 ⟨rfl, r3, m3, t3⟩; exact ⟨_, rfl, GS.act lb0 lbm lbw lrb h1 h2 hn3 hn5 hn4 hS r3 m3 t3 (by simp)⟩))
  | 8, _ => injection ho with ho; subst ho; exact LtE.read rfl rfl rfl (fun L a w' hI hL hq => Lt.ex_move rfl (hI.fix 0 (Lt.notD rfl) rfl))
  | 9, _ => injection ho with ho; subst ho; exact LtE.read rfl rfl rfl (fun L a w' hI hL hq => ex_nilc rfl (hI.pure 8 _ _ rfl (hq ⟨8, .data⟩ (by simp) rfl)))
  | 10, _ => injection ho with ho; subst ho; exact LtE.read rfl rfl rfl (fun L a w' hI hL hq => Lt.ex_field rfl (hI.pure 9 _ _ rfl (hq ⟨9, .data⟩ (by simp) rfl)) (fieldG0 w' b))
  | 11, _ => injection ho with ho; subst ho; exact LtE.read rfl rfl rfl (fun L a w' hI hL hq => Lt.ex_move rfl (hI.fix 0 (Lt.notD rfl) rfl))
  | 12, _ => injection ho with ho; subst ho; exact LtE.read rfl rfl rfl (fun L a w' hI hL hq => ex_nilc rfl (hI.pure 11 _ _ rfl (hq ⟨11, .data⟩ (by simp) rfl)))
  | 13, _ => injection ho with ho; subst ho; exact LtE.read rfl rfl rfl (fun L a w' hI hL hq => Lt.ex_field rfl (hI.pure 12 _ _ rfl (hq ⟨12, .data⟩ (by simp) rfl)) (fieldG1 w' b))
  | 14, _ => injection ho with ho; subst ho; exact LtE.read rfl rfl rfl (fun L a w' hI hL hq => Lt.ex_load_row (cs := [.int .i64 sh.a, .int .i64 sh.b, .int .i64 sh.c, .int .i64 sh.d, .int .i64 sh.e, .int .i64 sh.f]) rfl (hI.pure 13 _ _ rfl (hq ⟨13, .data⟩ (by simp) rfl)) (by obtain ⟨n1, hn1⟩ := hI.world.any; exact hn1.shape (by omega) rfl rfl rfl rfl rfl rfl) (by kernel_rfl) (by kernel_rfl))
  | 15, _ => injection ho with ho; subst ho; exact LtE.read rfl rfl rfl (fun L a w' hI hL hq => Lt.ex_move rfl (hI.fix 0 (Lt.notD rfl) rfl))
  | 16, _ => injection ho with ho; subst ho; exact LtE.read rfl rfl rfl (fun L a w' hI hL hq => ex_nilc rfl (hI.pure 15 _ _ rfl (hq ⟨15, .data⟩ (by simp) rfl)))
  | 17, _ => injection ho with ho; subst ho; exact LtE.read rfl rfl rfl (fun L a w' hI hL hq => Lt.ex_field rfl (hI.pure 16 _ _ rfl (hq ⟨16, .data⟩ (by simp) rfl)) (fieldG0 w' b))
  | 18, _ => injection ho with ho; subst ho; exact LtE.call (m := 1) (args := fun s => #[.pointer (some ⟨b, 0, none⟩)]) (by decide) rfl rfl rfl rfl (fun L hq p hp e => by cases hp) (fun L hq m1 j1 e1 hj => by (cases (show m1 = 0 from (by omega))); cases hj; first | exact hq ⟨7, .chain⟩ (by simp) rfl | exact hq ⟨7, .data⟩ (by simp) rfl | exact hq ⟨7, .call⟩ (by simp) rfl) (fun L a w' hI hq hS => Lt.call1 rfl (hI.pure 17 _ _ rfl (hq ⟨17, .data⟩ (by simp) rfl)) rfl (by simp [go_sem])) (fun s w' hS => (hand_any (hS.cell (i := 0) (by omega) (by omega) (by omega) (by omega)) (by have := hS.tch.size; omega)).mono (by rintro e w3 ⟨rfl, rfl⟩; exact ⟨_, rfl, GS.hand_ lb0 lbm lbw lrb h1 h2 hn3 hn5 hn4 hS (by have := hS.put (by omega); simpa using this) (by simp)⟩))
  | 19, _ => injection ho with ho; subst ho; exact LtE.read rfl rfl rfl (fun L a w' hI hL hq => Lt.ex_move rfl (hI.fix 0 (Lt.notD rfl) rfl))
  | 20, _ => injection ho with ho; subst ho; exact LtE.read rfl rfl rfl (fun L a w' hI hL hq => ex_nilc rfl (hI.pure 19 _ _ rfl (hq ⟨19, .data⟩ (by simp) rfl)))
  | 21, _ => injection ho with ho; subst ho; exact LtE.read rfl rfl rfl (fun L a w' hI hL hq => Lt.ex_field rfl (hI.pure 20 _ _ rfl (hq ⟨20, .data⟩ (by simp) rfl)) (fieldG2 w' b))
  | 22, _ => injection ho with ho; subst ho; exact LtE.read rfl rfl rfl (fun L a w' hI hL hq => Lt.ex_load rfl (hI.pure 21 _ _ rfl (hq ⟨21, .data⟩ (by simp) rfl)) (by simp [go_sem]) (by obtain ⟨n1, hn1⟩ := hI.world.any; exact hn1.cell (i := 12) (by omega) (by omega) (by omega) (by omega)))
  | 23, _ => injection ho with ho; subst ho; exact LtE.call (m := 2) (args := fun s => #[sh.val, s 38, .int .i64 1, .int .i64 ix]) (by decide) rfl rfl rfl rfl (fun L hq p hp e => by cases hp) (fun L hq m1 j1 e1 hj => by (cases (show m1 = 1 from (by omega))); cases hj; first | exact hq ⟨18, .chain⟩ (by simp) rfl | exact hq ⟨18, .data⟩ (by simp) rfl | exact hq ⟨18, .call⟩ (by simp) rfl) (fun L a w' hI hq hS => Lt.call4 rfl (hI.pure 14 _ _ rfl (hq ⟨14, .data⟩ (by simp) rfl)) rfl rfl (hI.pure 22 _ _ rfl (hq ⟨22, .data⟩ (by simp) rfl)) rfl (by simp [go_sem])) (fun s w' hS => (by have e1 := hS.hnd rfl; rw [e1]; exact (Ls.lay_new H5.out hand (lj ix) rfl w').mono (by rintro e w3 ⟨B, R, rfl, hl, hnw, hg⟩; exact ⟨_, rfl, GS.lay_ lb0 lbm lbw lrb h1 h2 hn3 hn5 hn4 hS hg hl hnw (by have := hS.put (by omega); simpa using this) (by simp)⟩)))
  | 24, _ => injection ho with ho; subst ho; exact LtE.read rfl rfl rfl (fun L a w' hI hL hq => Lt.ex_move rfl (hI.fix 0 (Lt.notD rfl) rfl))
  | 25, _ => injection ho with ho; subst ho; exact LtE.read rfl rfl rfl (fun L a w' hI hL hq => ex_func rfl (hI.pure 24 _ _ rfl (hq ⟨24, .data⟩ (by simp) rfl)))
  | 26, _ => injection ho with ho; subst ho; exact LtE.call (m := 3) (args := fun s => #[.pointer (some ⟨b, 0, none⟩), s 43, .func (.func 124) #[.pointer (some ⟨b, 0, none⟩)] #[]]) (by decide) rfl rfl rfl rfl (fun L hq p hp e => by cases hp) (fun L hq m1 j1 e1 hj => by (cases (show m1 = 2 from (by omega))); cases hj; first | exact hq ⟨23, .chain⟩ (by simp) rfl | exact hq ⟨23, .data⟩ (by simp) rfl | exact hq ⟨23, .call⟩ (by simp) rfl) (fun L a w' hI hq hS => Lt.call3 rfl (hI.pure 10 _ _ rfl (hq ⟨10, .data⟩ (by simp) rfl)) rfl (hI.pure 25 _ _ rfl (hq ⟨25, .data⟩ (by simp) rfl)) rfl (by simp [go_sem])) (fun s w' hS => (by obtain ⟨B, R, e1, hl, hnw, _⟩ := hS.lay (by omega); rw [e1 rfl]; exact (goAlong_any (hS.row (by omega)) (by omega)).mono (by rintro e w3 ⟨rfl, r3, t3⟩; exact ⟨_, rfl, GS.go_ lb0 lbm lbw lrb h1 h2 hn3 hn5 hn4 hS hl hnw r3 t3 (by have := hS.put (by omega); simpa using this) (by simp)⟩)))
  | 27, _ => injection ho with ho; subst ho; exact LtE.store (m := 4) (by decide) rfl rfl rfl (fun L hq p hp e => by cases hp) (fun L hq m1 j1 e1 hj => by (cases (show m1 = 3 from (by omega))); cases hj; first | exact hq ⟨26, .chain⟩ (by simp) rfl | exact hq ⟨26, .data⟩ (by simp) rfl | exact hq ⟨26, .call⟩ (by simp) rfl) (fun L a w' Kq hI hq hS hk => wp_store_mid _ _ _ rfl w.heap.size 0 x.cells.toArray (hI.fix 4 (Lt.notD rfl) rfl) (hS.put (by omega)) (by simpa [Stp.cells] using GS.thr lb0 lbm lbw lrb h1 h2 hn3 hn5 hn4 hS) (by kernel_rfl) (by simp [Stp.cells, Value.oneCell']) (hk _ _ (GS.sto_ lb0 lbm lbw lrb h1 h2 hn3 hn5 hn4 hS)))
  | 28, _ => injection ho with ho; subst ho; exact LtE.link (m := 5) (by decide) rfl rfl rfl rfl (fun L hq p hp e => by cases hp) (fun L hq m1 j1 e1 hj => by (cases (show m1 = 4 from (by omega))); cases hj; first | exact hq ⟨27, .chain⟩ (by simp) rfl | exact hq ⟨27, .data⟩ (by simp) rfl | exact hq ⟨27, .call⟩ (by simp) rfl) (fun L a w' Kq hI hq hS hk => Lt.wp_value (Lt.ex_assign rfl (hS.go (.inr rfl))) (hk _ _ (GS.fin_ hS (by have := hS.put (by omega); simpa using this) (by simp))))
 case Afi =>
  intro L a' w' hI hall
  have hd := hI.world.done (fun i hi => hall i (by simp at hi ⊢; omega))
  have e5 : a'.eval (.tmp 5) = .int .i64 0 := hd.fin (by simp)
  have hfr := LtH.frame hI [20, 21, 22, 23, 24, 25, 26, 27, 28, 29, 30, 31, 32, 33, 34, 35, 36, 37, 38, 39, 40, 41, 42, 43, 44, 45, 46, 5] rfl rfl (fun x hx => by simp at hx ⊢; omega)
  obtain ⟨t20, e20⟩ : ∃ t, a'.eval (.tmp 20) = t := ⟨_, rfl⟩
  obtain ⟨t21, e21⟩ : ∃ t, a'.eval (.tmp 21) = t := ⟨_, rfl⟩
  obtain ⟨t22, e22⟩ : ∃ t, a'.eval (.tmp 22) = t := ⟨_, rfl⟩
  obtain ⟨t23, e23⟩ : ∃ t, a'.eval (.tmp 23) = t := ⟨_, rfl⟩
  obtain ⟨t24, e24⟩ : ∃ t, a'.eval (.tmp 24) = t := ⟨_, rfl⟩
  obtain ⟨t25, e25⟩ : ∃ t, a'.eval (.tmp 25) = t := ⟨_, rfl⟩
  obtain ⟨t26, e26⟩ : ∃ t, a'.eval (.tmp 26) = t := ⟨_, rfl⟩
  obtain ⟨t27, e27⟩ : ∃ t, a'.eval (.tmp 27) = t := ⟨_, rfl⟩
  obtain ⟨t28, e28⟩ : ∃ t, a'.eval (.tmp 28) = t := ⟨_, rfl⟩
  obtain ⟨t29, e29⟩ : ∃ t, a'.eval (.tmp 29) = t := ⟨_, rfl⟩
  obtain ⟨t30, e30⟩ : ∃ t, a'.eval (.tmp 30) = t := ⟨_, rfl⟩
  obtain ⟨t31, e31⟩ : ∃ t, a'.eval (.tmp 31) = t := ⟨_, rfl⟩
  obtain ⟨t32, e32⟩ : ∃ t, a'.eval (.tmp 32) = t := ⟨_, rfl⟩
  obtain ⟨t33, e33⟩ : ∃ t, a'.eval (.tmp 33) = t := ⟨_, rfl⟩
  obtain ⟨t34, e34⟩ : ∃ t, a'.eval (.tmp 34) = t := ⟨_, rfl⟩
  obtain ⟨t35, e35⟩ : ∃ t, a'.eval (.tmp 35) = t := ⟨_, rfl⟩
  obtain ⟨t36, e36⟩ : ∃ t, a'.eval (.tmp 36) = t := ⟨_, rfl⟩
  obtain ⟨t37, e37⟩ : ∃ t, a'.eval (.tmp 37) = t := ⟨_, rfl⟩
  obtain ⟨t38, e38⟩ : ∃ t, a'.eval (.tmp 38) = t := ⟨_, rfl⟩
  obtain ⟨t39, e39⟩ : ∃ t, a'.eval (.tmp 39) = t := ⟨_, rfl⟩
  obtain ⟨t40, e40⟩ : ∃ t, a'.eval (.tmp 40) = t := ⟨_, rfl⟩
  obtain ⟨t41, e41⟩ : ∃ t, a'.eval (.tmp 41) = t := ⟨_, rfl⟩
  obtain ⟨t42, e42⟩ : ∃ t, a'.eval (.tmp 42) = t := ⟨_, rfl⟩
  obtain ⟨t43, e43⟩ : ∃ t, a'.eval (.tmp 43) = t := ⟨_, rfl⟩
  obtain ⟨t44, e44⟩ : ∃ t, a'.eval (.tmp 44) = t := ⟨_, rfl⟩
  obtain ⟨t45, e45⟩ : ∃ t, a'.eval (.tmp 45) = t := ⟨_, rfl⟩
  obtain ⟨t46, e46⟩ : ∃ t, a'.eval (.tmp 46) = t := ⟨_, rfl⟩
  rw [hfr]
  simp only [LtH.lay, List.foldl, e20, e21, e22, e23, e24, e25, e26, e27, e28, e29, e30, e31, e32, e33, e34, e35, e36, e37, e38, e39, e40, e41, e42, e43, e44, e45, e46, e5]
  have HDN := hide (And.intro hd.tch (And.intro hd.mem (hd.lay (by simp))))
  obtain ⟨c0, c1, c2, c3, c4, c5⟩ := stp6 (hd.sto (by simp))
  clear hfr hI hall hd e20 e21 e22 e23 e24 e25 e26 e27 e28 e29 e30 e31 e32 e33 e34 e35 e36 e37 e38 e39 e40 e41 e42 e43 e44 e45 e46 e5
  simp only [Act.put, List.setIfInBounds_toArray, List.set_cons_succ, List.set_cons_zero]
  go_wp2_with fail
  refine bodyPost_ret (v := .tuple #[x.val, .int .i64 0]) ?res rfl ⟨rfl, ?pst⟩
  case res => simp [results, Tryz.results103, go_sem, Stp.val, *]
  case pst =>
   obtain ⟨t, mm, B, R, _, hl, hnw, hr⟩ := HDN.out
   exact ⟨B, R, hr (by simp), hl, fun i x e => by have := hnw i x e; omega, by simpa using mm, TW1.out.trans' t (fun k hk h => by rcases h with h | h | h; exact .inl h; exact .inr h; omega)⟩
theorem drawn_no {w : World} {b : Nat} {v : Int} (hl : b < w.heap.size) : Calls Tryz.prog 35 #[.pointer (some ⟨b, 0, none⟩), .agg #[.bool false, .int .u64 v]] w fun e w' => e = .returned (.int .i64 1) ∧ Below w.heap.size w w' := by
 have RF := hide (fun w1 : World => refuse_any (.pointer (some ⟨b, 0, none⟩)) w1)
 have BB := hide ((Below.refl w.heap.size w).alloc (Nat.le_refl _) (.cells #[.bool false, .int .u64 v] 56))
 go_enter Tryz.func35, Tryz.ntmps35
 go_wp2_with (go_at_call 64; refine (RF.out _).mono ?_; rintro e wq ⟨rfl, hwq⟩; obtain rfl := hwq.symm)
 go_ret
 exact ⟨rfl, BB.out⟩
theorem drawn_yes {w : World} {b : Nat} {sh : Shp} {hand : Int} {fn v2 v3 : Value} {t : Ans} {fl : Bool} {c ix gn v : Int} (h_ : w.rowIs b 99 16 (mC sh hand fn v2 v3 t fl c ix gn)) (hv : 0 ≤ v ∧ v ≤ 9223372036854775807) :
  Calls Tryz.prog 35 #[.pointer (some ⟨b, 0, none⟩), .agg #[.bool true, .int .u64 v]] w fun e w' => e = .returned (.int .i64 0) ∧
   w'.rowIs b 99 16 (mC sh hand (.func (.func 66) #[.pointer (some ⟨b, 0, none⟩)] #[]) v2 v3 t fl c v gn) ∧ Touch w w' (fun k => k = b) := by
 have hl := h_.lt
 have g1 : wrap64 v = v := by unfold wrap64; omega
 have c14 := h_.cell (i := 14) (by omega)
 have f14 := h_.frozen 14
 have GO := hide (fun (w1 : World) (C : Nat → Value) (h1 : w1.rowIs b 99 16 C) => goOn_any 66 h1 (by omega))
 have R1 := hide ((h_.set 14 (.int .i64 v)).alloc (.cells #[.bool true, .int .u64 v] 56))
 have T1 := hide (((Touch.refl w (fun k => k = b)).setCell ⟨b, 14, none⟩ (.inl rfl) (.int .i64 v)).alloc (.cells #[.bool true, .int .u64 v] 56))
 clear h_ hv
 go_enter Tryz.func35, Tryz.ntmps35
 go_wp2_with fail
 refine (GO.out _ _ R1.out).mono ?_
 rintro e w1 ⟨rfl, r1, t1⟩
 have R2 := hide r1
 have T2 := hide t1
 clear r1 t1
 go_wp2_with fail
 go_ret
 refine ⟨rfl, R2.out.congr (fun i hi => ?_), T1.out.trans T2.out⟩
 match i, hi with
 | 0, _ | 1, _ | 2, _ | 3, _ | 4, _ | 5, _ | 6, _ | 7, _ | 8, _ | 9, _ | 10, _ | 11, _ | 12, _ | 13, _ | 14, _ | 15, _ => rfl
 | k + 16, hk => exact absurd hk (by omega)
theorem laid_any {w : World} {b : Nat} {sh : Shp} {hand : Int} {fn v2 v3 : Value} {t u : Ans} {ix sl gn : Int} (h_ : w.rowIs b 103 15 (gC sh hand fn v2 v3 t ix sl gn)) :
  Calls Tryz.prog 124 #[.pointer (some ⟨b, 0, none⟩), u.value] w fun e w' => e = .returned (.int .i64 0) ∧
   w'.rowIs b 103 15 (gC sh hand (.func (.func 121) #[.pointer (some ⟨b, 0, none⟩)] #[]) v2 v3 t ix sl gn) ∧ Touch w w' (fun k => k = b) := by
 have hl := h_.lt
 have R1 := hide (h_.alloc (.cells #[.bool u.ok, .int .u64 u.val] 56))
 have T1 := hide ((Touch.refl w (fun k => k = b)).alloc (.cells #[.bool u.ok, .int .u64 u.val] 56))
 obtain ⟨uo, uv⟩ := u
 simp only [Ans.value] at R1 T1 ⊢
 clear h_
 go_enter Tryz.func124, Tryz.ntmps124
 go_wp2_with fail
 refine (goOn_any 121 R1.out (by omega)).mono ?_
 rintro e w1 ⟨rfl, r1, t1⟩
 have R2 := hide r1
 have T2 := hide t1
 clear r1 t1
 go_wp2_with fail
 go_ret
 refine ⟨rfl, R2.out.congr (fun i hi => ?_), T1.out.trans T2.out⟩
 match i, hi with
 | 0, _ | 1, _ | 2, _ | 3, _ | 4, _ | 5, _ | 6, _ | 7, _ | 8, _ | 9, _ | 10, _ | 11, _ | 12, _ | 13, _ | 14, _ => rfl
end Rom
end
section
namespace Hp
theorem flat_post {L L' : Form} {w w' : World} {B : Nat → Nat} {R : Nat → Option Row} {S : Nat → Prop} {x0 x1 : Row} (H : Lay L w B R) (e0 : R 0 = some x0) (hr : w'.rowIs (B 0) x1.t x1.n x1.f) (T : Touch w w' (fun k => k = B 0 ∨ S k))
  (hL : L' B (fun i => if i = 0 then some x1 else none)) : Post L' w B R w' B (fun i => if i = 0 then some x1 else none) S := by
 refine ⟨rfl, ⟨hL, fun i x e => ?_, fun i i' x x' e e' _ => ?_⟩, fun i x e => ?_, T.mono (fun k _ h => h.elim (fun h => .inr ⟨0, _, e0, h⟩) .inl)⟩
 ·split at e
  ·next h => cases e; rw [h]; exact hr
  ·cases e
 ·split at e
  ·split at e'
   ·next h h' => rw [h, h']
   ·cases e'
  ·cases e
 ·split at e
  ·next h => rw [h]; exact .inl ⟨0, _, e0, rfl⟩
  ·cases e
theorem join0 {α : Type} (f g : Nat → α) : join 0 f g 0 = f 0 := rfl
theorem join1 {α : Type} (f g : Nat → α) (i : Nat) : join 0 f g (i + 1) = g i := by
 unfold join
 rw [if_neg (by omega)]
 congr 1
theorem part_post {KP : Kd} {L L' : Form} {w w' : World} {B B2 : Nat → Nat} {R R2 : Nat → Option Row} {S : Nat → Prop} {x0 x1 : Row} {pj : Jb} {ps : KP.σ} (H : Lay L w B R) (e0 : R 0 = some x0) (hr : w'.rowIs (B 0) x1.t x1.n x1.f) (T : Touch w w' (fun k => k = B 0 ∨ S k))
  (hp : KP.Lies w' pj B2 R2 ps) (hn : ∀ i x, R2 i = some x → w.heap.size ≤ B2 i) (hL : L' (join 0 B B2) (join 0 (fun _ => some x1) R2)) : Post L' w B R w' (join 0 B B2) (join 0 (fun _ => some x1) R2) S := by
 have hl := H.lt e0
 refine ⟨rfl, ⟨hL, fun i x e => ?_, fun i i' x x' e e' he => ?_⟩, fun i x e => ?_, T.mono (fun k _ h => h.elim (fun h => .inr ⟨0, _, e0, h⟩) .inl)⟩
 ·cases i with
  | zero => cases e; exact hr
  | succ i => rw [join1] at e ⊢; exact hp.row i x e
 ·cases i with
  | zero =>
   cases i' with
   | zero => rfl
   | succ i' =>
    rw [join1] at e' he
    rw [join0] at he
    have := hn i' x' e'
    omega
  | succ i =>
   cases i' with
   | zero =>
    rw [join1] at e he
    rw [join0] at he
    have := hn i x e
    omega
   | succ i' =>
    rw [join1] at e e' he
    rw [join1] at he
    rw [hp.inj i i' x x' e e' he]
 ·cases i with
  | zero => exact .inl ⟨0, _, e0, rfl⟩
  | succ i => rw [join1] at e ⊢; exact .inr (hn i x e)
namespace Wk
variable {KP : Kd} {W : Wk KP}
theorem nx_go {o : W.τ} {pj : Jb} {ps : KP.σ} {b : W.β} {t : Ans} {x : Stp} (he : KP.ends ps x = false) : W.next' ⟨o, .along pj ps b, t⟩ x = ⟨o, .along pj (KP.next ps x) b, t⟩ := by
 simp [next', he]
theorem nx_end {o : W.τ} {pj : Jb} {ps : KP.σ} {b : W.β} {t : Ans} {x : Stp} (he : KP.ends ps x = true) : W.next' ⟨o, .along pj ps b, t⟩ x = W.apply t (W.beh b o (KP.tell (KP.next ps x))) := by
 simp [next', he]
end Wk
end Hp
end
section
namespace Ls
open Hp
theorem nx_meet {o : O} {t : Ans} {x : Stp} : W.next' ⟨o, .on .meet, t⟩ x = ⟨{ o with g := x.had }, .on .tie, t⟩ := rfl
theorem nx_tie {o : O} {t : Ans} {x : Stp} : W.next' ⟨o, .on .tie, t⟩ x = ⟨o, .on .lay, t⟩ := rfl
theorem nx_peek {o : O} {t : Ans} {x : Stp} : W.next' ⟨o, .on .peek, t⟩ x = ⟨{ o with bl := idx x.had }, .on .take, t⟩ := rfl
theorem nx_lay_y {o : O} {t : Ans} {x : Stp} (hc : x.ok = true) : W.next' ⟨o, .on .lay, t⟩ x = ⟨o, .ended, ⟨true, 0⟩⟩ := by show W.apply t (out .lay o x) = _; unfold out; dsimp only; rw [if_pos hc]; rfl
theorem nx_lay_n {o : O} {t : Ans} {x : Stp} (hc : ¬ x.ok = true) : W.next' ⟨o, .on .lay, t⟩ x = ⟨o, .on .meet, t⟩ := by show W.apply t (out .lay o x) = _; unfold out; dsimp only; rw [if_neg hc]; rfl
theorem nx_find_y {o : O} {t : Ans} {x : Stp} (hc : there o.sh (idx x.had)) : W.next' ⟨o, .on .find, t⟩ x = ⟨{ o with g := x.had }, .on .peek, t⟩ := by show W.apply t (out .find o x) = _; unfold out; dsimp only; rw [if_pos hc]; rfl
theorem nx_find_n {o : O} {t : Ans} {x : Stp} (hc : ¬ there o.sh (idx x.had)) : W.next' ⟨o, .on .find, t⟩ x = ⟨{ o with g := x.had }, .ended, t⟩ := by show W.apply t (out .find o x) = _; unfold out; dsimp only; rw [if_neg hc]; rfl
theorem nx_take_y {o : O} {t : Ans} {x : Stp} (hc : x.ok = true) : W.next' ⟨o, .on .take, t⟩ x = ⟨o, .ended, ⟨true, idx o.g⟩⟩ := by show W.apply t (out .take o x) = _; unfold out; dsimp only; rw [if_pos hc]; rfl
theorem nx_take_n {o : O} {t : Ans} {x : Stp} (hc : ¬ x.ok = true) : W.next' ⟨o, .on .take, t⟩ x = ⟨o, .on .find, t⟩ := by show W.apply t (out .take o x) = _; unfold out; dsimp only; rw [if_neg hc]; rfl
end Ls
namespace Rom
open Hp
theorem go_part {sh : Shp} {o : RO} {pj : Jb} {ps ps' : WS Ls.W} {b : RB} {t : Ans} {x : Stp} (e : Ls.W.next' ps x = ps') (hn : Ls.W.over ps' = false) : (RW sh).next' ⟨o, .along pj ps b, t⟩ x = ⟨o, .along pj ps' b, t⟩ := by
 have he : (Ls.kList sh).ends ps x = false := by show Ls.W.over (Ls.W.next' ps x) = false; rw [e]; exact hn
 refine (Wk.nx_go (W := RW sh) he).trans ?_
 show (⟨o, .along pj (Ls.W.next' ps x) b, t⟩ : WS (RW sh)) = _
 rw [e]
theorem end_part {sh : Shp} {o : RO} {pj : Jb} {ps ps' : WS Ls.W} {b : RB} {t : Ans} {x : Stp} (e : Ls.W.next' ps x = ps') (hn : Ls.W.over ps' = true) : (RW sh).next' ⟨o, .along pj ps b, t⟩ x = (RW sh).apply t (abeh b o ps'.told) := by
 have he : (Ls.kList sh).ends ps x = true := by show Ls.W.over (Ls.W.next' ps x) = true; rw [e]; exact hn
 refine (Wk.nx_end (W := RW sh) he).trans ?_
 show (RW sh).apply t (abeh b o (Ls.W.next' ps x).told) = _
 rw [e]
theorem sim_step {sh : Shp} {s : RmS} {s' : WS (RW sh)} (H : Wf sh s) (h : Sim sh s s') (x : Stp) : rreq sh s = (RW sh).req' s' ∧ rends sh s x = (RW sh).over ((RW sh).next' s' x) ∧ Sim sh (rnext sh s x) ((RW sh).next' s' x) := by
 cases h with
 | @find hand j g xb gn sl ix sl' gn' lx lb t k =>
  refine ⟨by simp [rreq, k]; rfl, ?_⟩
  by_cases ht : there sh (idx x.had)
  ·rw [go_part (Ls.nx_find_y ht) rfl]
   have e1 : rends sh ⟨hand, j, 0, g, xb, gn, sl, t⟩ x = false := by simp [rends, k, ht]
   have e2 : rnext sh ⟨hand, j, 0, g, xb, gn, sl, t⟩ x = ⟨hand, j, 1, x.had, xb, gn, sl, t⟩ := by simp [rnext, k, ht]
   rw [e1, e2]
   exact ⟨rfl, .peek k⟩
  ·rw [end_part (Ls.nx_find_n ht) rfl]
   have e1 : rends sh ⟨hand, j, 0, g, xb, gn, sl, t⟩ x = true := by simp [rends, k, ht]
   have e2 : rnext sh ⟨hand, j, 0, g, xb, gn, sl, t⟩ x = ⟨hand, j, 9, x.had, xb, gn, sl, t⟩ := by simp [rnext, k, ht]
   rw [e1, e2]
   exact ⟨rfl, .mend k⟩
 | @peek hand j g xb gn sl ix sl' gn' lx lb t k =>
  refine ⟨by simp [rreq, k]; exact (by show _ = Ls.req .peek _; simp [Ls.req, behAt]), ?_⟩
  rw [go_part Ls.nx_peek rfl]
  have e1 : rends sh ⟨hand, j, 1, g, xb, gn, sl, t⟩ x = false := by simp [rends, k]
  have e2 : rnext sh ⟨hand, j, 1, g, xb, gn, sl, t⟩ x = ⟨hand, j, 2, g, idx x.had, gn, sl, t⟩ := by simp [rnext, k]
  rw [e1, e2]
  exact ⟨rfl, .take k⟩
 | @take hand j g xb gn sl ix sl' gn' lx t k =>
  refine ⟨by simp [rreq, k]; rfl, ?_⟩
  by_cases ht : x.ok = true
  ·rw [end_part (Ls.nx_take_y ht) rfl]
   have e1 : rends sh ⟨hand, j, 2, g, xb, gn, sl, t⟩ x = false := by simp [rends, k]
   have e2 : rnext sh ⟨hand, j, 2, g, xb, gn, sl, t⟩ x = ⟨hand, j, 3, g, xb, gn, sl, t⟩ := by simp [rnext, k, ht]
   rw [e1, e2]
   exact ⟨rfl, .mlook k⟩
  ·rw [go_part (Ls.nx_take_n ht) rfl]
   have e1 : rends sh ⟨hand, j, 2, g, xb, gn, sl, t⟩ x = false := by simp [rends, k]
   have e2 : rnext sh ⟨hand, j, 2, g, xb, gn, sl, t⟩ x = ⟨hand, j, 0, g, xb, gn, sl, t⟩ := by simp [rnext, k, ht]
   rw [e1, e2]
   exact ⟨rfl, .find k⟩
 | @mlook hand j g xb gn sl sl' gn' t k =>
  refine ⟨by simp [rreq, k]; rfl, ?_⟩
  have e1 : rends sh ⟨hand, j, 3, g, xb, gn, sl, t⟩ x = false := by simp [rends, k]
  have e2 : rnext sh ⟨hand, j, 3, g, xb, gn, sl, t⟩ x = ⟨hand, j, 4, g, xb, x.had / 4294967296, sl, t⟩ := by simp [rnext, k]
  rw [e1, e2]
  exact ⟨rfl, .muse k⟩
 | @muse hand j g xb gn sl sl' t k =>
  refine ⟨by simp [rreq, k, useW]; rfl, ?_⟩
  have e1 : rends sh ⟨hand, j, 4, g, xb, gn, sl, t⟩ x = false := by simp [rends, k]
  have e2 : rnext sh ⟨hand, j, 4, g, xb, gn, sl, t⟩ x = ⟨hand, j, 5, g, xb, gn, sl, t⟩ := by simp [rnext, k]
  rw [e1, e2]
  exact ⟨rfl, .mcount k⟩
 | @mcount hand j g xb gn sl sl' t k =>
  refine ⟨by simp [rreq, k]; rfl, ?_⟩
  have e1 : rends sh ⟨hand, j, 5, g, xb, gn, sl, t⟩ x = true := by simp [rends, k]
  have e2 : rnext sh ⟨hand, j, 5, g, xb, gn, sl, t⟩ x = ⟨hand, j, 9, g, xb, gn, sl, ⟨true, hd (idx g) gn⟩⟩ := by simp [rnext, k]
  rw [e1, e2]
  exact ⟨rfl, .mend k⟩
 | mend k => exact absurd H.st (by simp [k])
 | @wipe hand j g xb gn sl gn' c fl t k =>
  refine ⟨by simp [rreq, k]; rfl, ?_⟩
  have e1 : rends sh ⟨hand, j, 0, g, xb, gn, sl, t⟩ x = false := by simp [rends, k]
  rw [e1]
  by_cases ht : slotIn sh j.a (sl + 1)
  ·have e2 : rnext sh ⟨hand, j, 0, g, xb, gn, sl, t⟩ x = ⟨hand, j, 0, g, xb, gn, sl + 1, t⟩ := by simp [rnext, k, ht]
   have e3 : (RW sh).next' ⟨⟨false, sh, hand, fl, c, j.a, sl, gn'⟩, .on .wipe, t⟩ x = ⟨⟨false, sh, hand, fl, c, j.a, sl + 1, gn'⟩, .on .wipe, t⟩ := by show (RW sh).apply t (aout .wipe _ x) = _; simp only [aout, ht, if_true]; rfl
   rw [e2, e3]
   exact ⟨rfl, .wipe k⟩
  ·have e2 : rnext sh ⟨hand, j, 0, g, xb, gn, sl, t⟩ x = ⟨hand, j, 1, g, xb, gn, sl + 1, t⟩ := by simp [rnext, k, ht]
   have e3 : (RW sh).next' ⟨⟨false, sh, hand, fl, c, j.a, sl, gn'⟩, .on .wipe, t⟩ x = ⟨⟨false, sh, hand, fl, c, j.a, sl + 1, gn'⟩, .on .glook, t⟩ := by show (RW sh).apply t (aout .wipe _ x) = _; simp only [aout, ht, if_false]; rfl
   rw [e2, e3]
   exact ⟨rfl, .glook k⟩
 | @glook hand j g xb gn sl sl' gn' c fl t k =>
  refine ⟨by simp [rreq, k]; rfl, ?_⟩
  have e1 : rends sh ⟨hand, j, 1, g, xb, gn, sl, t⟩ x = false := by simp [rends, k]
  have e2 : rnext sh ⟨hand, j, 1, g, xb, gn, sl, t⟩ x = ⟨hand, j, 2, g, xb, x.had / 4294967296, sl, t⟩ := by simp [rnext, k]
  rw [e1, e2]
  exact ⟨rfl, .leave k⟩
 | @leave hand j g xb gn sl sl' c fl t k =>
  refine ⟨by simp [rreq, k]; rfl, ?_⟩
  have e1 : rends sh ⟨hand, j, 2, g, xb, gn, sl, t⟩ x = false := by simp [rends, k]
  rw [e1]
  by_cases hq : gn = 4294967295
  ·have e2 : rnext sh ⟨hand, j, 2, g, xb, gn, sl, t⟩ x = ⟨hand, j, 6, g, xb, gn, sl, t⟩ := by simp [rnext, k, hq]
   have e3 : (RW sh).next' ⟨⟨false, sh, hand, fl, c, j.a, sl', gn⟩, .on .leave, t⟩ x = ⟨⟨false, sh, hand, fl, c, j.a, sl', gn⟩, .on .gcount, t⟩ := by show (RW sh).apply t (aout .leave _ x) = _; simp only [aout, hq, if_true]; rfl
   rw [e2, e3]
   exact ⟨rfl, .gcount k⟩
  ·have e2 : rnext sh ⟨hand, j, 2, g, xb, gn, sl, t⟩ x = ⟨hand, j, 3, g, xb, gn, sl, t⟩ := by simp [rnext, k, hq]
   have e3 : (RW sh).next' ⟨⟨false, sh, hand, fl, c, j.a, sl', gn⟩, .on .leave, t⟩ x = ⟨⟨false, sh, hand, fl, c, j.a, sl', gn⟩, .along (lj j.a) (⟨⟨true, sh, hand, 1, 0, j.a, 0⟩, .on .meet, ⟨false, 0⟩⟩ : WS Ls.W) .laid, t⟩ := by
    show (RW sh).apply t (aout .leave _ x) = _
    simp only [aout, hq, if_false]
    have e : Ls.init sh hand (lj j.a) = ⟨⟨true, sh, hand, 1, 0, j.a, 0⟩, .on .meet, ⟨false, 0⟩⟩ := by unfold Ls.init lj; rw [if_pos rfl]
    rw [e]
    rfl
   rw [e2, e3]
   exact ⟨rfl, .meet k ⟨by omega, by omega⟩⟩
 | @meet hand j g xb gn sl sl' gn' c lg lb fl t k hlg =>
  refine ⟨by simp [rreq, k]; rfl, ?_⟩
  rw [go_part Ls.nx_meet rfl]
  have e1 : rends sh ⟨hand, j, 3, g, xb, gn, sl, t⟩ x = false := by simp [rends, k]
  have e2 : rnext sh ⟨hand, j, 3, g, xb, gn, sl, t⟩ x = ⟨hand, j, 4, x.had, xb, gn, sl, t⟩ := by simp [rnext, k]
  rw [e1, e2]
  exact ⟨rfl, .tie k⟩
 | @tie hand j g xb gn sl sl' gn' c lb fl t k =>
  refine ⟨by simp [rreq, k]; exact (by show _ = Ls.req .tie _; simp [Ls.req, behAt]), ?_⟩
  rw [go_part Ls.nx_tie rfl]
  have e1 : rends sh ⟨hand, j, 4, g, xb, gn, sl, t⟩ x = false := by simp [rends, k]
  have e2 : rnext sh ⟨hand, j, 4, g, xb, gn, sl, t⟩ x = ⟨hand, j, 5, g, xb, gn, sl, t⟩ := by simp [rnext, k]
  rw [e1, e2]
  exact ⟨rfl, .lay k⟩
 | @lay hand j g xb gn sl sl' gn' c lb fl t k =>
  refine ⟨by simp [rreq, k]; rfl, ?_⟩
  have e1 : rends sh ⟨hand, j, 5, g, xb, gn, sl, t⟩ x = false := by simp [rends, k]
  rw [e1]
  by_cases ht : x.ok = true
  ·rw [end_part (Ls.nx_lay_y ht) rfl]
   have e2 : rnext sh ⟨hand, j, 5, g, xb, gn, sl, t⟩ x = ⟨hand, j, 6, g, xb, gn, sl, t⟩ := by simp [rnext, k, ht]
   rw [e2]
   exact ⟨rfl, .gcount k⟩
  ·rw [go_part (Ls.nx_lay_n ht) rfl]
   have e2 : rnext sh ⟨hand, j, 5, g, xb, gn, sl, t⟩ x = ⟨hand, j, 3, g, xb, gn, sl, t⟩ := by simp [rnext, k, ht]
   rw [e2]
   exact ⟨rfl, .meet k H.g⟩
 | @gcount hand j g xb gn sl sl' gn' c fl t k =>
  refine ⟨by simp [rreq, k]; rfl, ?_⟩
  have e1 : rends sh ⟨hand, j, 6, g, xb, gn, sl, t⟩ x = true := by simp [rends, k]
  have e2 : rnext sh ⟨hand, j, 6, g, xb, gn, sl, t⟩ x = ⟨hand, j, 9, g, xb, gn, sl, ⟨true, mx0 j.a⟩⟩ := by simp [rnext, k]
  rw [e1, e2]
  exact ⟨rfl, .gend k⟩
 | gend k => exact absurd H.st (by simp [k])
theorem sim_told {sh : Shp} {s : RmS} {s' : WS (RW sh)} (h : Sim sh s s') : s.told = s'.told := by cases h <;> rfl
end Rom
end
end Go.Proofs.YtppgbndoijppnaaGreat
