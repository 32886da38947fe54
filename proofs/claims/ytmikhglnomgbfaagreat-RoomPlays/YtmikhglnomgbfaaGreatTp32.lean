/-
  Lemmas: RoomE.
-/
import Derived.Test.YtmikhglnomgbfaaGreatTp29
import Derived.Test.YtmikhglnomgbfaaGreatTp18
namespace Go.Proofs.YtmikhglnomgbfaaGreat
set_option maxHeartbeats 8000000
open Go.RowKit
set_option linter.unusedVariables false
set_option linter.unusedSimpArgs false
set_option maxRecDepth 20000
section
namespace Rom
open Hp
theorem wol_yes {w : World} {b : Nat} {sh : Shp} {hand : Int} {fn : Value} {g : Int} {t : Ans} {ix sl gn : Int} (h_ : w.rowIs b 96 14 (gC sh hand fn g t ix sl gn)) (h5 : Shape.R5 sh.a sh.b sh.c sh.d sh.e) (ht : slotIn sh ix sl) :
  Calls Tryz.prog 32 #[.pointer (some ⟨b, 0, none⟩)] w fun e w' => e = .returned (.func (.func 61) #[.pointer (some ⟨b, 0, none⟩)] #[]) ∧ Below w.heap.size w w' := by
 have SL := hide (fun w1 : World => slotAt_any h5 ix sl w1)
 have hbd : (slotAt sh ix sl == -1) = false := by
  have := head_bd h5 ht.1; have := slot_bd h5 ht; have := ht.2.1; simp; omega
 obtain ⟨p, hp⟩ : ∃ p, slotAt sh ix sl = p := ⟨_, rfl⟩
 rw [hp] at SL hbd
 have HB := hide hbd
 have hl := h_.lt
 obtain ⟨dG, hdG1, hdG2⟩ := rowSh
 have HDS := hide (And.intro hdG1 hdG2)
 have HR := hide h_
 clear h_ h5 ht hp hbd hdG1 hdG2
 go_enter Tryz.func32, Tryz.ntmps32
 go_wp2_with fail
 refine RG.regionB 14 (ks := [(0, 3), (1, 4), (2, 5), (3, 6), (4, 7), (5, 8), (6, 9), (7, 10), (8, 11), (9, 12), (10, 13), (11, 14), (12, 15), (13, 16)]) (vals := fun i => match i with
   | 0 => .pointer (some ⟨b, 0, none⟩)
   | 1 => .pointer (some ⟨b, 0, none⟩)
   | 2 => .pointer (some ⟨b, 5, none⟩)
   | 3 => sh.val
   | 4 => .pointer (some ⟨b, 0, none⟩)
   | 5 => .pointer (some ⟨b, 0, none⟩)
   | 6 => .pointer (some ⟨b, 11, none⟩)
   | 7 => .int .i64 ix
   | 8 => .pointer (some ⟨b, 0, none⟩)
   | 9 => .pointer (some ⟨b, 0, none⟩)
   | 10 => .pointer (some ⟨b, 12, none⟩)
   | 11 => .int .i64 sl
   | 12 => .int .i64 p
   | 13 => .bool false
   | _ => undef) (x := 1) (WI := fun L v_ w' => SQ b 96 14 (gC sh hand fn g t ix sl gn) w w') (by kernel_rfl) (by kernel_rfl) rfl (by kernel_rfl) (by kernel_rfl) (SQ.start HR.out) ?does ?fin
 case does =>
  intro i o ho
  have hi : i < 14 := RG.lt_of ho rfl
  match i, hi with
  | 0, _ => cases ho; exact RG.Does.read rfl (fun L v_ w' h => h) (fun L a w' hI hd => ex_move rfl (hI.fx 0 rfl))
  | 1, _ => cases ho; exact RG.Does.read rfl (fun L v_ w' h => h) (fun L a w' hI hd => ex_nil rfl (hI.pure 0 _ _ rfl (hd ⟨0, .data⟩ (by simp) rfl)))
  | 2, _ => cases ho; exact RG.Does.read rfl (fun L v_ w' h => h) (fun L a w' hI hd => ex_field rfl (hI.pure 1 _ _ rfl (hd ⟨1, .data⟩ (by simp) rfl)) (fieldG1 w' _))
  | 3, _ => cases ho; exact RG.Does.read rfl (fun L v_ w' h => h) (fun L a w' hI hd => ex_load_row rfl (hI.pure 2 _ _ rfl (hd ⟨2, .data⟩ (by simp) rfl)) (shrow (sh := sh) (by omega) rfl rfl rfl rfl rfl rfl hI.world.row) HDS.out.1 HDS.out.2 sizeSh)
  | 4, _ => cases ho; exact RG.Does.read rfl (fun L v_ w' h => h) (fun L a w' hI hd => ex_move rfl (hI.fx 0 rfl))
  | 5, _ => cases ho; exact RG.Does.read rfl (fun L v_ w' h => h) (fun L a w' hI hd => ex_nil rfl (hI.pure 4 _ _ rfl (hd ⟨4, .data⟩ (by simp) rfl)))
  | 6, _ => cases ho; exact RG.Does.read rfl (fun L v_ w' h => h) (fun L a w' hI hd => ex_field rfl (hI.pure 5 _ _ rfl (hd ⟨5, .data⟩ (by simp) rfl)) (fieldG2 w' _))
  | 7, _ => cases ho; exact RG.Does.read rfl (fun L v_ w' h => h) (fun L a w' hI hd => ex_load rfl (hI.pure 6 _ _ rfl (hd ⟨6, .data⟩ (by simp) rfl)) (aggI w') (hI.world.row.cell (i := 11) (by omega)))
  | 8, _ => cases ho; exact RG.Does.read rfl (fun L v_ w' h => h) (fun L a w' hI hd => ex_move rfl (hI.fx 0 rfl))
  | 9, _ => cases ho; exact RG.Does.read rfl (fun L v_ w' h => h) (fun L a w' hI hd => ex_nil rfl (hI.pure 8 _ _ rfl (hd ⟨8, .data⟩ (by simp) rfl)))
  | 10, _ => cases ho; exact RG.Does.read rfl (fun L v_ w' h => h) (fun L a w' hI hd => ex_field rfl (hI.pure 9 _ _ rfl (hd ⟨9, .data⟩ (by simp) rfl)) (fieldG3 w' _))
  | 11, _ => cases ho; exact RG.Does.read rfl (fun L v_ w' h => h) (fun L a w' hI hd => ex_load rfl (hI.pure 10 _ _ rfl (hd ⟨10, .data⟩ (by simp) rfl)) (aggI w') (hI.world.row.cell (i := 12) (by omega)))
  | 12, _ => cases ho; exact RG.Does.call rfl (fun L a w' hI hd => call3 rfl (hI.pure 3 _ _ rfl (hd ⟨3, .data⟩ (by simp) rfl)) (hI.pure 7 _ _ rfl (hd ⟨7, .data⟩ (by simp) rfl)) (hI.pure 11 _ _ rfl (hd ⟨11, .data⟩ (by simp) rfl)) rfl (by simp [go_sem])) (fun L v_ w2 hI hL => ((SL.out) w2).mono (by rintro e w3 ⟨rfl, hb⟩; exact ⟨rfl,  (SQq hI hb)⟩))
  | 13, _ => cases ho; exact RG.Does.read rfl (fun L v_ w' h => h) (fun L a w' hI hd => ex_eqm rfl (hI.pure 12 _ _ rfl (hd ⟨12, .data⟩ (by simp) rfl)) rfl HB.out)
 case fin =>
  intro L a' w4 hI hall
  have hw := hI.world
  have ea := act_all a' 21 (by rw [hI.sz]; rfl) hI.df
  simp only [List.range, List.range.loop, List.map] at ea
  rw [hI.fx 0 rfl, hI.fx 2 rfl, hI.fx 17 rfl, hI.fx 18 rfl, hI.fx 19 rfl, hI.fx 20 rfl] at ea
  have kv16 := hI.pure 13 16 _ rfl (hall 13 (by decide))
  clear hI hall
  obtain ⟨us, hus⟩ : ∃ us : Nat → Value, ∀ k, a'.eval (.tmp k) = us k := ⟨_, fun _ => rfl⟩
  simp only [hus] at ea kv16
  rw [kv16] at ea
  simp only [show ∀ (ts : Array Value) (ds) (i : Nat), (Act.mk ts ds).eval (.tmp i) = ts.getD i undef from fun _ _ _ => rfl] at ea
  simp at ea
  subst ea
  have BW := hide hw.bel
  clear hw
  go_wp2_with fail
  go_ret
  exact ⟨rfl, BW.out⟩
theorem wol_no {w : World} {b : Nat} {sh : Shp} {hand : Int} {fn : Value} {g : Int} {t : Ans} {ix sl gn : Int} (h_ : w.rowIs b 96 14 (gC sh hand fn g t ix sl gn)) (h5 : Shape.R5 sh.a sh.b sh.c sh.d sh.e) (ht : ¬ slotIn sh ix sl) :
  Calls Tryz.prog 32 #[.pointer (some ⟨b, 0, none⟩)] w fun e w' => e = .returned (.func (.func 60) #[.pointer (some ⟨b, 0, none⟩)] #[]) ∧ Below w.heap.size w w' := by
 have SL := hide (fun w1 : World => slotAt_any h5 ix sl w1)
 have hbd : (slotAt sh ix sl == -1) = true := by
  simp [slotAt, ht]
 obtain ⟨p, hp⟩ : ∃ p, slotAt sh ix sl = p := ⟨_, rfl⟩
 rw [hp] at SL hbd
 have HB := hide hbd
 have hl := h_.lt
 obtain ⟨dG, hdG1, hdG2⟩ := rowSh
 have HDS := hide (And.intro hdG1 hdG2)
 have HR := hide h_
 clear h_ h5 ht hp hbd hdG1 hdG2
 go_enter Tryz.func32, Tryz.ntmps32
 go_wp2_with fail
 refine RG.regionB 14 (ks := [(0, 3), (1, 4), (2, 5), (3, 6), (4, 7), (5, 8), (6, 9), (7, 10), (8, 11), (9, 12), (10, 13), (11, 14), (12, 15), (13, 16)]) (vals := fun i => match i with
   | 0 => .pointer (some ⟨b, 0, none⟩)
   | 1 => .pointer (some ⟨b, 0, none⟩)
   | 2 => .pointer (some ⟨b, 5, none⟩)
   | 3 => sh.val
   | 4 => .pointer (some ⟨b, 0, none⟩)
   | 5 => .pointer (some ⟨b, 0, none⟩)
   | 6 => .pointer (some ⟨b, 11, none⟩)
   | 7 => .int .i64 ix
   | 8 => .pointer (some ⟨b, 0, none⟩)
   | 9 => .pointer (some ⟨b, 0, none⟩)
   | 10 => .pointer (some ⟨b, 12, none⟩)
   | 11 => .int .i64 sl
   | 12 => .int .i64 p
   | 13 => .bool true
   | _ => undef) (x := 1) (WI := fun L v_ w' => SQ b 96 14 (gC sh hand fn g t ix sl gn) w w') (by kernel_rfl) (by kernel_rfl) rfl (by kernel_rfl) (by kernel_rfl) (SQ.start HR.out) ?does ?fin
 case does =>
  intro i o ho
  have hi : i < 14 := RG.lt_of ho rfl
  match i, hi with
  | 0, _ => cases ho; exact RG.Does.read rfl (fun L v_ w' h => h) (fun L a w' hI hd => ex_move rfl (hI.fx 0 rfl))
  | 1, _ => cases ho; exact RG.Does.read rfl (fun L v_ w' h => h) (fun L a w' hI hd => ex_nil rfl (hI.pure 0 _ _ rfl (hd ⟨0, .data⟩ (by simp) rfl)))
  | 2, _ => cases ho; exact RG.Does.read rfl (fun L v_ w' h => h) (fun L a w' hI hd => ex_field rfl (hI.pure 1 _ _ rfl (hd ⟨1, .data⟩ (by simp) rfl)) (fieldG1 w' _))
  | 3, _ => cases ho; exact RG.Does.read rfl (fun L v_ w' h => h) (fun L a w' hI hd => ex_load_row rfl (hI.pure 2 _ _ rfl (hd ⟨2, .data⟩ (by simp) rfl)) (shrow (sh := sh) (by omega) rfl rfl rfl rfl rfl rfl hI.world.row) HDS.out.1 HDS.out.2 sizeSh)
  | 4, _ => cases ho; exact RG.Does.read rfl (fun L v_ w' h => h) (fun L a w' hI hd => ex_move rfl (hI.fx 0 rfl))
  | 5, _ => cases ho; exact RG.Does.read rfl (fun L v_ w' h => h) (fun L a w' hI hd => ex_nil rfl (hI.pure 4 _ _ rfl (hd ⟨4, .data⟩ (by simp) rfl)))
  | 6, _ => cases ho; exact RG.Does.read rfl (fun L v_ w' h => h) (fun L a w' hI hd => ex_field rfl (hI.pure 5 _ _ rfl (hd ⟨5, .data⟩ (by simp) rfl)) (fieldG2 w' _))
  | 7, _ => cases ho; exact RG.Does.read rfl (fun L v_ w' h => h) (fun L a w' hI hd => ex_load rfl (hI.pure 6 _ _ rfl (hd ⟨6, .data⟩ (by simp) rfl)) (aggI w') (hI.world.row.cell (i := 11) (by omega)))
  | 8, _ => cases ho; exact RG.Does.read rfl (fun L v_ w' h => h) (fun L a w' hI hd => ex_move rfl (hI.fx 0 rfl))
  | 9, _ => cases ho; exact RG.Does.read rfl (fun L v_ w' h => h) (fun L a w' hI hd => ex_nil rfl (hI.pure 8 _ _ rfl (hd ⟨8, .data⟩ (by simp) rfl)))
  | 10, _ => cases ho; exact RG.Does.read rfl (fun L v_ w' h => h) (fun L a w' hI hd => ex_field rfl (hI.pure 9 _ _ rfl (hd ⟨9, .data⟩ (by simp) rfl)) (fieldG3 w' _))
  | 11, _ => cases ho; exact RG.Does.read rfl (fun L v_ w' h => h) (fun L a w' hI hd => ex_load rfl (hI.pure 10 _ _ rfl (hd ⟨10, .data⟩ (by simp) rfl)) (aggI w') (hI.world.row.cell (i := 12) (by omega)))
  | 12, _ => cases ho; exact RG.Does.call rfl (fun L a w' hI hd => call3 rfl (hI.pure 3 _ _ rfl (hd ⟨3, .data⟩ (by simp) rfl)) (hI.pure 7 _ _ rfl (hd ⟨7, .data⟩ (by simp) rfl)) (hI.pure 11 _ _ rfl (hd ⟨11, .data⟩ (by simp) rfl)) rfl (by simp [go_sem])) (fun L v_ w2 hI hL => ((SL.out) w2).mono (by rintro e w3 ⟨rfl, hb⟩; exact ⟨rfl,  (SQq hI hb)⟩))
  | 13, _ => cases ho; exact RG.Does.read rfl (fun L v_ w' h => h) (fun L a w' hI hd => ex_eqm rfl (hI.pure 12 _ _ rfl (hd ⟨12, .data⟩ (by simp) rfl)) rfl HB.out)
 case fin =>
  intro L a' w4 hI hall
  have hw := hI.world
  have ea := act_all a' 21 (by rw [hI.sz]; rfl) hI.df
  simp only [List.range, List.range.loop, List.map] at ea
  rw [hI.fx 0 rfl, hI.fx 2 rfl, hI.fx 17 rfl, hI.fx 18 rfl, hI.fx 19 rfl, hI.fx 20 rfl] at ea
  have kv16 := hI.pure 13 16 _ rfl (hall 13 (by decide))
  clear hI hall
  obtain ⟨us, hus⟩ : ∃ us : Nat → Value, ∀ k, a'.eval (.tmp k) = us k := ⟨_, fun _ => rfl⟩
  simp only [hus] at ea kv16
  rw [kv16] at ea
  simp only [show ∀ (ts : Array Value) (ds) (i : Nat), (Act.mk ts ds).eval (.tmp i) = ts.getD i undef from fun _ _ _ => rfl] at ea
  simp at ea
  subst ea
  have BW := hide hw.bel
  clear hw
  go_wp2_with fail
  go_ret
  exact ⟨rfl, BW.out⟩
theorem wipe_more {w : World} {b bm bw n : Nat} {f f' : Nat → Int} {x : Stp} {sh : Shp} {hand : Int} {fn : Value} {g : Int} {t : Ans} {ix sl gn : Int} (h_ : w.rowIs b 96 14 (gC sh hand fn g t ix sl gn)) (hm : IsMem w bm bw n f) (h1 : b ≠ bm) (h2 : b ≠ bw) (h5 : Shape.R5 sh.a sh.b sh.c sh.d sh.e) (hs : 0 ≤ sl ∧ sl ≤ 4) (ht : slotIn sh ix (sl + 1))
  (hx : stepOf n f ⟨hand, 2, slotAt sh ix sl, 0, 0, true⟩ = x) (hf' : wordsOf n f ⟨hand, 2, slotAt sh ix sl, 0, 0, true⟩ = f') :
  Calls Tryz.prog 61 #[.pointer (some ⟨b, 0, none⟩), .pointer (some ⟨bm, 0, none⟩)] w fun e w' => e = .returned (.tuple #[x.val, .int .i64 0]) ∧
   w'.rowIs b 96 14 (gC sh hand (.func (.func 61) #[.pointer (some ⟨b, 0, none⟩)] #[]) g t ix (sl + 1) gn) ∧ IsMem w' bm bw n f' ∧ Touch w w' (fun k => k = b ∨ k = bw) := by
 have hl := h_.lt
 have lw := hm.row.lt
 have lm := hm.head.lt
 have hn3 : w.heap.size ≠ b := by omega
 have hn4 : w.heap.size ≠ bw := by omega
 have hn5 : w.heap.size ≠ bm := by omega
 obtain ⟨W1, hW1⟩ : ∃ W1, w.alloc (.cells #[.int .i64 0, .int .i64 0, .int .i64 0, .int .u64 0, .int .u64 0, .bool false] 75) = W1 := ⟨_, rfl⟩
 have R := hide (show W1.rowIs b 96 14 (gC sh hand fn g t ix sl gn) from by rw [← hW1]; exact h_.alloc _)
 have M := hide (show IsMem W1 bm bw n f from by rw [← hW1]; exact hm.alloc _)
 have RZ := hide (show W1.rowIs w.heap.size 75 6 zcell from by rw [← hW1]; exact row0 w)
 have T0 := hide (show Touch w W1 (fun k => k = b ∨ k = bw) from by rw [← hW1]; exact (Touch.refl w _).alloc _)
 have sz : W1.heap.size = w.heap.size + 1 := by rw [← hW1]; simp
 have lW1 : b < W1.heap.size := by omega
 obtain ⟨dS, hdS1, hdS2⟩ := row46
 have HD := hide (And.intro hdS1 hdS2)
 obtain ⟨dG, hdG1, hdG2⟩ := rowSh
 have HDS := hide (And.intro hdG1 hdG2)
 have HX := hide hx
 have HF := hide hf'
 have HW : Hid (0 ≤ (⟨hand, 2, slotAt sh ix sl, 0, 0, true⟩ : Stp).put ∧ (⟨hand, 2, slotAt sh ix sl, 0, 0, true⟩ : Stp).put ≤ 18446744073709551615) := ⟨by show (0 : Int) ≤ 0; omega, by show (0 : Int) ≤ 18446744073709551615; omega⟩
 have HT := hide ht
 have g1 : wrap64 (sl + 1) = sl + 1 := by unfold wrap64; omega
 have H5 := hide h5
 clear hm h_ hx hf' hdS1 hdS2 hdG1 hdG2 h5 ht hs
 go_enter Tryz.func61, Tryz.ntmps61
 go_wp2_with fail
 clear hW1
 refine RG.regionB 20 (ks := [(0, 7), (1, 8), (2, 9), (3, 10), (4, 11), (5, 12), (6, 13), (7, 14), (8, 15), (9, 16), (10, 17), (11, 18), (12, 19), (13, 20), (14, 21), (15, 22), (16, 23), (17, 24)]) (vals := fun i => match i with
   | 0 => .pointer (some ⟨b, 0, none⟩)
   | 1 => .pointer (some ⟨b, 0, none⟩)
   | 2 => .pointer (some ⟨b, 0, none⟩)
   | 3 => .pointer (some ⟨bm, 0, none⟩)
   | 4 => .pointer (some ⟨b, 0, none⟩)
   | 5 => .pointer (some ⟨b, 0, none⟩)
   | 6 => .pointer (some ⟨b, 5, none⟩)
   | 7 => sh.val
   | 8 => .pointer (some ⟨b, 0, none⟩)
   | 9 => .pointer (some ⟨b, 0, none⟩)
   | 10 => .pointer (some ⟨b, 11, none⟩)
   | 11 => .int .i64 ix
   | 12 => .pointer (some ⟨b, 0, none⟩)
   | 13 => .pointer (some ⟨b, 0, none⟩)
   | 14 => .pointer (some ⟨b, 12, none⟩)
   | 15 => .int .i64 sl
   | 16 => .int .i64 (slotAt sh ix sl)
   | 17 => x.val
   | _ => undef) (x := 6) (WI := fun L v_ w' => RG.SW b 96 14 (gC sh hand fn g t ix sl gn) bm bw n f f' x w.heap.size W1 (L 17) (L 18) (L 19) v_ w') (by kernel_rfl) (by kernel_rfl) rfl (by kernel_rfl) (by kernel_rfl) (RG.SW.start R.out M.out RZ.out) ?does ?fin
 case does =>
  intro i o ho
  have hi : i < 20 := RG.lt_of ho rfl
  match i, hi with
  | 0, _ => cases ho; exact RG.rW rfl rfl (fun L a w' hI hd => ex_move rfl (hI.fx 0 rfl))
  | 1, _ => cases ho; exact RG.rW rfl rfl (fun L a w' hI hd => ex_nil rfl (hI.pure 0 _ _ rfl (hd ⟨0, .data⟩ (by simp) rfl)))
  | 2, _ => cases ho; exact RG.rW rfl rfl (fun L a w' hI hd => ex_field rfl (hI.pure 1 _ _ rfl (hd ⟨1, .data⟩ (by simp) rfl)) (fieldG0 w' _))
  | 3, _ => cases ho; exact RG.rW rfl rfl (fun L a w' hI hd => ex_move rfl (hI.fx 1 rfl))
  | 4, _ => cases ho; exact RG.rW rfl rfl (fun L a w' hI hd => ex_move rfl (hI.fx 0 rfl))
  | 5, _ => cases ho; exact RG.rW rfl rfl (fun L a w' hI hd => ex_nil rfl (hI.pure 4 _ _ rfl (hd ⟨4, .data⟩ (by simp) rfl)))
  | 6, _ => cases ho; exact RG.rW rfl rfl (fun L a w' hI hd => ex_field rfl (hI.pure 5 _ _ rfl (hd ⟨5, .data⟩ (by simp) rfl)) (fieldG1 w' _))
  | 7, _ => cases ho; exact RG.rW rfl rfl (fun L a w' hI hd => ex_load_row rfl (hI.pure 6 _ _ rfl (hd ⟨6, .data⟩ (by simp) rfl)) (shrow (sh := sh) (by omega) rfl rfl rfl rfl rfl rfl hI.world.row) HDS.out.1 HDS.out.2 sizeSh)
  | 8, _ => cases ho; exact RG.rW rfl rfl (fun L a w' hI hd => ex_move rfl (hI.fx 0 rfl))
  | 9, _ => cases ho; exact RG.rW rfl rfl (fun L a w' hI hd => ex_nil rfl (hI.pure 8 _ _ rfl (hd ⟨8, .data⟩ (by simp) rfl)))
  | 10, _ => cases ho; exact RG.rW rfl rfl (fun L a w' hI hd => ex_field rfl (hI.pure 9 _ _ rfl (hd ⟨9, .data⟩ (by simp) rfl)) (fieldG2 w' _))
  | 11, _ => cases ho; exact RG.rW rfl rfl (fun L a w' hI hd => ex_load rfl (hI.pure 10 _ _ rfl (hd ⟨10, .data⟩ (by simp) rfl)) (aggI w') (hI.world.row.cell (i := 11) (by omega)))
  | 12, _ => cases ho; exact RG.rW rfl rfl (fun L a w' hI hd => ex_move rfl (hI.fx 0 rfl))
  | 13, _ => cases ho; exact RG.rW rfl rfl (fun L a w' hI hd => ex_nil rfl (hI.pure 12 _ _ rfl (hd ⟨12, .data⟩ (by simp) rfl)))
  | 14, _ => cases ho; exact RG.rW rfl rfl (fun L a w' hI hd => ex_field rfl (hI.pure 13 _ _ rfl (hd ⟨13, .data⟩ (by simp) rfl)) (fieldG3 w' _))
  | 15, _ => cases ho; exact RG.rW rfl rfl (fun L a w' hI hd => ex_load rfl (hI.pure 14 _ _ rfl (hd ⟨14, .data⟩ (by simp) rfl)) (aggI w') (hI.world.row.cell (i := 12) (by omega)))
  | 16, _ => cases ho; exact RG.Does.call rfl (fun L a w' hI hd => call3 rfl (hI.pure 7 _ _ rfl (hd ⟨7, .data⟩ (by simp) rfl)) (hI.pure 11 _ _ rfl (hd ⟨11, .data⟩ (by simp) rfl)) (hI.pure 15 _ _ rfl (hd ⟨15, .data⟩ (by simp) rfl)) rfl (by simp [go_sem])) (fun L v_ w2 hI hL => ((fun w9 : World => slotAt_any H5.out ix sl w9) w2).mono (by rintro e w3 ⟨rfl, hb⟩; exact ⟨rfl, RG.SW.skip (by decide) (by decide) (by decide)  (SWq hI hb)⟩))
  | 17, _ => cases ho; exact RG.Does.call rfl (fun L a w' hI hd => call4 rfl (hI.pure 2 _ _ rfl (hd ⟨2, .data⟩ (by simp) rfl)) (hI.pure 3 _ _ rfl (hd ⟨3, .data⟩ (by simp) rfl)) (hI.pure 16 _ _ rfl (hd ⟨16, .data⟩ (by simp) rfl)) rfl rfl (by simp [go_sem])) (SWcalls h2 hn4 (by decide) (by decide) (fun w2 R2 M2 => store_any (R2.cell (i := 0) (by omega)) R2.lt M2 HW.out HX.out HF.out))
  | 18, _ => cases ho; exact RG.Does.make (u := fun w' => .pointer (some ⟨w'.heap.size, 0, none⟩)) rfl rfl (fun ev w' => alloc46 rfl) (fun L v_ w' h hL => by have := RG.SW.make h hL; rw [← upd_same L 18 true] at this; simpa only [upd_other _ _ (show 17 ≠ 18 by decide), upd_other _ _ (show 19 ≠ 18 by decide)] using this)
  | 19, _ => cases ho; exact RG.Does.put (ls := x.cells) rfl rfl rfl size46 (by simp [Stp.cells, Value.oneCell']) (fun L a w' hI hL hd => ⟨(hI.pure 17 _ _ rfl (hd ⟨17, .data⟩ (by simp) rfl)), by obtain ⟨q, e1, e2, e3⟩ := RG.SW.put hI.world (hd ⟨17, .data⟩ (by simp) rfl) (hd ⟨18, .data⟩ (by simp) rfl) hL; exact ⟨q, 0, e1, e2, by rw [← upd_same L 19 true] at e3; simpa only [upd_other _ _ (show 17 ≠ 19 by decide), upd_other _ _ (show 18 ≠ 19 by decide)] using e3⟩⟩)
 case fin =>
  intro L a' w1 hI hall
  have hw := hI.world
  simp only [hall 17 (by decide), hall 18 (by decide), hall 19 (by decide), if_true] at hw
  obtain ⟨q, hq, hq1, hq2, _, hr⟩ := hw.own rfl
  replace hr := hr rfl
  have ea := act_all a' 39 (by rw [hI.sz]; rfl) hI.df
  simp only [List.range, List.range.loop, List.map] at ea
  rw [hI.fx 0 rfl, hI.fx 1 rfl, hI.fx 2 rfl, hI.fx 3 rfl, hI.fx 4 rfl, hI.fx 5 rfl, hI.fx 25 rfl, hI.fx 26 rfl, hI.fx 27 rfl, hI.fx 28 rfl, hI.fx 29 rfl, hI.fx 30 rfl, hI.fx 31 rfl, hI.fx 32 rfl, hI.fx 33 rfl, hI.fx 34 rfl, hI.fx 35 rfl, hI.fx 36 rfl, hI.fx 37 rfl, hI.fx 38 rfl, hq] at ea
  clear hI hall
  obtain ⟨us, hus⟩ : ∃ us : Nat → Value, ∀ k, a'.eval (.tmp k) = us k := ⟨_, fun _ => rfl⟩
  simp only [hus] at ea
  simp only [show ∀ (ts : Array Value) (ds) (i : Nat), (Act.mk ts ds).eval (.tmp i) = ts.getD i undef from fun _ _ _ => rfl] at ea
  simp at ea
  subst ea
  have M1 := hide (show IsMem w1 bm bw n f' from by simpa using hw.mem)
  have R1 := hide hw.row
  have RR := hide hw.res
  have T1 := hide (T0.out.trans' hw.tch (fun k _ h => .inr h))
  have RQ := hide hr
  have hqb : q ≠ b := by omega
  have hqr : q ≠ w.heap.size := by omega
  have hqm : q ≠ bm ∧ q ≠ bw := by omega
  have lw1 := hw.tch.size
  have l1 : b < w1.heap.size := by omega
  have l2 : w.heap.size < w1.heap.size := by omega
  have l3 : q < w1.heap.size := by omega
  clear hw hr hq
  obtain ⟨s0, s1, s2, s3, s4, s5⟩ := stp6 RQ.out
  have Rw1 := R1
  have Mw1 := M1
  have Qw1 := RR
  have Sw1 := RQ
  have Tw1 := T1
  have db : w1.cell? ⟨b, 12, none⟩ = some (.int .i64 sl) := R1.out.cell (i := 12) (by omega)
  have dfb := R1.out.frozen 12
  obtain ⟨V, hV⟩ : ∃ W', w1.setCell ⟨b, 12, none⟩ (.int .i64 (sl + 1)) = W' := ⟨_, rfl⟩
  have tV : Touch w1 V (fun k => k = b) := by
   rw [← hV]
   exact Touch.trans' (S' := fun k => k = b) (⟨rfl, rfl, rfl, Nat.le_refl _, fun _ _ _ => rfl⟩ : Touch w1 w1 (fun k => k = b)) ((Touch.refl w1 _).setCell (S := fun k => k = b) ⟨b, 12, none⟩ (.inl rfl) _) (fun k _ h => h)
  have RV := hide (show V.rowIs b 96 14 (gC sh hand fn g t ix (sl + 1) gn) from by
   rw [← hV]
   exact World.rowIs.congr (World.rowIs.set (show World.rowIs w1 b 96 14 _ from Rw1.out.of_block rfl) 12 _) (fun i hi => g_sl _ _ _ _ _ _ _ _ _ i hi))
  have QV := hide (Qw1.out.of_block (tV.block _ (by omega) (by omega)))
  have MV := hide (show IsMem V bm bw n f' from ⟨Mw1.out.head.of_block (tV.block _ Mw1.out.head.lt (by omega)), Mw1.out.row.of_block (tV.block _ Mw1.out.row.lt (by omega)), Mw1.out.most, Mw1.out.word⟩)
  have TV := hide (show Touch w V (fun k => k = b ∨ k = bw) from Tw1.out.trans' tV (fun k _ h => .inl h))
  have SV := hide (rangeAt_block Sw1.out (tV.block q (by omega) (by omega)))
  have szV : V.heap.size = w1.heap.size := by rw [← hV] <;> first | (simp; done) | rfl | (simp; rfl)
  clear tV
  go_wp2_with fail
  clear hV s0 s1 s2 s3 s4 s5 db dfb g1
  refine RG.regionB 9 (ks := [(0, 32), (1, 33), (2, 34), (3, 35), (4, 36), (5, 37), (6, 38), (8, 5)]) (vals := fun i => match i with
     | 0 => x.val
     | 1 => .pointer (some ⟨b, 0, none⟩)
     | 2 => .pointer (some ⟨b, 0, none⟩)
     | 3 => .pointer (some ⟨b, 0, none⟩)
     | 4 => .pointer (some ⟨b, 0, none⟩)
     | 5 => .func (.func 61) #[.pointer (some ⟨b, 0, none⟩)] #[]
     | 6 => .int .i64 0
     | 8 => .int .i64 0
     | _ => undef) (x := 2) (WI := fun L v_ w' => RG.SX b 96 14 (fun c_ g_ => gC sh hand (if g_ = true then (.func (.func 61) #[.pointer (some ⟨b, 0, none⟩)] #[]) else fn) g t ix (sl + 1) gn) bm bw n f' f' x w.heap.size (some q) V true (L 6) (L 7) w') (by kernel_rfl) (by kernel_rfl) rfl (by kernel_rfl) (by kernel_rfl) (RG.SX.start (c := true) (g := false) RV.out (by simpa using MV.out) QV.out ⟨h1, h2, hn3, hn5, hn4⟩ (fun k e => by cases e; exact ⟨SV.out, by omega, hqb, hqm.2, hqr⟩)) ?does ?fin
  case does =>
   intro i o ho
   have hi : i < 9 := RG.lt_of ho rfl
   match i, hi with
   | 0, _ => cases ho; exact RG.rX2 rfl rfl (fun L a w' hI hd => ex_load_row rfl (hI.fx 6 rfl) (hI.world.var _ rfl).1 HD.out.1 HD.out.2 size46)
   | 1, _ => cases ho; exact RG.rX2 rfl rfl (fun L a w' hI hd => ex_move rfl (hI.fx 0 rfl))
   | 2, _ => cases ho; exact RG.rX2 rfl rfl (fun L a w' hI hd => ex_nil rfl (hI.pure 1 _ _ rfl (hd ⟨1, .data⟩ (by simp) rfl)))
   | 3, _ => cases ho; exact RG.rX2 rfl rfl (fun L a w' hI hd => ex_field rfl (hI.pure 2 _ _ rfl (hd ⟨2, .data⟩ (by simp) rfl)) (fieldG0 w' _))
   | 4, _ => cases ho; exact RG.rX2 rfl rfl (fun L a w' hI hd => ex_move rfl (hI.fx 0 rfl))
   | 5, _ => cases ho; exact RG.Does.call rfl (fun L a w' hI hd => call1 rfl (hI.pure 4 _ _ rfl (hd ⟨4, .data⟩ (by simp) rfl)) rfl (by simp [go_sem])) (fun L v_ w2 hI hL => (wol_yes hI.row H5.out HT.out).mono (by rintro e w3 ⟨rfl, hb⟩; exact ⟨rfl, RG.SX.skip2 (by decide) (by decide)  (SXq hI hb)⟩))
   | 6, _ => cases ho; exact RG.Does.call rfl (fun L a w' hI hd => call2 rfl (hI.pure 3 _ _ rfl (hd ⟨3, .data⟩ (by simp) rfl)) (hI.pure 5 _ _ rfl (hd ⟨5, .data⟩ (by simp) rfl)) rfl (by simp [go_sem])) (fun L v_ w2 hI hL => by have h3 := hI; rw [hL] at h3; refine (goOn_any 61 h3.row (by omega)).mono ?_; rintro e w3 ⟨rfl, r3, t3⟩; refine ⟨rfl, ?_⟩; rw [upd_same, upd_other _ _ (show 7 ≠ 6 by decide)]; exact h3.turn (g' := true) (r3.congr (fun i hi => g_fn _ _ _ _ _ _ _ _ _ i hi)) ⟨h3.mem.head.of_block (t3.block _ h3.mem.head.lt (fun e => h1 e.symm)), h3.mem.row.of_block (t3.block _ h3.mem.row.lt (fun e => h2 e.symm)), h3.mem.most, h3.mem.word⟩ t3 (fun k e => .inl e))
   | 7, _ => cases ho; exact RG.Does.put (ls := x.cells) rfl rfl rfl size46 (by simp [Stp.cells, Value.oneCell']) (fun L a w' hI hL hdd => ⟨(hI.pure 0 _ _ rfl (hdd ⟨0, .data⟩ (by simp) rfl)), by obtain ⟨e2, e3⟩ := RG.SX.put hI.world; exact ⟨w.heap.size, 0, hI.fx 4 rfl, e2, by show RG.SX b 96 14 (fun c_ g_ => gC sh hand (if g_ = true then (.func (.func 61) #[.pointer (some ⟨b, 0, none⟩)] #[]) else fn) g t ix (sl + 1) gn) bm bw n f' f' x w.heap.size (some q) V true (upd L 7 true 6) (upd L 7 true 7) _; rw [upd_same, upd_other _ _ (show 6 ≠ 7 by decide)]; exact e3⟩⟩)
   | 8, _ => cases ho; exact RG.rX2 rfl rfl (fun L a w' hI hd => ex_assign rfl (hI.pure 6 _ _ rfl (hd ⟨6, .data⟩ (by simp) rfl)))
  case fin =>
   intro L a' w' hI hall
   rename_i K2 hK2
   refine hK2 _ _ ?_
   have hw := hI.world
   simp only [hall 6 (by decide), hall 7 (by decide)] at hw
   have rE := hw.sto rfl
   have pE : a'.eval (.tmp 4) = .pointer (some ⟨w.heap.size, 0, none⟩) := hI.fx 4 rfl
   have pe : a'.eval (.tmp 5) = .int .i64 0 := hI.pure 8 5 _ rfl (hall 8 (by decide))
   have hdf : a'.defers = [] := hI.df
   have hS := run_loadVar_mid (P := Tryz.prog) w' w.heap.size 0 _ _ dS rE HD.out.1 HD.out.2 size46
   have hres := results_ct (Q := Tryz.prog) (fn := Tryz.f61) (tmps := a'.tmps) (t := 4) (t' := 5) (W := w') (by rfl) pE hS
   rw [show a'.tmps.getD 5 undef = .int .i64 0 from pe] at hres
   go_wp2
   exact bodyPost_ret (v := .tuple #[x.val, .int .i64 0]) hres hdf ⟨rfl, hw.row, by simpa using hw.mem, TV.out.trans' hw.tch (fun k hk h => by rcases h with h | h | h; exact .inl h; exact .inr h; omega)⟩
theorem wipe_last {w : World} {b bm bw n : Nat} {f f' : Nat → Int} {x : Stp} {sh : Shp} {hand : Int} {fn : Value} {g : Int} {t : Ans} {ix sl gn : Int} (h_ : w.rowIs b 96 14 (gC sh hand fn g t ix sl gn)) (hm : IsMem w bm bw n f) (h1 : b ≠ bm) (h2 : b ≠ bw) (h5 : Shape.R5 sh.a sh.b sh.c sh.d sh.e) (hs : 0 ≤ sl ∧ sl ≤ 4) (ht : ¬ slotIn sh ix (sl + 1))
  (hx : stepOf n f ⟨hand, 2, slotAt sh ix sl, 0, 0, true⟩ = x) (hf' : wordsOf n f ⟨hand, 2, slotAt sh ix sl, 0, 0, true⟩ = f') :
  Calls Tryz.prog 61 #[.pointer (some ⟨b, 0, none⟩), .pointer (some ⟨bm, 0, none⟩)] w fun e w' => e = .returned (.tuple #[x.val, .int .i64 0]) ∧
   w'.rowIs b 96 14 (gC sh hand (.func (.func 60) #[.pointer (some ⟨b, 0, none⟩)] #[]) g t ix (sl + 1) gn) ∧ IsMem w' bm bw n f' ∧ Touch w w' (fun k => k = b ∨ k = bw) := by
 have hl := h_.lt
 have lw := hm.row.lt
 have lm := hm.head.lt
 have hn3 : w.heap.size ≠ b := by omega
 have hn4 : w.heap.size ≠ bw := by omega
 have hn5 : w.heap.size ≠ bm := by omega
 obtain ⟨W1, hW1⟩ : ∃ W1, w.alloc (.cells #[.int .i64 0, .int .i64 0, .int .i64 0, .int .u64 0, .int .u64 0, .bool false] 75) = W1 := ⟨_, rfl⟩
 have R := hide (show W1.rowIs b 96 14 (gC sh hand fn g t ix sl gn) from by rw [← hW1]; exact h_.alloc _)
 have M := hide (show IsMem W1 bm bw n f from by rw [← hW1]; exact hm.alloc _)
 have RZ := hide (show W1.rowIs w.heap.size 75 6 zcell from by rw [← hW1]; exact row0 w)
 have T0 := hide (show Touch w W1 (fun k => k = b ∨ k = bw) from by rw [← hW1]; exact (Touch.refl w _).alloc _)
 have sz : W1.heap.size = w.heap.size + 1 := by rw [← hW1]; simp
 have lW1 : b < W1.heap.size := by omega
 obtain ⟨dS, hdS1, hdS2⟩ := row46
 have HD := hide (And.intro hdS1 hdS2)
 obtain ⟨dG, hdG1, hdG2⟩ := rowSh
 have HDS := hide (And.intro hdG1 hdG2)
 have HX := hide hx
 have HF := hide hf'
 have HW : Hid (0 ≤ (⟨hand, 2, slotAt sh ix sl, 0, 0, true⟩ : Stp).put ∧ (⟨hand, 2, slotAt sh ix sl, 0, 0, true⟩ : Stp).put ≤ 18446744073709551615) := ⟨by show (0 : Int) ≤ 0; omega, by show (0 : Int) ≤ 18446744073709551615; omega⟩
 have HT := hide ht
 have g1 : wrap64 (sl + 1) = sl + 1 := by unfold wrap64; omega
 have H5 := hide h5
 clear hm h_ hx hf' hdS1 hdS2 hdG1 hdG2 h5 ht hs
 go_enter Tryz.func61, Tryz.ntmps61
 go_wp2_with fail
 clear hW1
 refine RG.regionB 20 (ks := [(0, 7), (1, 8), (2, 9), (3, 10), (4, 11), (5, 12), (6, 13), (7, 14), (8, 15), (9, 16), (10, 17), (11, 18), (12, 19), (13, 20), (14, 21), (15, 22), (16, 23), (17, 24)]) (vals := fun i => match i with
   | 0 => .pointer (some ⟨b, 0, none⟩)
   | 1 => .pointer (some ⟨b, 0, none⟩)
   | 2 => .pointer (some ⟨b, 0, none⟩)
   | 3 => .pointer (some ⟨bm, 0, none⟩)
   | 4 => .pointer (some ⟨b, 0, none⟩)
   | 5 => .pointer (some ⟨b, 0, none⟩)
   | 6 => .pointer (some ⟨b, 5, none⟩)
   | 7 => sh.val
   | 8 => .pointer (some ⟨b, 0, none⟩)
   | 9 => .pointer (some ⟨b, 0, none⟩)
   | 10 => .pointer (some ⟨b, 11, none⟩)
   | 11 => .int .i64 ix
   | 12 => .pointer (some ⟨b, 0, none⟩)
   | 13 => .pointer (some ⟨b, 0, none⟩)
   | 14 => .pointer (some ⟨b, 12, none⟩)
   | 15 => .int .i64 sl
   | 16 => .int .i64 (slotAt sh ix sl)
   | 17 => x.val
   | _ => undef) (x := 6) (WI := fun L v_ w' => RG.SW b 96 14 (gC sh hand fn g t ix sl gn) bm bw n f f' x w.heap.size W1 (L 17) (L 18) (L 19) v_ w') (by kernel_rfl) (by kernel_rfl) rfl (by kernel_rfl) (by kernel_rfl) (RG.SW.start R.out M.out RZ.out) ?does ?fin
 case does =>
  intro i o ho
  have hi : i < 20 := RG.lt_of ho rfl
  match i, hi with
  | 0, _ => cases ho; exact RG.rW rfl rfl (fun L a w' hI hd => ex_move rfl (hI.fx 0 rfl))
  | 1, _ => cases ho; exact RG.rW rfl rfl (fun L a w' hI hd => ex_nil rfl (hI.pure 0 _ _ rfl (hd ⟨0, .data⟩ (by simp) rfl)))
  | 2, _ => cases ho; exact RG.rW rfl rfl (fun L a w' hI hd => ex_field rfl (hI.pure 1 _ _ rfl (hd ⟨1, .data⟩ (by simp) rfl)) (fieldG0 w' _))
  | 3, _ => cases ho; exact RG.rW rfl rfl (fun L a w' hI hd => ex_move rfl (hI.fx 1 rfl))
  | 4, _ => cases ho; exact RG.rW rfl rfl (fun L a w' hI hd => ex_move rfl (hI.fx 0 rfl))
  | 5, _ => cases ho; exact RG.rW rfl rfl (fun L a w' hI hd => ex_nil rfl (hI.pure 4 _ _ rfl (hd ⟨4, .data⟩ (by simp) rfl)))
  | 6, _ => cases ho; exact RG.rW rfl rfl (fun L a w' hI hd => ex_field rfl (hI.pure 5 _ _ rfl (hd ⟨5, .data⟩ (by simp) rfl)) (fieldG1 w' _))
  | 7, _ => cases ho; exact RG.rW rfl rfl (fun L a w' hI hd => ex_load_row rfl (hI.pure 6 _ _ rfl (hd ⟨6, .data⟩ (by simp) rfl)) (shrow (sh := sh) (by omega) rfl rfl rfl rfl rfl rfl hI.world.row) HDS.out.1 HDS.out.2 sizeSh)
  | 8, _ => cases ho; exact RG.rW rfl rfl (fun L a w' hI hd => ex_move rfl (hI.fx 0 rfl))
  | 9, _ => cases ho; exact RG.rW rfl rfl (fun L a w' hI hd => ex_nil rfl (hI.pure 8 _ _ rfl (hd ⟨8, .data⟩ (by simp) rfl)))
  | 10, _ => cases ho; exact RG.rW rfl rfl (fun L a w' hI hd => ex_field rfl (hI.pure 9 _ _ rfl (hd ⟨9, .data⟩ (by simp) rfl)) (fieldG2 w' _))
  | 11, _ => cases ho; exact RG.rW rfl rfl (fun L a w' hI hd => ex_load rfl (hI.pure 10 _ _ rfl (hd ⟨10, .data⟩ (by simp) rfl)) (aggI w') (hI.world.row.cell (i := 11) (by omega)))
  | 12, _ => cases ho; exact RG.rW rfl rfl (fun L a w' hI hd => ex_move rfl (hI.fx 0 rfl))
  | 13, _ => cases ho; exact RG.rW rfl rfl (fun L a w' hI hd => ex_nil rfl (hI.pure 12 _ _ rfl (hd ⟨12, .data⟩ (by simp) rfl)))
  | 14, _ => cases ho; exact RG.rW rfl rfl (fun L a w' hI hd => ex_field rfl (hI.pure 13 _ _ rfl (hd ⟨13, .data⟩ (by simp) rfl)) (fieldG3 w' _))
  | 15, _ => cases ho; exact RG.rW rfl rfl (fun L a w' hI hd => ex_load rfl (hI.pure 14 _ _ rfl (hd ⟨14, .data⟩ (by simp) rfl)) (aggI w') (hI.world.row.cell (i := 12) (by omega)))
  | 16, _ => cases ho; exact RG.Does.call rfl (fun L a w' hI hd => call3 rfl (hI.pure 7 _ _ rfl (hd ⟨7, .data⟩ (by simp) rfl)) (hI.pure 11 _ _ rfl (hd ⟨11, .data⟩ (by simp) rfl)) (hI.pure 15 _ _ rfl (hd ⟨15, .data⟩ (by simp) rfl)) rfl (by simp [go_sem])) (fun L v_ w2 hI hL => ((fun w9 : World => slotAt_any H5.out ix sl w9) w2).mono (by rintro e w3 ⟨rfl, hb⟩; exact ⟨rfl, RG.SW.skip (by decide) (by decide) (by decide)  (SWq hI hb)⟩))
  | 17, _ => cases ho; exact RG.Does.call rfl (fun L a w' hI hd => call4 rfl (hI.pure 2 _ _ rfl (hd ⟨2, .data⟩ (by simp) rfl)) (hI.pure 3 _ _ rfl (hd ⟨3, .data⟩ (by simp) rfl)) (hI.pure 16 _ _ rfl (hd ⟨16, .data⟩ (by simp) rfl)) rfl rfl (by simp [go_sem])) (SWcalls h2 hn4 (by decide) (by decide) (fun w2 R2 M2 => store_any (R2.cell (i := 0) (by omega)) R2.lt M2 HW.out HX.out HF.out))
  | 18, _ => cases ho; exact RG.Does.make (u := fun w' => .pointer (some ⟨w'.heap.size, 0, none⟩)) rfl rfl (fun ev w' => alloc46 rfl) (fun L v_ w' h hL => by have := RG.SW.make h hL; rw [← upd_same L 18 true] at this; simpa only [upd_other _ _ (show 17 ≠ 18 by decide), upd_other _ _ (show 19 ≠ 18 by decide)] using this)
  | 19, _ => cases ho; exact RG.Does.put (ls := x.cells) rfl rfl rfl size46 (by simp [Stp.cells, Value.oneCell']) (fun L a w' hI hL hd => ⟨(hI.pure 17 _ _ rfl (hd ⟨17, .data⟩ (by simp) rfl)), by obtain ⟨q, e1, e2, e3⟩ := RG.SW.put hI.world (hd ⟨17, .data⟩ (by simp) rfl) (hd ⟨18, .data⟩ (by simp) rfl) hL; exact ⟨q, 0, e1, e2, by rw [← upd_same L 19 true] at e3; simpa only [upd_other _ _ (show 17 ≠ 19 by decide), upd_other _ _ (show 18 ≠ 19 by decide)] using e3⟩⟩)
 case fin =>
  intro L a' w1 hI hall
  have hw := hI.world
  simp only [hall 17 (by decide), hall 18 (by decide), hall 19 (by decide), if_true] at hw
  obtain ⟨q, hq, hq1, hq2, _, hr⟩ := hw.own rfl
  replace hr := hr rfl
  have ea := act_all a' 39 (by rw [hI.sz]; rfl) hI.df
  simp only [List.range, List.range.loop, List.map] at ea
  rw [hI.fx 0 rfl, hI.fx 1 rfl, hI.fx 2 rfl, hI.fx 3 rfl, hI.fx 4 rfl, hI.fx 5 rfl, hI.fx 25 rfl, hI.fx 26 rfl, hI.fx 27 rfl, hI.fx 28 rfl, hI.fx 29 rfl, hI.fx 30 rfl, hI.fx 31 rfl, hI.fx 32 rfl, hI.fx 33 rfl, hI.fx 34 rfl, hI.fx 35 rfl, hI.fx 36 rfl, hI.fx 37 rfl, hI.fx 38 rfl, hq] at ea
  clear hI hall
  obtain ⟨us, hus⟩ : ∃ us : Nat → Value, ∀ k, a'.eval (.tmp k) = us k := ⟨_, fun _ => rfl⟩
  simp only [hus] at ea
  simp only [show ∀ (ts : Array Value) (ds) (i : Nat), (Act.mk ts ds).eval (.tmp i) = ts.getD i undef from fun _ _ _ => rfl] at ea
  simp at ea
  subst ea
  have M1 := hide (show IsMem w1 bm bw n f' from by simpa using hw.mem)
  have R1 := hide hw.row
  have RR := hide hw.res
  have T1 := hide (T0.out.trans' hw.tch (fun k _ h => .inr h))
  have RQ := hide hr
  have hqb : q ≠ b := by omega
  have hqr : q ≠ w.heap.size := by omega
  have hqm : q ≠ bm ∧ q ≠ bw := by omega
  have lw1 := hw.tch.size
  have l1 : b < w1.heap.size := by omega
  have l2 : w.heap.size < w1.heap.size := by omega
  have l3 : q < w1.heap.size := by omega
  clear hw hr hq
  obtain ⟨s0, s1, s2, s3, s4, s5⟩ := stp6 RQ.out
  have Rw1 := R1
  have Mw1 := M1
  have Qw1 := RR
  have Sw1 := RQ
  have Tw1 := T1
  have db : w1.cell? ⟨b, 12, none⟩ = some (.int .i64 sl) := R1.out.cell (i := 12) (by omega)
  have dfb := R1.out.frozen 12
  obtain ⟨V, hV⟩ : ∃ W', w1.setCell ⟨b, 12, none⟩ (.int .i64 (sl + 1)) = W' := ⟨_, rfl⟩
  have tV : Touch w1 V (fun k => k = b) := by
   rw [← hV]
   exact Touch.trans' (S' := fun k => k = b) (⟨rfl, rfl, rfl, Nat.le_refl _, fun _ _ _ => rfl⟩ : Touch w1 w1 (fun k => k = b)) ((Touch.refl w1 _).setCell (S := fun k => k = b) ⟨b, 12, none⟩ (.inl rfl) _) (fun k _ h => h)
  have RV := hide (show V.rowIs b 96 14 (gC sh hand fn g t ix (sl + 1) gn) from by
   rw [← hV]
   exact World.rowIs.congr (World.rowIs.set (show World.rowIs w1 b 96 14 _ from Rw1.out.of_block rfl) 12 _) (fun i hi => g_sl _ _ _ _ _ _ _ _ _ i hi))
  have QV := hide (Qw1.out.of_block (tV.block _ (by omega) (by omega)))
  have MV := hide (show IsMem V bm bw n f' from ⟨Mw1.out.head.of_block (tV.block _ Mw1.out.head.lt (by omega)), Mw1.out.row.of_block (tV.block _ Mw1.out.row.lt (by omega)), Mw1.out.most, Mw1.out.word⟩)
  have TV := hide (show Touch w V (fun k => k = b ∨ k = bw) from Tw1.out.trans' tV (fun k _ h => .inl h))
  have SV := hide (rangeAt_block Sw1.out (tV.block q (by omega) (by omega)))
  have szV : V.heap.size = w1.heap.size := by rw [← hV] <;> first | (simp; done) | rfl | (simp; rfl)
  clear tV
  go_wp2_with fail
  clear hV s0 s1 s2 s3 s4 s5 db dfb g1
  refine RG.regionB 9 (ks := [(0, 32), (1, 33), (2, 34), (3, 35), (4, 36), (5, 37), (6, 38), (8, 5)]) (vals := fun i => match i with
     | 0 => x.val
     | 1 => .pointer (some ⟨b, 0, none⟩)
     | 2 => .pointer (some ⟨b, 0, none⟩)
     | 3 => .pointer (some ⟨b, 0, none⟩)
     | 4 => .pointer (some ⟨b, 0, none⟩)
     | 5 => .func (.func 60) #[.pointer (some ⟨b, 0, none⟩)] #[]
     | 6 => .int .i64 0
     | 8 => .int .i64 0
     | _ => undef) (x := 2) (WI := fun L v_ w' => RG.SX b 96 14 (fun c_ g_ => gC sh hand (if g_ = true then (.func (.func 60) #[.pointer (some ⟨b, 0, none⟩)] #[]) else fn) g t ix (sl + 1) gn) bm bw n f' f' x w.heap.size (some q) V true (L 6) (L 7) w') (by kernel_rfl) (by kernel_rfl) rfl (by kernel_rfl) (by kernel_rfl) (RG.SX.start (c := true) (g := false) RV.out (by simpa using MV.out) QV.out ⟨h1, h2, hn3, hn5, hn4⟩ (fun k e => by cases e; exact ⟨SV.out, by omega, hqb, hqm.2, hqr⟩)) ?does ?fin
  case does =>
   intro i o ho
   have hi : i < 9 := RG.lt_of ho rfl
   match i, hi with
   | 0, _ => cases ho; exact RG.rX2 rfl rfl (fun L a w' hI hd => ex_load_row rfl (hI.fx 6 rfl) (hI.world.var _ rfl).1 HD.out.1 HD.out.2 size46)
   | 1, _ => cases ho; exact RG.rX2 rfl rfl (fun L a w' hI hd => ex_move rfl (hI.fx 0 rfl))
   | 2, _ => cases ho; exact RG.rX2 rfl rfl (fun L a w' hI hd => ex_nil rfl (hI.pure 1 _ _ rfl (hd ⟨1, .data⟩ (by simp) rfl)))
   | 3, _ => cases ho; exact RG.rX2 rfl rfl (fun L a w' hI hd => ex_field rfl (hI.pure 2 _ _ rfl (hd ⟨2, .data⟩ (by simp) rfl)) (fieldG0 w' _))
   | 4, _ => cases ho; exact RG.rX2 rfl rfl (fun L a w' hI hd => ex_move rfl (hI.fx 0 rfl))
   | 5, _ => cases ho; exact RG.Does.call rfl (fun L a w' hI hd => call1 rfl (hI.pure 4 _ _ rfl (hd ⟨4, .data⟩ (by simp) rfl)) rfl (by simp [go_sem])) (fun L v_ w2 hI hL => (wol_no hI.row H5.out HT.out).mono (by rintro e w3 ⟨rfl, hb⟩; exact ⟨rfl, RG.SX.skip2 (by decide) (by decide)  (SXq hI hb)⟩))
   | 6, _ => cases ho; exact RG.Does.call rfl (fun L a w' hI hd => call2 rfl (hI.pure 3 _ _ rfl (hd ⟨3, .data⟩ (by simp) rfl)) (hI.pure 5 _ _ rfl (hd ⟨5, .data⟩ (by simp) rfl)) rfl (by simp [go_sem])) (fun L v_ w2 hI hL => by have h3 := hI; rw [hL] at h3; refine (goOn_any 60 h3.row (by omega)).mono ?_; rintro e w3 ⟨rfl, r3, t3⟩; refine ⟨rfl, ?_⟩; rw [upd_same, upd_other _ _ (show 7 ≠ 6 by decide)]; exact h3.turn (g' := true) (r3.congr (fun i hi => g_fn _ _ _ _ _ _ _ _ _ i hi)) ⟨h3.mem.head.of_block (t3.block _ h3.mem.head.lt (fun e => h1 e.symm)), h3.mem.row.of_block (t3.block _ h3.mem.row.lt (fun e => h2 e.symm)), h3.mem.most, h3.mem.word⟩ t3 (fun k e => .inl e))
   | 7, _ => cases ho; exact RG.Does.put (ls := x.cells) rfl rfl rfl size46 (by simp [Stp.cells, Value.oneCell']) (fun L a w' hI hL hdd => ⟨(hI.pure 0 _ _ rfl (hdd ⟨0, .data⟩ (by simp) rfl)), by obtain ⟨e2, e3⟩ := RG.SX.put hI.world; exact ⟨w.heap.size, 0, hI.fx 4 rfl, e2, by show RG.SX b 96 14 (fun c_ g_ => gC sh hand (if g_ = true then (.func (.func 60) #[.pointer (some ⟨b, 0, none⟩)] #[]) else fn) g t ix (sl + 1) gn) bm bw n f' f' x w.heap.size (some q) V true (upd L 7 true 6) (upd L 7 true 7) _; rw [upd_same, upd_other _ _ (show 6 ≠ 7 by decide)]; exact e3⟩⟩)
   | 8, _ => cases ho; exact RG.rX2 rfl rfl (fun L a w' hI hd => ex_assign rfl (hI.pure 6 _ _ rfl (hd ⟨6, .data⟩ (by simp) rfl)))
  case fin =>
   intro L a' w' hI hall
   rename_i K2 hK2
   refine hK2 _ _ ?_
   have hw := hI.world
   simp only [hall 6 (by decide), hall 7 (by decide)] at hw
   have rE := hw.sto rfl
   have pE : a'.eval (.tmp 4) = .pointer (some ⟨w.heap.size, 0, none⟩) := hI.fx 4 rfl
   have pe : a'.eval (.tmp 5) = .int .i64 0 := hI.pure 8 5 _ rfl (hall 8 (by decide))
   have hdf : a'.defers = [] := hI.df
   have hS := run_loadVar_mid (P := Tryz.prog) w' w.heap.size 0 _ _ dS rE HD.out.1 HD.out.2 size46
   have hres := results_ct (Q := Tryz.prog) (fn := Tryz.f61) (tmps := a'.tmps) (t := 4) (t' := 5) (W := w') (by rfl) pE hS
   rw [show a'.tmps.getD 5 undef = .int .i64 0 from pe] at hres
   go_wp2
   exact bodyPost_ret (v := .tuple #[x.val, .int .i64 0]) hres hdf ⟨rfl, hw.row, by simpa using hw.mem, TV.out.trans' hw.tch (fun k hk h => by rcases h with h | h | h; exact .inl h; exact .inr h; omega)⟩
theorem leave_last {w : World} {b bm bw n : Nat} {f f' : Nat → Int} {x : Stp} {sh : Shp} {hand : Int} {fn : Value} {g : Int} {t : Ans} {ix sl gn : Int} (h_ : w.rowIs b 96 14 (gC sh hand fn g t ix sl gn)) (hm : IsMem w bm bw n f) (h1 : b ≠ bm) (h2 : b ≠ bw) (h5 : Shape.R5 sh.a sh.b sh.c sh.d sh.e) (hn : 0 ≤ gn ∧ gn ≤ 4294967295) (hq : (gn == 4294967295) = true)
  (hx : stepOf n f ⟨hand, 2, headAt sh ix, 0, hd 0 gn, true⟩ = x) (hf' : wordsOf n f ⟨hand, 2, headAt sh ix, 0, hd 0 gn, true⟩ = f') :
  Calls Tryz.prog 94 #[.pointer (some ⟨b, 0, none⟩), .pointer (some ⟨bm, 0, none⟩)] w fun e w' => e = .returned (.tuple #[x.val, .int .i64 0]) ∧
   w'.rowIs b 96 14 (gC sh hand (.func (.func 111) #[.pointer (some ⟨b, 0, none⟩)] #[]) g t ix sl gn) ∧ IsMem w' bm bw n f' ∧ Touch w w' (fun k => k = b ∨ k = bw) := by
 have hl := h_.lt
 have lw := hm.row.lt
 have lm := hm.head.lt
 have hn3 : w.heap.size ≠ b := by omega
 have hn4 : w.heap.size ≠ bw := by omega
 have hn5 : w.heap.size ≠ bm := by omega
 obtain ⟨W1, hW1⟩ : ∃ W1, w.alloc (.cells #[.int .i64 0, .int .i64 0, .int .i64 0, .int .u64 0, .int .u64 0, .bool false] 75) = W1 := ⟨_, rfl⟩
 have R := hide (show W1.rowIs b 96 14 (gC sh hand fn g t ix sl gn) from by rw [← hW1]; exact h_.alloc _)
 have M := hide (show IsMem W1 bm bw n f from by rw [← hW1]; exact hm.alloc _)
 have RZ := hide (show W1.rowIs w.heap.size 75 6 zcell from by rw [← hW1]; exact row0 w)
 have T0 := hide (show Touch w W1 (fun k => k = b ∨ k = bw) from by rw [← hW1]; exact (Touch.refl w _).alloc _)
 have sz : W1.heap.size = w.heap.size + 1 := by rw [← hW1]; simp
 have lW1 : b < W1.heap.size := by omega
 obtain ⟨⟨e0, ef0⟩, ⟨e1, ef1⟩, ⟨e2, ef2⟩, ⟨e3, ef3⟩, ⟨e4, ef4⟩, ⟨e5, ef5⟩, ⟨e6, ef6⟩, ⟨e7, ef7⟩, ⟨e8, ef8⟩, ⟨e9, ef9⟩, ⟨e10, ef10⟩, ⟨e11, ef11⟩, ⟨e12, ef12⟩, e13, ef13⟩ := g_facts R.out
 obtain ⟨dS, hdS1, hdS2⟩ := row46
 have HD := hide (And.intro hdS1 hdS2)
 obtain ⟨dG, hdG1, hdG2⟩ := rowSh
 have HDS := hide (And.intro hdG1 hdG2)
 have HX := hide hx
 have HF := hide hf'
 have HW : Hid (0 ≤ (⟨hand, 2, headAt sh ix, 0, hd 0 gn, true⟩ : Stp).put ∧ (⟨hand, 2, headAt sh ix, 0, hd 0 gn, true⟩ : Stp).put ≤ 18446744073709551615) := ⟨hd_lo _ _, by have := hd_hi 0 gn; show hd 0 gn ≤ _; omega⟩
 have g1 : IntKind.u64.wrap (gn + 1) = gn + 1 := by rw [IntKind.wrap_u64]; omega
 have H5 := hide h5
 clear hm h_ hx hf' hdS1 hdS2 hdG1 hdG2 h5 hn
 go_enter Tryz.func94, Tryz.ntmps94
 go_wp2_with fail
 clear hW1 e0 ef0 e1 ef1 e2 ef2 e3 ef3 e4 ef4 e5 ef5 e6 ef6 e7 ef7 e8 ef8 e9 ef9 e10 ef10 e11 ef11 e12 ef12 e13 ef13
 clear g1 hq
 have RW1 := R
 have MW1 := M
 have QW1 := RZ
 have TW1 := T0
 refine RG.regionB 23 (ks := [(0, 26), (1, 27), (2, 28), (3, 29), (4, 30), (5, 31), (6, 32), (7, 33), (8, 34), (9, 35), (10, 36), (11, 37), (12, 38), (13, 39), (14, 40), (15, 41), (16, 42), (17, 43), (18, 44), (19, 45), (20, 46), (22, 5)]) (vals := fun i => match i with
    | 0 => .pointer (some ⟨b, 0, none⟩)
    | 1 => .pointer (some ⟨b, 0, none⟩)
    | 2 => .pointer (some ⟨b, 0, none⟩)
    | 3 => .pointer (some ⟨bm, 0, none⟩)
    | 4 => .pointer (some ⟨b, 0, none⟩)
    | 5 => .pointer (some ⟨b, 0, none⟩)
    | 6 => .pointer (some ⟨b, 5, none⟩)
    | 7 => sh.val
    | 8 => .pointer (some ⟨b, 0, none⟩)
    | 9 => .pointer (some ⟨b, 0, none⟩)
    | 10 => .pointer (some ⟨b, 11, none⟩)
    | 11 => .int .i64 ix
    | 12 => .int .i64 (headAt sh ix)
    | 13 => .int .u64 gn
    | 14 => .int .u64 (hd 0 gn)
    | 15 => x.val
    | 16 => .pointer (some ⟨b, 0, none⟩)
    | 17 => .pointer (some ⟨b, 0, none⟩)
    | 18 => .pointer (some ⟨b, 0, none⟩)
    | 19 => .func (.func 111) #[.pointer (some ⟨b, 0, none⟩)] #[]
    | 20 => .int .i64 0
    | 22 => .int .i64 0
    | _ => undef) (x := 2) (WI := fun L v_ w' => RG.SX b 96 14 (fun c_ g_ => gC sh hand (if g_ = true then (.func (.func 111) #[.pointer (some ⟨b, 0, none⟩)] #[]) else fn) g t ix sl gn) bm bw n f f' x w.heap.size none W1 (L 15) (L 20) (L 21) w') (by kernel_rfl) (by kernel_rfl) rfl (by kernel_rfl) (by kernel_rfl) (RG.SX.start (c := false) (g := false) RW1.out (by simpa using MW1.out) QW1.out ⟨h1, h2, hn3, hn5, hn4⟩ (fun k e => by cases e)) ?does ?fin
 case does =>
  intro i o ho
  have hi : i < 23 := RG.lt_of ho rfl
  match i, hi with
  | 0, _ => cases ho; exact RG.rX rfl rfl (fun L a w' hI hd => ex_move rfl (hI.fx 0 rfl))
  | 1, _ => cases ho; exact RG.rX rfl rfl (fun L a w' hI hd => ex_nil rfl (hI.pure 0 _ _ rfl (hd ⟨0, .data⟩ (by simp) rfl)))
  | 2, _ => cases ho; exact RG.rX rfl rfl (fun L a w' hI hd => ex_field rfl (hI.pure 1 _ _ rfl (hd ⟨1, .data⟩ (by simp) rfl)) (fieldG0 w' _))
  | 3, _ => cases ho; exact RG.rX rfl rfl (fun L a w' hI hd => ex_move rfl (hI.fx 1 rfl))
  | 4, _ => cases ho; exact RG.rX rfl rfl (fun L a w' hI hd => ex_move rfl (hI.fx 0 rfl))
  | 5, _ => cases ho; exact RG.rX rfl rfl (fun L a w' hI hd => ex_nil rfl (hI.pure 4 _ _ rfl (hd ⟨4, .data⟩ (by simp) rfl)))
  | 6, _ => cases ho; exact RG.rX rfl rfl (fun L a w' hI hd => ex_field rfl (hI.pure 5 _ _ rfl (hd ⟨5, .data⟩ (by simp) rfl)) (fieldG1 w' _))
  | 7, _ => cases ho; exact RG.rX rfl rfl (fun L a w' hI hd => ex_load_row rfl (hI.pure 6 _ _ rfl (hd ⟨6, .data⟩ (by simp) rfl)) (shrow (sh := sh) (by omega) rfl rfl rfl rfl rfl rfl hI.world.row) HDS.out.1 HDS.out.2 sizeSh)
  | 8, _ => cases ho; exact RG.rX rfl rfl (fun L a w' hI hd => ex_move rfl (hI.fx 0 rfl))
  | 9, _ => cases ho; exact RG.rX rfl rfl (fun L a w' hI hd => ex_nil rfl (hI.pure 8 _ _ rfl (hd ⟨8, .data⟩ (by simp) rfl)))
  | 10, _ => cases ho; exact RG.rX rfl rfl (fun L a w' hI hd => ex_field rfl (hI.pure 9 _ _ rfl (hd ⟨9, .data⟩ (by simp) rfl)) (fieldG2 w' _))
  | 11, _ => cases ho; exact RG.rX rfl rfl (fun L a w' hI hd => ex_load rfl (hI.pure 10 _ _ rfl (hd ⟨10, .data⟩ (by simp) rfl)) (aggI w') (hI.world.row.cell (i := 11) (by omega)))
  | 12, _ => cases ho; exact RG.Does.call rfl (fun L a w' hI hd => call2 rfl (hI.pure 7 _ _ rfl (hd ⟨7, .data⟩ (by simp) rfl)) (hI.pure 11 _ _ rfl (hd ⟨11, .data⟩ (by simp) rfl)) rfl (by simp [go_sem])) (fun L v_ w2 hI hL => ((fun w9 : World => headAt_any H5.out ix w9) w2).mono (by rintro e w3 ⟨rfl, hb⟩; exact ⟨rfl, RG.SX.skip (by decide) (by decide) (by decide)  (SXq hI hb)⟩))
  | 13, _ => cases ho; exact RG.rX rfl rfl (fun L a w' hI hd => ex_move rfl (hI.fx 7 rfl))
  | 14, _ => cases ho; exact RG.Does.ask rfl (fun L v_ w' h => RG.SX.skip (by decide) (by decide) (by decide) h) (fun L a w' hI hd => call2 rfl rfl (hI.pure 13 _ _ rfl (hd ⟨13, .data⟩ (by simp) rfl)) rfl (by simp [go_sem])) (fun w9 : World => handle_any 0 gn w9)
  | 15, _ => cases ho; exact RG.Does.call rfl (fun L a w' hI hd => call4 rfl (hI.pure 2 _ _ rfl (hd ⟨2, .data⟩ (by simp) rfl)) (hI.pure 3 _ _ rfl (hd ⟨3, .data⟩ (by simp) rfl)) (hI.pure 12 _ _ rfl (hd ⟨12, .data⟩ (by simp) rfl)) (hI.pure 14 _ _ rfl (hd ⟨14, .data⟩ (by simp) rfl)) rfl (by simp [go_sem])) (fun L v_ w2 hI hL => by have h3 := hI; rw [hL] at h3; refine (row_act h3.row h2 (store_any (show World.cell? w2 ⟨b, 0, none⟩ = some (.int .i64 hand) from h3.row.cell (i := 0) (by omega)) h3.row.lt (by simpa using h3.mem) HW.out HX.out HF.out)).mono ?_; rintro e w3 ⟨rfl, r3, m3, t3⟩; refine ⟨rfl, ?_⟩; rw [upd_same, upd_other _ _ (show 20 ≠ 15 by decide), upd_other _ _ (show 21 ≠ 15 by decide)]; exact h3.turn (c' := true) (r3.congr (fun i hi => (fun _ _ => rfl) i hi)) (by simpa using m3) t3 (fun k e => e))
  | 16, _ => cases ho; exact RG.rX rfl rfl (fun L a w' hI hd => ex_move rfl (hI.fx 0 rfl))
  | 17, _ => cases ho; exact RG.rX rfl rfl (fun L a w' hI hd => ex_nil rfl (hI.pure 16 _ _ rfl (hd ⟨16, .data⟩ (by simp) rfl)))
  | 18, _ => cases ho; exact RG.rX rfl rfl (fun L a w' hI hd => ex_field rfl (hI.pure 17 _ _ rfl (hd ⟨17, .data⟩ (by simp) rfl)) (fieldG0 w' _))
  | 19, _ => cases ho; exact RG.rX rfl rfl (fun L a w' hI hd => ex_move rfl (hI.fx 6 rfl))
  | 20, _ => cases ho; exact RG.Does.call rfl (fun L a w' hI hd => call2 rfl (hI.pure 18 _ _ rfl (hd ⟨18, .data⟩ (by simp) rfl)) (hI.pure 19 _ _ rfl (hd ⟨19, .data⟩ (by simp) rfl)) rfl (by simp [go_sem])) (fun L v_ w2 hI hL => by have h3 := hI; rw [hL] at h3; refine (goOn_any 111 h3.row (by omega)).mono ?_; rintro e w3 ⟨rfl, r3, t3⟩; refine ⟨rfl, ?_⟩; rw [upd_same, upd_other _ _ (show 15 ≠ 20 by decide), upd_other _ _ (show 21 ≠ 20 by decide)]; exact h3.turn (g' := true) (r3.congr (fun i hi => g_fn _ _ _ _ _ _ _ _ _ i hi)) ⟨h3.mem.head.of_block (t3.block _ h3.mem.head.lt (fun e => h1 e.symm)), h3.mem.row.of_block (t3.block _ h3.mem.row.lt (fun e => h2 e.symm)), h3.mem.most, h3.mem.word⟩ t3 (fun k e => .inl e))
  | 21, _ => cases ho; exact RG.Does.put (ls := x.cells) rfl rfl rfl size46 (by simp [Stp.cells, Value.oneCell']) (fun L a w' hI hL hdd => ⟨(hI.pure 15 _ _ rfl (hdd ⟨15, .data⟩ (by simp) rfl)), by obtain ⟨e2, e3⟩ := RG.SX.put hI.world; exact ⟨w.heap.size, 0, hI.fx 4 rfl, e2, by show RG.SX b 96 14 (fun c_ g_ => gC sh hand (if g_ = true then (.func (.func 111) #[.pointer (some ⟨b, 0, none⟩)] #[]) else fn) g t ix sl gn) bm bw n f f' x w.heap.size none W1 (upd L 21 true 15) (upd L 21 true 20) (upd L 21 true 21) _; rw [upd_same, upd_other _ _ (show 15 ≠ 21 by decide), upd_other _ _ (show 20 ≠ 21 by decide)]; exact e3⟩⟩)
  | 22, _ => cases ho; exact RG.rX rfl rfl (fun L a w' hI hd => ex_assign rfl (hI.pure 20 _ _ rfl (hd ⟨20, .data⟩ (by simp) rfl)))
 case fin =>
  intro L a' w' hI hall
  rename_i K2 hK2
  refine hK2 _ _ ?_
  have hw := hI.world
  simp only [hall 15 (by decide), hall 20 (by decide), hall 21 (by decide)] at hw
  have rE := hw.sto rfl
  have pE : a'.eval (.tmp 4) = .pointer (some ⟨w.heap.size, 0, none⟩) := hI.fx 4 rfl
  have pe : a'.eval (.tmp 5) = .int .i64 0 := hI.pure 22 5 _ rfl (hall 22 (by decide))
  have hdf : a'.defers = [] := hI.df
  have hS := run_loadVar_mid (P := Tryz.prog) w' w.heap.size 0 _ _ dS rE HD.out.1 HD.out.2 size46
  have hres := results_ct (Q := Tryz.prog) (fn := Tryz.f94) (tmps := a'.tmps) (t := 4) (t' := 5) (W := w') (by rfl) pE hS
  rw [show a'.tmps.getD 5 undef = .int .i64 0 from pe] at hres
  go_wp2
  exact bodyPost_ret (v := .tuple #[x.val, .int .i64 0]) hres hdf ⟨rfl, hw.row, by simpa using hw.mem, TW1.out.trans' hw.tch (fun k hk h => by rcases h with h | h | h; exact .inl h; exact .inr h; omega)⟩
theorem leave_next {w : World} {b bm bw n : Nat} {f f' : Nat → Int} {x : Stp} {sh : Shp} {hand : Int} {fn : Value} {g : Int} {t : Ans} {ix sl gn : Int} (h_ : w.rowIs b 96 14 (gC sh hand fn g t ix sl gn)) (hm : IsMem w bm bw n f) (h1 : b ≠ bm) (h2 : b ≠ bw) (h5 : Shape.R5 sh.a sh.b sh.c sh.d sh.e) (hn : 0 ≤ gn ∧ gn ≤ 4294967295) (hq : (gn == 4294967295) = false)
  (hx : stepOf n f ⟨hand, 2, headAt sh ix, 0, hd 0 (gn + 1), true⟩ = x) (hf' : wordsOf n f ⟨hand, 2, headAt sh ix, 0, hd 0 (gn + 1), true⟩ = f') :
  Calls Tryz.prog 94 #[.pointer (some ⟨b, 0, none⟩), .pointer (some ⟨bm, 0, none⟩)] w fun e w' => e = .returned (.tuple #[x.val, .int .i64 0]) ∧
   w'.rowIs b 96 14 (gC sh hand (.func (.func 110) #[.pointer (some ⟨b, 0, none⟩)] #[]) g t ix sl gn) ∧ IsMem w' bm bw n f' ∧ Touch w w' (fun k => k = b ∨ k = bw) := by
 have hl := h_.lt
 have lw := hm.row.lt
 have lm := hm.head.lt
 have hn3 : w.heap.size ≠ b := by omega
 have hn4 : w.heap.size ≠ bw := by omega
 have hn5 : w.heap.size ≠ bm := by omega
 obtain ⟨W1, hW1⟩ : ∃ W1, w.alloc (.cells #[.int .i64 0, .int .i64 0, .int .i64 0, .int .u64 0, .int .u64 0, .bool false] 75) = W1 := ⟨_, rfl⟩
 have R := hide (show W1.rowIs b 96 14 (gC sh hand fn g t ix sl gn) from by rw [← hW1]; exact h_.alloc _)
 have M := hide (show IsMem W1 bm bw n f from by rw [← hW1]; exact hm.alloc _)
 have RZ := hide (show W1.rowIs w.heap.size 75 6 zcell from by rw [← hW1]; exact row0 w)
 have T0 := hide (show Touch w W1 (fun k => k = b ∨ k = bw) from by rw [← hW1]; exact (Touch.refl w _).alloc _)
 have sz : W1.heap.size = w.heap.size + 1 := by rw [← hW1]; simp
 have lW1 : b < W1.heap.size := by omega
 obtain ⟨⟨e0, ef0⟩, ⟨e1, ef1⟩, ⟨e2, ef2⟩, ⟨e3, ef3⟩, ⟨e4, ef4⟩, ⟨e5, ef5⟩, ⟨e6, ef6⟩, ⟨e7, ef7⟩, ⟨e8, ef8⟩, ⟨e9, ef9⟩, ⟨e10, ef10⟩, ⟨e11, ef11⟩, ⟨e12, ef12⟩, e13, ef13⟩ := g_facts R.out
 obtain ⟨dS, hdS1, hdS2⟩ := row46
 have HD := hide (And.intro hdS1 hdS2)
 obtain ⟨dG, hdG1, hdG2⟩ := rowSh
 have HDS := hide (And.intro hdG1 hdG2)
 have HX := hide hx
 have HF := hide hf'
 have HW : Hid (0 ≤ (⟨hand, 2, headAt sh ix, 0, hd 0 (gn + 1), true⟩ : Stp).put ∧ (⟨hand, 2, headAt sh ix, 0, hd 0 (gn + 1), true⟩ : Stp).put ≤ 18446744073709551615) := ⟨hd_lo _ _, by have := hd_hi 0 (gn + 1); show hd 0 (gn + 1) ≤ _; omega⟩
 have g1 : IntKind.u64.wrap (gn + 1) = gn + 1 := by rw [IntKind.wrap_u64]; omega
 have H5 := hide h5
 clear hm h_ hx hf' hdS1 hdS2 hdG1 hdG2 h5 hn
 go_enter Tryz.func94, Tryz.ntmps94
 go_wp2_with fail
 clear hW1 e0 ef0 e1 ef1 e2 ef2 e3 ef3 e4 ef4 e5 ef5 e6 ef6 e7 ef7 e8 ef8 e9 ef9 e10 ef10 e11 ef11 e12 ef12 e13 ef13
 clear g1 hq
 have RW1 := R
 have MW1 := M
 have QW1 := RZ
 have TW1 := T0
 refine RG.regionB 23 (ks := [(0, 26), (1, 27), (2, 28), (3, 29), (4, 30), (5, 31), (6, 32), (7, 33), (8, 34), (9, 35), (10, 36), (11, 37), (12, 38), (13, 39), (14, 40), (15, 41), (16, 42), (17, 43), (18, 44), (19, 45), (20, 46), (22, 5)]) (vals := fun i => match i with
    | 0 => .pointer (some ⟨b, 0, none⟩)
    | 1 => .pointer (some ⟨b, 0, none⟩)
    | 2 => .pointer (some ⟨b, 0, none⟩)
    | 3 => .pointer (some ⟨bm, 0, none⟩)
    | 4 => .pointer (some ⟨b, 0, none⟩)
    | 5 => .pointer (some ⟨b, 0, none⟩)
    | 6 => .pointer (some ⟨b, 5, none⟩)
    | 7 => sh.val
    | 8 => .pointer (some ⟨b, 0, none⟩)
    | 9 => .pointer (some ⟨b, 0, none⟩)
    | 10 => .pointer (some ⟨b, 11, none⟩)
    | 11 => .int .i64 ix
    | 12 => .int .i64 (headAt sh ix)
    | 13 => .int .u64 (gn + 1)
    | 14 => .int .u64 (hd 0 (gn + 1))
    | 15 => x.val
    | 16 => .pointer (some ⟨b, 0, none⟩)
    | 17 => .pointer (some ⟨b, 0, none⟩)
    | 18 => .pointer (some ⟨b, 0, none⟩)
    | 19 => .func (.func 110) #[.pointer (some ⟨b, 0, none⟩)] #[]
    | 20 => .int .i64 0
    | 22 => .int .i64 0
    | _ => undef) (x := 2) (WI := fun L v_ w' => RG.SX b 96 14 (fun c_ g_ => gC sh hand (if g_ = true then (.func (.func 110) #[.pointer (some ⟨b, 0, none⟩)] #[]) else fn) g t ix sl gn) bm bw n f f' x w.heap.size none W1 (L 15) (L 20) (L 21) w') (by kernel_rfl) (by kernel_rfl) rfl (by kernel_rfl) (by kernel_rfl) (RG.SX.start (c := false) (g := false) RW1.out (by simpa using MW1.out) QW1.out ⟨h1, h2, hn3, hn5, hn4⟩ (fun k e => by cases e)) ?does ?fin
 case does =>
  intro i o ho
  have hi : i < 23 := RG.lt_of ho rfl
  match i, hi with
  | 0, _ => cases ho; exact RG.rX rfl rfl (fun L a w' hI hd => ex_move rfl (hI.fx 0 rfl))
  | 1, _ => cases ho; exact RG.rX rfl rfl (fun L a w' hI hd => ex_nil rfl (hI.pure 0 _ _ rfl (hd ⟨0, .data⟩ (by simp) rfl)))
  | 2, _ => cases ho; exact RG.rX rfl rfl (fun L a w' hI hd => ex_field rfl (hI.pure 1 _ _ rfl (hd ⟨1, .data⟩ (by simp) rfl)) (fieldG0 w' _))
  | 3, _ => cases ho; exact RG.rX rfl rfl (fun L a w' hI hd => ex_move rfl (hI.fx 1 rfl))
  | 4, _ => cases ho; exact RG.rX rfl rfl (fun L a w' hI hd => ex_move rfl (hI.fx 0 rfl))
  | 5, _ => cases ho; exact RG.rX rfl rfl (fun L a w' hI hd => ex_nil rfl (hI.pure 4 _ _ rfl (hd ⟨4, .data⟩ (by simp) rfl)))
  | 6, _ => cases ho; exact RG.rX rfl rfl (fun L a w' hI hd => ex_field rfl (hI.pure 5 _ _ rfl (hd ⟨5, .data⟩ (by simp) rfl)) (fieldG1 w' _))
  | 7, _ => cases ho; exact RG.rX rfl rfl (fun L a w' hI hd => ex_load_row rfl (hI.pure 6 _ _ rfl (hd ⟨6, .data⟩ (by simp) rfl)) (shrow (sh := sh) (by omega) rfl rfl rfl rfl rfl rfl hI.world.row) HDS.out.1 HDS.out.2 sizeSh)
  | 8, _ => cases ho; exact RG.rX rfl rfl (fun L a w' hI hd => ex_move rfl (hI.fx 0 rfl))
  | 9, _ => cases ho; exact RG.rX rfl rfl (fun L a w' hI hd => ex_nil rfl (hI.pure 8 _ _ rfl (hd ⟨8, .data⟩ (by simp) rfl)))
  | 10, _ => cases ho; exact RG.rX rfl rfl (fun L a w' hI hd => ex_field rfl (hI.pure 9 _ _ rfl (hd ⟨9, .data⟩ (by simp) rfl)) (fieldG2 w' _))
  | 11, _ => cases ho; exact RG.rX rfl rfl (fun L a w' hI hd => ex_load rfl (hI.pure 10 _ _ rfl (hd ⟨10, .data⟩ (by simp) rfl)) (aggI w') (hI.world.row.cell (i := 11) (by omega)))
  | 12, _ => cases ho; exact RG.Does.call rfl (fun L a w' hI hd => call2 rfl (hI.pure 7 _ _ rfl (hd ⟨7, .data⟩ (by simp) rfl)) (hI.pure 11 _ _ rfl (hd ⟨11, .data⟩ (by simp) rfl)) rfl (by simp [go_sem])) (fun L v_ w2 hI hL => ((fun w9 : World => headAt_any H5.out ix w9) w2).mono (by rintro e w3 ⟨rfl, hb⟩; exact ⟨rfl, RG.SX.skip (by decide) (by decide) (by decide)  (SXq hI hb)⟩))
  | 13, _ => cases ho; exact RG.rX rfl rfl (fun L a w' hI hd => ex_move rfl (hI.fx 7 rfl))
  | 14, _ => cases ho; exact RG.Does.ask rfl (fun L v_ w' h => RG.SX.skip (by decide) (by decide) (by decide) h) (fun L a w' hI hd => call2 rfl rfl (hI.pure 13 _ _ rfl (hd ⟨13, .data⟩ (by simp) rfl)) rfl (by simp [go_sem])) (fun w9 : World => handle_any 0 (gn + 1) w9)
  | 15, _ => cases ho; exact RG.Does.call rfl (fun L a w' hI hd => call4 rfl (hI.pure 2 _ _ rfl (hd ⟨2, .data⟩ (by simp) rfl)) (hI.pure 3 _ _ rfl (hd ⟨3, .data⟩ (by simp) rfl)) (hI.pure 12 _ _ rfl (hd ⟨12, .data⟩ (by simp) rfl)) (hI.pure 14 _ _ rfl (hd ⟨14, .data⟩ (by simp) rfl)) rfl (by simp [go_sem])) (fun L v_ w2 hI hL => by have h3 := hI; rw [hL] at h3; refine (row_act h3.row h2 (store_any (show World.cell? w2 ⟨b, 0, none⟩ = some (.int .i64 hand) from h3.row.cell (i := 0) (by omega)) h3.row.lt (by simpa using h3.mem) HW.out HX.out HF.out)).mono ?_; rintro e w3 ⟨rfl, r3, m3, t3⟩; refine ⟨rfl, ?_⟩; rw [upd_same, upd_other _ _ (show 20 ≠ 15 by decide), upd_other _ _ (show 21 ≠ 15 by decide)]; exact h3.turn (c' := true) (r3.congr (fun i hi => (fun _ _ => rfl) i hi)) (by simpa using m3) t3 (fun k e => e))
  | 16, _ => cases ho; exact RG.rX rfl rfl (fun L a w' hI hd => ex_move rfl (hI.fx 0 rfl))
  | 17, _ => cases ho; exact RG.rX rfl rfl (fun L a w' hI hd => ex_nil rfl (hI.pure 16 _ _ rfl (hd ⟨16, .data⟩ (by simp) rfl)))
  | 18, _ => cases ho; exact RG.rX rfl rfl (fun L a w' hI hd => ex_field rfl (hI.pure 17 _ _ rfl (hd ⟨17, .data⟩ (by simp) rfl)) (fieldG0 w' _))
  | 19, _ => cases ho; exact RG.rX rfl rfl (fun L a w' hI hd => ex_move rfl (hI.fx 6 rfl))
  | 20, _ => cases ho; exact RG.Does.call rfl (fun L a w' hI hd => call2 rfl (hI.pure 18 _ _ rfl (hd ⟨18, .data⟩ (by simp) rfl)) (hI.pure 19 _ _ rfl (hd ⟨19, .data⟩ (by simp) rfl)) rfl (by simp [go_sem])) (fun L v_ w2 hI hL => by have h3 := hI; rw [hL] at h3; refine (goOn_any 110 h3.row (by omega)).mono ?_; rintro e w3 ⟨rfl, r3, t3⟩; refine ⟨rfl, ?_⟩; rw [upd_same, upd_other _ _ (show 15 ≠ 20 by decide), upd_other _ _ (show 21 ≠ 20 by decide)]; exact h3.turn (g' := true) (r3.congr (fun i hi => g_fn _ _ _ _ _ _ _ _ _ i hi)) ⟨h3.mem.head.of_block (t3.block _ h3.mem.head.lt (fun e => h1 e.symm)), h3.mem.row.of_block (t3.block _ h3.mem.row.lt (fun e => h2 e.symm)), h3.mem.most, h3.mem.word⟩ t3 (fun k e => .inl e))
  | 21, _ => cases ho; exact RG.Does.put (ls := x.cells) rfl rfl rfl size46 (by simp [Stp.cells, Value.oneCell']) (fun L a w' hI hL hdd => ⟨(hI.pure 15 _ _ rfl (hdd ⟨15, .data⟩ (by simp) rfl)), by obtain ⟨e2, e3⟩ := RG.SX.put hI.world; exact ⟨w.heap.size, 0, hI.fx 4 rfl, e2, by show RG.SX b 96 14 (fun c_ g_ => gC sh hand (if g_ = true then (.func (.func 110) #[.pointer (some ⟨b, 0, none⟩)] #[]) else fn) g t ix sl gn) bm bw n f f' x w.heap.size none W1 (upd L 21 true 15) (upd L 21 true 20) (upd L 21 true 21) _; rw [upd_same, upd_other _ _ (show 15 ≠ 21 by decide), upd_other _ _ (show 20 ≠ 21 by decide)]; exact e3⟩⟩)
  | 22, _ => cases ho; exact RG.rX rfl rfl (fun L a w' hI hd => ex_assign rfl (hI.pure 20 _ _ rfl (hd ⟨20, .data⟩ (by simp) rfl)))
 case fin =>
  intro L a' w' hI hall
  rename_i K2 hK2
  refine hK2 _ _ ?_
  have hw := hI.world
  simp only [hall 15 (by decide), hall 20 (by decide), hall 21 (by decide)] at hw
  have rE := hw.sto rfl
  have pE : a'.eval (.tmp 4) = .pointer (some ⟨w.heap.size, 0, none⟩) := hI.fx 4 rfl
  have pe : a'.eval (.tmp 5) = .int .i64 0 := hI.pure 22 5 _ rfl (hall 22 (by decide))
  have hdf : a'.defers = [] := hI.df
  have hS := run_loadVar_mid (P := Tryz.prog) w' w.heap.size 0 _ _ dS rE HD.out.1 HD.out.2 size46
  have hres := results_ct (Q := Tryz.prog) (fn := Tryz.f94) (tmps := a'.tmps) (t := 4) (t' := 5) (W := w') (by rfl) pE hS
  rw [show a'.tmps.getD 5 undef = .int .i64 0 from pe] at hres
  go_wp2
  exact bodyPost_ret (v := .tuple #[x.val, .int .i64 0]) hres hdf ⟨rfl, hw.row, by simpa using hw.mem, TW1.out.trans' hw.tch (fun k hk h => by rcases h with h | h | h; exact .inl h; exact .inr h; omega)⟩
end Rom
end
end Go.Proofs.YtmikhglnomgbfaaGreat
