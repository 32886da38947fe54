/-
  Lemmas: RoomB.
-/
import Derived.Test.YtmikhglnomgbfaaGreatTp29
import Derived.Test.YtmikhglnomgbfaaGreatTp18
namespace Go.Proofs.YtmikhglnomgbfaaGreat
set_option maxHeartbeats 8000000
open Go.RowKit
set_option linter.unusedVariables false
set_option linter.unusedSimpArgs false
set_option maxRecDepth 20000
section
namespace Rom
open Hp
theorem peek_any {w : World} {b bm bw n : Nat} {f f' : Nat → Int} {x : Stp} {sh : Shp} {hand : Int} {fn : Value} {g : Int} {t : Ans} {fl : Bool} {c xb gn : Int} (h_ : w.rowIs b 92 15 (mC sh hand fn g t fl c xb gn)) (hm : IsMem w bm bw n f) (h1 : b ≠ bm) (h2 : b ≠ bw) (h5 : Shape.R5 sh.a sh.b sh.c sh.d sh.e) (hg : 0 ≤ g ∧ g ≤ 18446744073709551615) (hxh : 0 ≤ x.had ∧ x.had ≤ 18446744073709551615)
  (hx : stepOf n f ⟨hand, 1, linkAt sh (idx g), 0, 0, true⟩ = x) (hf' : wordsOf n f ⟨hand, 1, linkAt sh (idx g), 0, 0, true⟩ = f') :
  Calls Tryz.prog 58 #[.pointer (some ⟨b, 0, none⟩), .pointer (some ⟨bm, 0, none⟩)] w fun e w' => e = .returned (.tuple #[x.val, .int .i64 0]) ∧
   w'.rowIs b 92 15 (mC sh hand (.func (.func 89) #[.pointer (some ⟨b, 0, none⟩)] #[]) g t fl c (idx x.had) gn) ∧ IsMem w' bm bw n f' ∧ Touch w w' (fun k => k = b ∨ k = bw) := by
 have hl := h_.lt
 have lw := hm.row.lt
 have lm := hm.head.lt
 have hn3 : w.heap.size ≠ b := by omega
 have hn4 : w.heap.size ≠ bw := by omega
 have hn5 : w.heap.size ≠ bm := by omega
 obtain ⟨W1, hW1⟩ : ∃ W1, w.alloc (.cells #[.int .i64 0, .int .i64 0, .int .i64 0, .int .u64 0, .int .u64 0, .bool false] 75) = W1 := ⟨_, rfl⟩
 have R := hide (show W1.rowIs b 92 15 (mC sh hand fn g t fl c xb gn) from by rw [← hW1]; exact h_.alloc _)
 have M := hide (show IsMem W1 bm bw n f from by rw [← hW1]; exact hm.alloc _)
 have RZ := hide (show W1.rowIs w.heap.size 75 6 zcell from by rw [← hW1]; exact row0 w)
 have T0 := hide (show Touch w W1 (fun k => k = b ∨ k = bw) from by rw [← hW1]; exact (Touch.refl w _).alloc _)
 have sz : W1.heap.size = w.heap.size + 1 := by rw [← hW1]; simp
 have lW1 : b < W1.heap.size := by omega
 obtain ⟨dS, hdS1, hdS2⟩ := row46
 have HD := hide (And.intro hdS1 hdS2)
 obtain ⟨dG, hdG1, hdG2⟩ := rowSh
 have HDS := hide (And.intro hdG1 hdG2)
 have HX := hide hx
 have HF := hide hf'
 have HW : Hid (0 ≤ (⟨hand, 1, linkAt sh (idx g), 0, 0, true⟩ : Stp).put ∧ (⟨hand, 1, linkAt sh (idx g), 0, 0, true⟩ : Stp).put ≤ 18446744073709551615) := ⟨by show (0 : Int) ≤ 0; omega, by show (0 : Int) ≤ 18446744073709551615; omega⟩
 have IX := hide (fun w1 : World => index_any x.had hxh.1 (by omega) w1)
 have H5 := hide h5
 have HG := hide hg
 clear hm h_ hx hf' hdS1 hdS2 hdG1 hdG2 hxh h5 hg
 go_enter Tryz.func58, Tryz.ntmps58
 go_wp2_with fail
 clear hW1
 refine RG.regionB 16 (ks := [(0, 7), (1, 8), (2, 9), (3, 10), (4, 11), (5, 12), (6, 13), (7, 14), (8, 15), (9, 16), (10, 17), (11, 18), (12, 19), (13, 20)]) (vals := fun i => match i with
   | 0 => .pointer (some ⟨b, 0, none⟩)
   | 1 => .pointer (some ⟨b, 0, none⟩)
   | 2 => .pointer (some ⟨b, 0, none⟩)
   | 3 => .pointer (some ⟨bm, 0, none⟩)
   | 4 => .pointer (some ⟨b, 0, none⟩)
   | 5 => .pointer (some ⟨b, 0, none⟩)
   | 6 => .pointer (some ⟨b, 5, none⟩)
   | 7 => sh.val
   | 8 => .pointer (some ⟨b, 0, none⟩)
   | 9 => .pointer (some ⟨b, 0, none⟩)
   | 10 => .pointer (some ⟨b, 0, none⟩)
   | 11 => .int .i64 (idx g)
   | 12 => .int .i64 (linkAt sh (idx g))
   | 13 => x.val
   | _ => undef) (x := 6) (WI := fun L v_ w' => RG.SW b 92 15 (mC sh hand fn g t fl c xb gn) bm bw n f f' x w.heap.size W1 (L 13) (L 14) (L 15) v_ w') (by kernel_rfl) (by kernel_rfl) rfl (by kernel_rfl) (by kernel_rfl) (RG.SW.start R.out M.out RZ.out) ?does ?fin
 case does =>
  intro i o ho
  have hi : i < 16 := RG.lt_of ho rfl
  match i, hi with
  | 0, _ => cases ho; exact RG.rW rfl rfl (fun L a w' hI hd => ex_move rfl (hI.fx 0 rfl))
  | 1, _ => cases ho; exact RG.rW rfl rfl (fun L a w' hI hd => ex_nil rfl (hI.pure 0 _ _ rfl (hd ⟨0, .data⟩ (by simp) rfl)))
  | 2, _ => cases ho; exact RG.rW rfl rfl (fun L a w' hI hd => ex_field rfl (hI.pure 1 _ _ rfl (hd ⟨1, .data⟩ (by simp) rfl)) (fieldM0 w' _))
  | 3, _ => cases ho; exact RG.rW rfl rfl (fun L a w' hI hd => ex_move rfl (hI.fx 1 rfl))
  | 4, _ => cases ho; exact RG.rW rfl rfl (fun L a w' hI hd => ex_move rfl (hI.fx 0 rfl))
  | 5, _ => cases ho; exact RG.rW rfl rfl (fun L a w' hI hd => ex_nil rfl (hI.pure 4 _ _ rfl (hd ⟨4, .data⟩ (by simp) rfl)))
  | 6, _ => cases ho; exact RG.rW rfl rfl (fun L a w' hI hd => ex_field rfl (hI.pure 5 _ _ rfl (hd ⟨5, .data⟩ (by simp) rfl)) (fieldM1 w' _))
  | 7, _ => cases ho; exact RG.rW rfl rfl (fun L a w' hI hd => ex_load_row rfl (hI.pure 6 _ _ rfl (hd ⟨6, .data⟩ (by simp) rfl)) (shrow (sh := sh) (by omega) rfl rfl rfl rfl rfl rfl hI.world.row) HDS.out.1 HDS.out.2 sizeSh)
  | 8, _ => cases ho; exact RG.rW rfl rfl (fun L a w' hI hd => ex_move rfl (hI.fx 0 rfl))
  | 9, _ => cases ho; exact RG.rW rfl rfl (fun L a w' hI hd => ex_nil rfl (hI.pure 8 _ _ rfl (hd ⟨8, .data⟩ (by simp) rfl)))
  | 10, _ => cases ho; exact RG.rW rfl rfl (fun L a w' hI hd => ex_field rfl (hI.pure 9 _ _ rfl (hd ⟨9, .data⟩ (by simp) rfl)) (fieldM0 w' _))
  | 11, _ => cases ho; exact RG.Does.call rfl (fun L a w' hI hd => call1 rfl (hI.pure 10 _ _ rfl (hd ⟨10, .data⟩ (by simp) rfl)) rfl (by simp [go_sem])) (fun L v_ w2 hI hL => (first_any (show World.cell? w2 ⟨b, 2, none⟩ = some (.int .u64 g) from hI.row.cell (i := 2) (by omega)) hI.row.lt HG.out).mono (by rintro e w3 ⟨rfl, rfl⟩; exact ⟨rfl, RG.SW.skip (by decide) (by decide) (by decide)  hI⟩))
  | 12, _ => cases ho; exact RG.Does.call rfl (fun L a w' hI hd => call2 rfl (hI.pure 7 _ _ rfl (hd ⟨7, .data⟩ (by simp) rfl)) (hI.pure 11 _ _ rfl (hd ⟨11, .data⟩ (by simp) rfl)) rfl (by simp [go_sem])) (fun L v_ w2 hI hL => ((fun w9 : World => linkAt_any H5.out (idx g) w9) w2).mono (by rintro e w3 ⟨rfl, hb⟩; exact ⟨rfl, RG.SW.skip (by decide) (by decide) (by decide)  (SWq hI hb)⟩))
  | 13, _ => cases ho; exact RG.Does.call rfl (fun L a w' hI hd => call3 rfl (hI.pure 2 _ _ rfl (hd ⟨2, .data⟩ (by simp) rfl)) (hI.pure 3 _ _ rfl (hd ⟨3, .data⟩ (by simp) rfl)) (hI.pure 12 _ _ rfl (hd ⟨12, .data⟩ (by simp) rfl)) rfl (by simp [go_sem])) (SWcalls h2 hn4 (by decide) (by decide) (fun w2 R2 M2 => load_any (R2.cell (i := 0) (by omega)) R2.lt M2 HW.out HX.out HF.out))
  | 14, _ => cases ho; exact RG.Does.make (u := fun w' => .pointer (some ⟨w'.heap.size, 0, none⟩)) rfl rfl (fun ev w' => alloc46 rfl) (fun L v_ w' h hL => by have := RG.SW.make h hL; rw [← upd_same L 14 true] at this; simpa only [upd_other _ _ (show 13 ≠ 14 by decide), upd_other _ _ (show 15 ≠ 14 by decide)] using this)
  | 15, _ => cases ho; exact RG.Does.put (ls := x.cells) rfl rfl rfl size46 (by simp [Stp.cells, Value.oneCell']) (fun L a w' hI hL hd => ⟨(hI.pure 13 _ _ rfl (hd ⟨13, .data⟩ (by simp) rfl)), by obtain ⟨q, e1, e2, e3⟩ := RG.SW.put hI.world (hd ⟨13, .data⟩ (by simp) rfl) (hd ⟨14, .data⟩ (by simp) rfl) hL; exact ⟨q, 0, e1, e2, by rw [← upd_same L 15 true] at e3; simpa only [upd_other _ _ (show 13 ≠ 15 by decide), upd_other _ _ (show 14 ≠ 15 by decide)] using e3⟩⟩)
 case fin =>
  intro L a' w1 hI hall
  have hw := hI.world
  simp only [hall 13 (by decide), hall 14 (by decide), hall 15 (by decide), if_true] at hw
  obtain ⟨q, hq, hq1, hq2, _, hr⟩ := hw.own rfl
  replace hr := hr rfl
  have ea := act_all a' 34 (by rw [hI.sz]; rfl) hI.df
  simp only [List.range, List.range.loop, List.map] at ea
  rw [hI.fx 0 rfl, hI.fx 1 rfl, hI.fx 2 rfl, hI.fx 3 rfl, hI.fx 4 rfl, hI.fx 5 rfl, hI.fx 21 rfl, hI.fx 22 rfl, hI.fx 23 rfl, hI.fx 24 rfl, hI.fx 25 rfl, hI.fx 26 rfl, hI.fx 27 rfl, hI.fx 28 rfl, hI.fx 29 rfl, hI.fx 30 rfl, hI.fx 31 rfl, hI.fx 32 rfl, hI.fx 33 rfl, hq] at ea
  clear hI hall
  obtain ⟨us, hus⟩ : ∃ us : Nat → Value, ∀ k, a'.eval (.tmp k) = us k := ⟨_, fun _ => rfl⟩
  simp only [hus] at ea
  simp only [show ∀ (ts : Array Value) (ds) (i : Nat), (Act.mk ts ds).eval (.tmp i) = ts.getD i undef from fun _ _ _ => rfl] at ea
  simp at ea
  subst ea
  have M1 := hide (show IsMem w1 bm bw n f' from by simpa using hw.mem)
  have R1 := hide hw.row
  have RR := hide hw.res
  have T1 := hide (T0.out.trans' hw.tch (fun k _ h => .inr h))
  have RQ := hide hr
  have hqb : q ≠ b := by omega
  have hqr : q ≠ w.heap.size := by omega
  have hqm : q ≠ bm ∧ q ≠ bw := by omega
  have lw1 := hw.tch.size
  have l1 : b < w1.heap.size := by omega
  have l2 : w.heap.size < w1.heap.size := by omega
  have l3 : q < w1.heap.size := by omega
  clear hw hr hq
  obtain ⟨s0, s1, s2, s3, s4, s5⟩ := stp6 RQ.out
  have Rw1 := R1
  have Mw1 := M1
  have Qw1 := RR
  have Sw1 := RQ
  have Tw1 := T1
  have db := R1.out.cell (i := 13) (by omega)
  have dfb := R1.out.frozen 13
  obtain ⟨V, hV⟩ : ∃ W', w1.setCell ⟨b, 13, none⟩ (.int .i64 (x.had % 4294967296)) = W' := ⟨_, rfl⟩
  have tV : Touch w1 V (fun k => k = b) := by
   rw [← hV]
   exact Touch.trans' (S' := fun k => k = b) (⟨rfl, rfl, rfl, Nat.le_refl _, fun _ _ _ => rfl⟩ : Touch w1 w1 (fun k => k = b)) ((Touch.refl w1 _).setCell (S := fun k => k = b) ⟨b, 13, none⟩ (.inl rfl) _) (fun k _ h => h)
  have RV := hide (show V.rowIs b 92 15 (mC sh hand fn g t fl c (idx x.had) gn) from by
   rw [← hV]
   exact World.rowIs.congr (World.rowIs.set (show World.rowIs w1 b 92 15 _ from Rw1.out.of_block rfl) 13 _) (fun i hi => m_xb _ _ _ _ _ _ _ _ _ _ i hi))
  have QV := hide (Qw1.out.of_block (tV.block _ (by omega) (by omega)))
  have MV := hide (show IsMem V bm bw n f' from ⟨Mw1.out.head.of_block (tV.block _ Mw1.out.head.lt (by omega)), Mw1.out.row.of_block (tV.block _ Mw1.out.row.lt (by omega)), Mw1.out.most, Mw1.out.word⟩)
  have TV := hide (show Touch w V (fun k => k = b ∨ k = bw) from Tw1.out.trans' tV (fun k _ h => .inl h))
  have SV := hide (rangeAt_block Sw1.out (tV.block q (by omega) (by omega)))
  have szV : V.heap.size = w1.heap.size := by rw [← hV] <;> first | (simp; done) | rfl | (simp; rfl)
  clear tV
  go_wp2_with (go_at_call 87; refine (IX.out _).mono ?_; rintro e wq ⟨rfl, hwq⟩; obtain rfl := hwq.symm)
  clear hV s0 s1 s2 s3 s4 s5 db dfb
  refine goon9 (D := 27) (F := 89) (C' := mC sh hand (.func (.func 89) #[.pointer (some ⟨b, 0, none⟩)] #[]) g t fl c (idx x.had) gn) RV.out MV.out QV.out SV.out ⟨by omega, hqb, hqm.2, hqr⟩ ⟨h1, h2, hn3, hn5, hn4⟩ (by omega) (fun i hi => m_fn _ _ _ _ _ _ _ _ _ _ i hi) (by kernel_rfl) (by kernel_rfl) rfl rfl rfl rfl rfl rfl rfl rfl rfl rfl rfl rfl rfl rfl rfl rfl rfl rfl rfl rfl rfl (fun w' => fieldM0 w' _) (by simp) (by simp) (by simp) (by simp) (by simp) (by simp) (by simp) (by decide) (by simp) ?_
  intro a' w' pE pe hdf rE row mem tch
  rename_i K2 hK2
  refine hK2 _ _ ?_
  go_wp2
  exact bodyPost_ret (v := .tuple #[x.val, .int .i64 0]) (goon9v rfl pE pe rE) hdf ⟨rfl, row, mem, TV.out.trans' tch (fun k hk h => by rcases h with h | h | h; exact .inl h; exact .inr h; omega)⟩
theorem take_any {w : World} {b bm bw n : Nat} {f f' : Nat → Int} {x : Stp} {sh : Shp} {hand : Int} {fn : Value} {g : Int} {t : Ans} {fl : Bool} {c xb gn : Int} (h_ : w.rowIs b 92 15 (mC sh hand fn g t fl c xb gn)) (hm : IsMem w bm bw n f) (h1 : b ≠ bm) (h2 : b ≠ bw) (hg : 0 ≤ g ∧ g ≤ 18446744073709551615)
  (hx : stepOf n f ⟨hand, 5, 1, g, bmp g xb, true⟩ = x) (hf' : wordsOf n f ⟨hand, 5, 1, g, bmp g xb, true⟩ = f') :
  Calls Tryz.prog 89 #[.pointer (some ⟨b, 0, none⟩), .pointer (some ⟨bm, 0, none⟩)] w fun e w' => e = .returned (.tuple #[x.val, .int .i64 0]) ∧
   w'.rowIs b 92 15 (mC sh hand (if x.ok = true then (.func (.func 106) #[.pointer (some ⟨b, 0, none⟩)] #[]) else (.func (.func 31) #[.pointer (some ⟨b, 0, none⟩)] #[])) g t fl c xb gn) ∧ IsMem w' bm bw n f' ∧ Touch w w' (fun k => k = b ∨ k = bw) := by
 have hl := h_.lt
 have lw := hm.row.lt
 have lm := hm.head.lt
 have hn3 : w.heap.size ≠ b := by omega
 have hn4 : w.heap.size ≠ bw := by omega
 have hn5 : w.heap.size ≠ bm := by omega
 obtain ⟨W1, hW1⟩ : ∃ W1, w.alloc (.cells #[.int .i64 0, .int .i64 0, .int .i64 0, .int .u64 0, .int .u64 0, .bool false] 75) = W1 := ⟨_, rfl⟩
 have R := hide (show W1.rowIs b 92 15 (mC sh hand fn g t fl c xb gn) from by rw [← hW1]; exact h_.alloc _)
 have M := hide (show IsMem W1 bm bw n f from by rw [← hW1]; exact hm.alloc _)
 have RZ := hide (show W1.rowIs w.heap.size 75 6 zcell from by rw [← hW1]; exact row0 w)
 have T0 := hide (show Touch w W1 (fun k => k = b ∨ k = bw) from by rw [← hW1]; exact (Touch.refl w _).alloc _)
 have sz : W1.heap.size = w.heap.size + 1 := by rw [← hW1]; simp
 have lW1 : b < W1.heap.size := by omega
 obtain ⟨dS, hdS1, hdS2⟩ := row46
 have HD := hide (And.intro hdS1 hdS2)
 obtain ⟨dG, hdG1, hdG2⟩ := rowSh
 have HDS := hide (And.intro hdG1 hdG2)
 have HX := hide hx
 have HF := hide hf'
 have HW : Hid (0 ≤ (⟨hand, 5, 1, g, bmp g xb, true⟩ : Stp).put ∧ (⟨hand, 5, 1, g, bmp g xb, true⟩ : Stp).put ≤ 18446744073709551615) := ⟨bmp_lo _ _, bmp_hi _ _⟩
 have HG := hide hg
 clear hm h_ hx hf' hdS1 hdS2 hdG1 hdG2 hg
 go_enter Tryz.func89, Tryz.ntmps89
 go_wp2_with fail
 clear hW1
 refine RG.regionB 11 (ks := [(0, 7), (1, 8), (2, 9), (3, 10), (4, 11), (5, 12), (6, 13), (7, 14), (8, 15)]) (vals := fun i => match i with
   | 0 => .pointer (some ⟨b, 0, none⟩)
   | 1 => .pointer (some ⟨b, 0, none⟩)
   | 2 => .pointer (some ⟨b, 0, none⟩)
   | 3 => .pointer (some ⟨bm, 0, none⟩)
   | 4 => .pointer (some ⟨b, 0, none⟩)
   | 5 => .pointer (some ⟨b, 0, none⟩)
   | 6 => .pointer (some ⟨b, 13, none⟩)
   | 7 => .int .i64 xb
   | 8 => x.val
   | _ => undef) (x := 6) (WI := fun L v_ w' => RG.SW b 92 15 (mC sh hand fn g t fl c xb gn) bm bw n f f' x w.heap.size W1 (L 8) (L 9) (L 10) v_ w') (by kernel_rfl) (by kernel_rfl) rfl (by kernel_rfl) (by kernel_rfl) (RG.SW.start R.out M.out RZ.out) ?does ?fin
 case does =>
  intro i o ho
  have hi : i < 11 := RG.lt_of ho rfl
  match i, hi with
  | 0, _ => cases ho; exact RG.rW rfl rfl (fun L a w' hI hd => ex_move rfl (hI.fx 0 rfl))
  | 1, _ => cases ho; exact RG.rW rfl rfl (fun L a w' hI hd => ex_nil rfl (hI.pure 0 _ _ rfl (hd ⟨0, .data⟩ (by simp) rfl)))
  | 2, _ => cases ho; exact RG.rW rfl rfl (fun L a w' hI hd => ex_field rfl (hI.pure 1 _ _ rfl (hd ⟨1, .data⟩ (by simp) rfl)) (fieldM0 w' _))
  | 3, _ => cases ho; exact RG.rW rfl rfl (fun L a w' hI hd => ex_move rfl (hI.fx 1 rfl))
  | 4, _ => cases ho; exact RG.rW rfl rfl (fun L a w' hI hd => ex_move rfl (hI.fx 0 rfl))
  | 5, _ => cases ho; exact RG.rW rfl rfl (fun L a w' hI hd => ex_nil rfl (hI.pure 4 _ _ rfl (hd ⟨4, .data⟩ (by simp) rfl)))
  | 6, _ => cases ho; exact RG.rW rfl rfl (fun L a w' hI hd => ex_field rfl (hI.pure 5 _ _ rfl (hd ⟨5, .data⟩ (by simp) rfl)) (fieldM4 w' _))
  | 7, _ => cases ho; exact RG.rW rfl rfl (fun L a w' hI hd => ex_load rfl (hI.pure 6 _ _ rfl (hd ⟨6, .data⟩ (by simp) rfl)) (aggI w') (hI.world.row.cell (i := 13) (by omega)))
  | 8, _ => cases ho; exact RG.Does.call rfl (fun L a w' hI hd => call4 rfl (hI.pure 2 _ _ rfl (hd ⟨2, .data⟩ (by simp) rfl)) (hI.pure 3 _ _ rfl (hd ⟨3, .data⟩ (by simp) rfl)) rfl (hI.pure 7 _ _ rfl (hd ⟨7, .data⟩ (by simp) rfl)) rfl (by simp [go_sem])) (SWcalls h2 hn4 (by decide) (by decide) (fun w2 R2 M2 => turnList_any (R2.cell (i := 0) (by omega)) (R2.cell (i := 2) (by omega)) R2.lt h2 HG.out M2 HX.out HF.out))
  | 9, _ => cases ho; exact RG.Does.make (u := fun w' => .pointer (some ⟨w'.heap.size, 0, none⟩)) rfl rfl (fun ev w' => alloc46 rfl) (fun L v_ w' h hL => by have := RG.SW.make h hL; rw [← upd_same L 9 true] at this; simpa only [upd_other _ _ (show 8 ≠ 9 by decide), upd_other _ _ (show 10 ≠ 9 by decide)] using this)
  | 10, _ => cases ho; exact RG.Does.put (ls := x.cells) rfl rfl rfl size46 (by simp [Stp.cells, Value.oneCell']) (fun L a w' hI hL hd => ⟨(hI.pure 8 _ _ rfl (hd ⟨8, .data⟩ (by simp) rfl)), by obtain ⟨q, e1, e2, e3⟩ := RG.SW.put hI.world (hd ⟨8, .data⟩ (by simp) rfl) (hd ⟨9, .data⟩ (by simp) rfl) hL; exact ⟨q, 0, e1, e2, by rw [← upd_same L 10 true] at e3; simpa only [upd_other _ _ (show 8 ≠ 10 by decide), upd_other _ _ (show 9 ≠ 10 by decide)] using e3⟩⟩)
 case fin =>
  intro L a' w1 hI hall
  have hw := hI.world
  simp only [hall 8 (by decide), hall 9 (by decide), hall 10 (by decide), if_true] at hw
  obtain ⟨q, hq, hq1, hq2, _, hr⟩ := hw.own rfl
  replace hr := hr rfl
  have ea := act_all a' 33 (by rw [hI.sz]; rfl) hI.df
  simp only [List.range, List.range.loop, List.map] at ea
  rw [hI.fx 0 rfl, hI.fx 1 rfl, hI.fx 2 rfl, hI.fx 3 rfl, hI.fx 4 rfl, hI.fx 5 rfl, hI.fx 16 rfl, hI.fx 17 rfl, hI.fx 18 rfl, hI.fx 19 rfl, hI.fx 20 rfl, hI.fx 21 rfl, hI.fx 22 rfl, hI.fx 23 rfl, hI.fx 24 rfl, hI.fx 25 rfl, hI.fx 26 rfl, hI.fx 27 rfl, hI.fx 28 rfl, hI.fx 29 rfl, hI.fx 30 rfl, hI.fx 31 rfl, hI.fx 32 rfl, hq] at ea
  clear hI hall
  obtain ⟨us, hus⟩ : ∃ us : Nat → Value, ∀ k, a'.eval (.tmp k) = us k := ⟨_, fun _ => rfl⟩
  simp only [hus] at ea
  simp only [show ∀ (ts : Array Value) (ds) (i : Nat), (Act.mk ts ds).eval (.tmp i) = ts.getD i undef from fun _ _ _ => rfl] at ea
  simp at ea
  subst ea
  have M1 := hide (show IsMem w1 bm bw n f' from by simpa using hw.mem)
  have R1 := hide hw.row
  have RR := hide hw.res
  have T1 := hide (T0.out.trans' hw.tch (fun k _ h => .inr h))
  have RQ := hide hr
  have hqb : q ≠ b := by omega
  have hqr : q ≠ w.heap.size := by omega
  have hqm : q ≠ bm ∧ q ≠ bw := by omega
  have lw1 := hw.tch.size
  have l1 : b < w1.heap.size := by omega
  have l2 : w.heap.size < w1.heap.size := by omega
  have l3 : q < w1.heap.size := by omega
  clear hw hr hq
  obtain ⟨s0, s1, s2, s3, s4, s5⟩ := stp6 RQ.out
  have Rw1 := R1
  have Mw1 := M1
  have Qw1 := RR
  have Sw1 := RQ
  have Tw1 := T1
  cases hok : x.ok with
  | true =>
   have s5' : w1.cell? ⟨q, 5, none⟩ = some (.bool true) := by rw [s5, hok]
   have HOK := hide hok
   clear s5 hok
   go_wp2_with fail
   clear s0 s1 s2 s3 s4 s5'
   refine goon9 (D := 26) (F := 106) (C' := mC sh hand (.func (.func 106) #[.pointer (some ⟨b, 0, none⟩)] #[]) g t fl c xb gn) Rw1.out Mw1.out Qw1.out Sw1.out ⟨by omega, hqb, hqm.2, hqr⟩ ⟨h1, h2, hn3, hn5, hn4⟩ (by omega) (fun i hi => m_fn _ _ _ _ _ _ _ _ _ _ i hi) (by kernel_rfl) (by kernel_rfl) rfl rfl rfl rfl rfl rfl rfl rfl rfl rfl rfl rfl rfl rfl rfl rfl rfl rfl rfl rfl rfl (fun w' => fieldM0 w' _) (by simp) (by simp) (by simp) (by simp) (by simp) (by simp) (by simp) (by decide) (by simp) ?_
   intro a' w' pE pe hdf rE row mem tch
   rename_i K2 hK2
   refine hK2 _ _ ?_
   have hok := HOK.out
   go_wp2
   exact bodyPost_ret (v := .tuple #[x.val, .int .i64 0]) (goon9v rfl pE pe rE) hdf ⟨rfl, row, mem, Tw1.out.trans' tch (fun k hk h => by rcases h with h | h | h; exact .inl h; exact .inr h; omega)⟩
  | false =>
   have s5' : w1.cell? ⟨q, 5, none⟩ = some (.bool false) := by rw [s5, hok]
   have HOK := hide hok
   clear s5 hok
   go_wp2_with fail
   clear s0 s1 s2 s3 s4 s5'
   refine goon9 (D := 19) (F := 31) (C' := mC sh hand (.func (.func 31) #[.pointer (some ⟨b, 0, none⟩)] #[]) g t fl c xb gn) Rw1.out Mw1.out Qw1.out Sw1.out ⟨by omega, hqb, hqm.2, hqr⟩ ⟨h1, h2, hn3, hn5, hn4⟩ (by omega) (fun i hi => m_fn _ _ _ _ _ _ _ _ _ _ i hi) (by kernel_rfl) (by kernel_rfl) rfl rfl rfl rfl rfl rfl rfl rfl rfl rfl rfl rfl rfl rfl rfl rfl rfl rfl rfl rfl rfl (fun w' => fieldM0 w' _) (by simp) (by simp) (by simp) (by simp) (by simp) (by simp) (by simp) (by decide) (by simp) ?_
   intro a' w' pE pe hdf rE row mem tch
   rename_i K2 hK2
   refine hK2 _ _ ?_
   have hok := HOK.out
   go_wp2
   exact bodyPost_ret (v := .tuple #[x.val, .int .i64 0]) (goon9v rfl pE pe rE) hdf ⟨rfl, row, mem, Tw1.out.trans' tch (fun k hk h => by rcases h with h | h | h; exact .inl h; exact .inr h; omega)⟩
theorem mlook_any {w : World} {b bm bw n : Nat} {f f' : Nat → Int} {x : Stp} {sh : Shp} {hand : Int} {fn : Value} {g : Int} {t : Ans} {fl : Bool} {c xb gn : Int} (h_ : w.rowIs b 92 15 (mC sh hand fn g t fl c xb gn)) (hm : IsMem w bm bw n f) (h1 : b ≠ bm) (h2 : b ≠ bw) (h5 : Shape.R5 sh.a sh.b sh.c sh.d sh.e) (hg : 0 ≤ g ∧ g ≤ 18446744073709551615) (hxh : 0 ≤ x.had ∧ x.had ≤ 18446744073709551615)
  (hx : stepOf n f ⟨hand, 1, headAt sh (idx g), 0, 0, true⟩ = x) (hf' : wordsOf n f ⟨hand, 1, headAt sh (idx g), 0, 0, true⟩ = f') :
  Calls Tryz.prog 106 #[.pointer (some ⟨b, 0, none⟩), .pointer (some ⟨bm, 0, none⟩)] w fun e w' => e = .returned (.tuple #[x.val, .int .i64 0]) ∧
   w'.rowIs b 92 15 (mC sh hand (.func (.func 120) #[.pointer (some ⟨b, 0, none⟩)] #[]) g t fl c xb (x.had / 4294967296)) ∧ IsMem w' bm bw n f' ∧ Touch w w' (fun k => k = b ∨ k = bw) := by
 have hl := h_.lt
 have lw := hm.row.lt
 have lm := hm.head.lt
 have hn3 : w.heap.size ≠ b := by omega
 have hn4 : w.heap.size ≠ bw := by omega
 have hn5 : w.heap.size ≠ bm := by omega
 obtain ⟨W1, hW1⟩ : ∃ W1, w.alloc (.cells #[.int .i64 0, .int .i64 0, .int .i64 0, .int .u64 0, .int .u64 0, .bool false] 75) = W1 := ⟨_, rfl⟩
 have R := hide (show W1.rowIs b 92 15 (mC sh hand fn g t fl c xb gn) from by rw [← hW1]; exact h_.alloc _)
 have M := hide (show IsMem W1 bm bw n f from by rw [← hW1]; exact hm.alloc _)
 have RZ := hide (show W1.rowIs w.heap.size 75 6 zcell from by rw [← hW1]; exact row0 w)
 have T0 := hide (show Touch w W1 (fun k => k = b ∨ k = bw) from by rw [← hW1]; exact (Touch.refl w _).alloc _)
 have sz : W1.heap.size = w.heap.size + 1 := by rw [← hW1]; simp
 have lW1 : b < W1.heap.size := by omega
 obtain ⟨dS, hdS1, hdS2⟩ := row46
 have HD := hide (And.intro hdS1 hdS2)
 obtain ⟨dG, hdG1, hdG2⟩ := rowSh
 have HDS := hide (And.intro hdG1 hdG2)
 have HX := hide hx
 have HF := hide hf'
 have HW : Hid (0 ≤ (⟨hand, 1, headAt sh (idx g), 0, 0, true⟩ : Stp).put ∧ (⟨hand, 1, headAt sh (idx g), 0, 0, true⟩ : Stp).put ≤ 18446744073709551615) := ⟨by show (0 : Int) ≤ 0; omega, by show (0 : Int) ≤ 18446744073709551615; omega⟩
 have IX := hide (fun w1 : World => gen_any x.had hxh.1 (by omega) w1)
 have H5 := hide h5
 have HG := hide hg
 clear hm h_ hx hf' hdS1 hdS2 hdG1 hdG2 hxh h5 hg
 go_enter Tryz.func106, Tryz.ntmps106
 go_wp2_with fail
 clear hW1
 refine RG.regionB 16 (ks := [(0, 7), (1, 8), (2, 9), (3, 10), (4, 11), (5, 12), (6, 13), (7, 14), (8, 15), (9, 16), (10, 17), (11, 18), (12, 19), (13, 20)]) (vals := fun i => match i with
   | 0 => .pointer (some ⟨b, 0, none⟩)
   | 1 => .pointer (some ⟨b, 0, none⟩)
   | 2 => .pointer (some ⟨b, 0, none⟩)
   | 3 => .pointer (some ⟨bm, 0, none⟩)
   | 4 => .pointer (some ⟨b, 0, none⟩)
   | 5 => .pointer (some ⟨b, 0, none⟩)
   | 6 => .pointer (some ⟨b, 5, none⟩)
   | 7 => sh.val
   | 8 => .pointer (some ⟨b, 0, none⟩)
   | 9 => .pointer (some ⟨b, 0, none⟩)
   | 10 => .pointer (some ⟨b, 0, none⟩)
   | 11 => .int .i64 (idx g)
   | 12 => .int .i64 (headAt sh (idx g))
   | 13 => x.val
   | _ => undef) (x := 6) (WI := fun L v_ w' => RG.SW b 92 15 (mC sh hand fn g t fl c xb gn) bm bw n f f' x w.heap.size W1 (L 13) (L 14) (L 15) v_ w') (by kernel_rfl) (by kernel_rfl) rfl (by kernel_rfl) (by kernel_rfl) (RG.SW.start R.out M.out RZ.out) ?does ?fin
 case does =>
  intro i o ho
  have hi : i < 16 := RG.lt_of ho rfl
  match i, hi with
  | 0, _ => cases ho; exact RG.rW rfl rfl (fun L a w' hI hd => ex_move rfl (hI.fx 0 rfl))
  | 1, _ => cases ho; exact RG.rW rfl rfl (fun L a w' hI hd => ex_nil rfl (hI.pure 0 _ _ rfl (hd ⟨0, .data⟩ (by simp) rfl)))
  | 2, _ => cases ho; exact RG.rW rfl rfl (fun L a w' hI hd => ex_field rfl (hI.pure 1 _ _ rfl (hd ⟨1, .data⟩ (by simp) rfl)) (fieldM0 w' _))
  | 3, _ => cases ho; exact RG.rW rfl rfl (fun L a w' hI hd => ex_move rfl (hI.fx 1 rfl))
  | 4, _ => cases ho; exact RG.rW rfl rfl (fun L a w' hI hd => ex_move rfl (hI.fx 0 rfl))
  | 5, _ => cases ho; exact RG.rW rfl rfl (fun L a w' hI hd => ex_nil rfl (hI.pure 4 _ _ rfl (hd ⟨4, .data⟩ (by simp) rfl)))
  | 6, _ => cases ho; exact RG.rW rfl rfl (fun L a w' hI hd => ex_field rfl (hI.pure 5 _ _ rfl (hd ⟨5, .data⟩ (by simp) rfl)) (fieldM1 w' _))
  | 7, _ => cases ho; exact RG.rW rfl rfl (fun L a w' hI hd => ex_load_row rfl (hI.pure 6 _ _ rfl (hd ⟨6, .data⟩ (by simp) rfl)) (shrow (sh := sh) (by omega) rfl rfl rfl rfl rfl rfl hI.world.row) HDS.out.1 HDS.out.2 sizeSh)
  | 8, _ => cases ho; exact RG.rW rfl rfl (fun L a w' hI hd => ex_move rfl (hI.fx 0 rfl))
  | 9, _ => cases ho; exact RG.rW rfl rfl (fun L a w' hI hd => ex_nil rfl (hI.pure 8 _ _ rfl (hd ⟨8, .data⟩ (by simp) rfl)))
  | 10, _ => cases ho; exact RG.rW rfl rfl (fun L a w' hI hd => ex_field rfl (hI.pure 9 _ _ rfl (hd ⟨9, .data⟩ (by simp) rfl)) (fieldM0 w' _))
  | 11, _ => cases ho; exact RG.Does.call rfl (fun L a w' hI hd => call1 rfl (hI.pure 10 _ _ rfl (hd ⟨10, .data⟩ (by simp) rfl)) rfl (by simp [go_sem])) (fun L v_ w2 hI hL => (first_any (show World.cell? w2 ⟨b, 2, none⟩ = some (.int .u64 g) from hI.row.cell (i := 2) (by omega)) hI.row.lt HG.out).mono (by rintro e w3 ⟨rfl, rfl⟩; exact ⟨rfl, RG.SW.skip (by decide) (by decide) (by decide)  hI⟩))
  | 12, _ => cases ho; exact RG.Does.call rfl (fun L a w' hI hd => call2 rfl (hI.pure 7 _ _ rfl (hd ⟨7, .data⟩ (by simp) rfl)) (hI.pure 11 _ _ rfl (hd ⟨11, .data⟩ (by simp) rfl)) rfl (by simp [go_sem])) (fun L v_ w2 hI hL => ((fun w9 : World => headAt_any H5.out (idx g) w9) w2).mono (by rintro e w3 ⟨rfl, hb⟩; exact ⟨rfl, RG.SW.skip (by decide) (by decide) (by decide)  (SWq hI hb)⟩))
  | 13, _ => cases ho; exact RG.Does.call rfl (fun L a w' hI hd => call3 rfl (hI.pure 2 _ _ rfl (hd ⟨2, .data⟩ (by simp) rfl)) (hI.pure 3 _ _ rfl (hd ⟨3, .data⟩ (by simp) rfl)) (hI.pure 12 _ _ rfl (hd ⟨12, .data⟩ (by simp) rfl)) rfl (by simp [go_sem])) (SWcalls h2 hn4 (by decide) (by decide) (fun w2 R2 M2 => load_any (R2.cell (i := 0) (by omega)) R2.lt M2 HW.out HX.out HF.out))
  | 14, _ => cases ho; exact RG.Does.make (u := fun w' => .pointer (some ⟨w'.heap.size, 0, none⟩)) rfl rfl (fun ev w' => alloc46 rfl) (fun L v_ w' h hL => by have := RG.SW.make h hL; rw [← upd_same L 14 true] at this; simpa only [upd_other _ _ (show 13 ≠ 14 by decide), upd_other _ _ (show 15 ≠ 14 by decide)] using this)
  | 15, _ => cases ho; exact RG.Does.put (ls := x.cells) rfl rfl rfl size46 (by simp [Stp.cells, Value.oneCell']) (fun L a w' hI hL hd => ⟨(hI.pure 13 _ _ rfl (hd ⟨13, .data⟩ (by simp) rfl)), by obtain ⟨q, e1, e2, e3⟩ := RG.SW.put hI.world (hd ⟨13, .data⟩ (by simp) rfl) (hd ⟨14, .data⟩ (by simp) rfl) hL; exact ⟨q, 0, e1, e2, by rw [← upd_same L 15 true] at e3; simpa only [upd_other _ _ (show 13 ≠ 15 by decide), upd_other _ _ (show 14 ≠ 15 by decide)] using e3⟩⟩)
 case fin =>
  intro L a' w1 hI hall
  have hw := hI.world
  simp only [hall 13 (by decide), hall 14 (by decide), hall 15 (by decide), if_true] at hw
  obtain ⟨q, hq, hq1, hq2, _, hr⟩ := hw.own rfl
  replace hr := hr rfl
  have ea := act_all a' 34 (by rw [hI.sz]; rfl) hI.df
  simp only [List.range, List.range.loop, List.map] at ea
  rw [hI.fx 0 rfl, hI.fx 1 rfl, hI.fx 2 rfl, hI.fx 3 rfl, hI.fx 4 rfl, hI.fx 5 rfl, hI.fx 21 rfl, hI.fx 22 rfl, hI.fx 23 rfl, hI.fx 24 rfl, hI.fx 25 rfl, hI.fx 26 rfl, hI.fx 27 rfl, hI.fx 28 rfl, hI.fx 29 rfl, hI.fx 30 rfl, hI.fx 31 rfl, hI.fx 32 rfl, hI.fx 33 rfl, hq] at ea
  clear hI hall
  obtain ⟨us, hus⟩ : ∃ us : Nat → Value, ∀ k, a'.eval (.tmp k) = us k := ⟨_, fun _ => rfl⟩
  simp only [hus] at ea
  simp only [show ∀ (ts : Array Value) (ds) (i : Nat), (Act.mk ts ds).eval (.tmp i) = ts.getD i undef from fun _ _ _ => rfl] at ea
  simp at ea
  subst ea
  have M1 := hide (show IsMem w1 bm bw n f' from by simpa using hw.mem)
  have R1 := hide hw.row
  have RR := hide hw.res
  have T1 := hide (T0.out.trans' hw.tch (fun k _ h => .inr h))
  have RQ := hide hr
  have hqb : q ≠ b := by omega
  have hqr : q ≠ w.heap.size := by omega
  have hqm : q ≠ bm ∧ q ≠ bw := by omega
  have lw1 := hw.tch.size
  have l1 : b < w1.heap.size := by omega
  have l2 : w.heap.size < w1.heap.size := by omega
  have l3 : q < w1.heap.size := by omega
  clear hw hr hq
  obtain ⟨s0, s1, s2, s3, s4, s5⟩ := stp6 RQ.out
  have Rw1 := R1
  have Mw1 := M1
  have Qw1 := RR
  have Sw1 := RQ
  have Tw1 := T1
  have db := R1.out.cell (i := 14) (by omega)
  have dfb := R1.out.frozen 14
  obtain ⟨V, hV⟩ : ∃ W', w1.setCell ⟨b, 14, none⟩ (.int .u64 (x.had / 4294967296)) = W' := ⟨_, rfl⟩
  have tV : Touch w1 V (fun k => k = b) := by
   rw [← hV]
   exact Touch.trans' (S' := fun k => k = b) (⟨rfl, rfl, rfl, Nat.le_refl _, fun _ _ _ => rfl⟩ : Touch w1 w1 (fun k => k = b)) ((Touch.refl w1 _).setCell (S := fun k => k = b) ⟨b, 14, none⟩ (.inl rfl) _) (fun k _ h => h)
  have RV := hide (show V.rowIs b 92 15 (mC sh hand fn g t fl c xb (x.had / 4294967296)) from by
   rw [← hV]
   exact World.rowIs.congr (World.rowIs.set (show World.rowIs w1 b 92 15 _ from Rw1.out.of_block rfl) 14 _) (fun i hi => m_gn _ _ _ _ _ _ _ _ _ _ i hi))
  have QV := hide (Qw1.out.of_block (tV.block _ (by omega) (by omega)))
  have MV := hide (show IsMem V bm bw n f' from ⟨Mw1.out.head.of_block (tV.block _ Mw1.out.head.lt (by omega)), Mw1.out.row.of_block (tV.block _ Mw1.out.row.lt (by omega)), Mw1.out.most, Mw1.out.word⟩)
  have TV := hide (show Touch w V (fun k => k = b ∨ k = bw) from Tw1.out.trans' tV (fun k _ h => .inl h))
  have SV := hide (rangeAt_block Sw1.out (tV.block q (by omega) (by omega)))
  have szV : V.heap.size = w1.heap.size := by rw [← hV] <;> first | (simp; done) | rfl | (simp; rfl)
  clear tV
  go_wp2_with (go_at_call 93; refine (IX.out _).mono ?_; rintro e wq ⟨rfl, hwq⟩; obtain rfl := hwq.symm)
  clear hV s0 s1 s2 s3 s4 s5 db dfb
  refine goon9 (D := 27) (F := 120) (C' := mC sh hand (.func (.func 120) #[.pointer (some ⟨b, 0, none⟩)] #[]) g t fl c xb (x.had / 4294967296)) RV.out MV.out QV.out SV.out ⟨by omega, hqb, hqm.2, hqr⟩ ⟨h1, h2, hn3, hn5, hn4⟩ (by omega) (fun i hi => m_fn _ _ _ _ _ _ _ _ _ _ i hi) (by kernel_rfl) (by kernel_rfl) rfl rfl rfl rfl rfl rfl rfl rfl rfl rfl rfl rfl rfl rfl rfl rfl rfl rfl rfl rfl rfl (fun w' => fieldM0 w' _) (by simp) (by simp) (by simp) (by simp) (by simp) (by simp) (by simp) (by decide) (by simp) ?_
  intro a' w' pE pe hdf rE row mem tch
  rename_i K2 hK2
  refine hK2 _ _ ?_
  go_wp2
  exact bodyPost_ret (v := .tuple #[x.val, .int .i64 0]) (goon9v rfl pE pe rE) hdf ⟨rfl, row, mem, TV.out.trans' tch (fun k hk h => by rcases h with h | h | h; exact .inl h; exact .inr h; omega)⟩
theorem mcount_any {w : World} {b bm bw n : Nat} {f f' : Nat → Int} {x : Stp} {sh : Shp} {hand : Int} {fn : Value} {g : Int} {t : Ans} {fl : Bool} {c xb gn : Int} (h_ : w.rowIs b 92 15 (mC sh hand fn g t fl c xb gn)) (hm : IsMem w bm bw n f) (h1 : b ≠ bm) (h2 : b ≠ bw) (hg : 0 ≤ g ∧ g ≤ 18446744073709551615)
  (hx : stepOf n f ⟨hand, 4, 4, 0, 1, true⟩ = x) (hf' : wordsOf n f ⟨hand, 4, 4, 0, 1, true⟩ = f') :
  Calls Tryz.prog 128 #[.pointer (some ⟨b, 0, none⟩), .pointer (some ⟨bm, 0, none⟩)] w fun e w' => e = .returned (.tuple #[x.val, .int .i64 1]) ∧
   w'.rowIs b 92 15 (mC sh hand fn g ⟨true, hd (idx g) gn⟩ fl c xb gn) ∧ IsMem w' bm bw n f' ∧ Touch w w' (fun k => k = b ∨ k = bw) := by
 have hl := h_.lt
 have lw := hm.row.lt
 have lm := hm.head.lt
 have hn3 : w.heap.size ≠ b := by omega
 have hn4 : w.heap.size ≠ bw := by omega
 have hn5 : w.heap.size ≠ bm := by omega
 obtain ⟨W1, hW1⟩ : ∃ W1, w.alloc (.cells #[.int .i64 0, .int .i64 0, .int .i64 0, .int .u64 0, .int .u64 0, .bool false] 75) = W1 := ⟨_, rfl⟩
 have R := hide (show W1.rowIs b 92 15 (mC sh hand fn g t fl c xb gn) from by rw [← hW1]; exact h_.alloc _)
 have M := hide (show IsMem W1 bm bw n f from by rw [← hW1]; exact hm.alloc _)
 have RZ := hide (show W1.rowIs w.heap.size 75 6 zcell from by rw [← hW1]; exact row0 w)
 have T0 := hide (show Touch w W1 (fun k => k = b ∨ k = bw) from by rw [← hW1]; exact (Touch.refl w _).alloc _)
 have sz : W1.heap.size = w.heap.size + 1 := by rw [← hW1]; simp
 have lW1 : b < W1.heap.size := by omega
 obtain ⟨dS, hdS1, hdS2⟩ := row46
 have HD := hide (And.intro hdS1 hdS2)
 obtain ⟨dG, hdG1, hdG2⟩ := rowSh
 have HDS := hide (And.intro hdG1 hdG2)
 have HX := hide hx
 have HF := hide hf'
 have HW : Hid (0 ≤ (⟨hand, 4, 4, 0, 1, true⟩ : Stp).put ∧ (⟨hand, 4, 4, 0, 1, true⟩ : Stp).put ≤ 18446744073709551615) := ⟨by show (0 : Int) ≤ 1; omega, by show (1 : Int) ≤ 18446744073709551615; omega⟩
 have HG := hide hg
 clear hm h_ hx hf' hdS1 hdS2 hdG1 hdG2 hg
 go_enter Tryz.func128, Tryz.ntmps128
 go_wp2_with fail
 clear hW1
 have RW1 := R
 have MW1 := M
 have QW1 := RZ
 have TW1 := T0
 refine RG.regionB 20 (ks := [(0, 6), (1, 7), (2, 8), (3, 9), (4, 10), (5, 11), (6, 12), (7, 13), (8, 14), (9, 15), (10, 16), (11, 17), (12, 18), (13, 19), (14, 20), (15, 21), (16, 22), (17, 23), (19, 5)]) (vals := fun i => match i with
    | 0 => .pointer (some ⟨b, 0, none⟩)
    | 1 => .pointer (some ⟨b, 0, none⟩)
    | 2 => .pointer (some ⟨b, 0, none⟩)
    | 3 => .pointer (some ⟨bm, 0, none⟩)
    | 4 => x.val
    | 5 => .pointer (some ⟨b, 0, none⟩)
    | 6 => .pointer (some ⟨b, 0, none⟩)
    | 7 => .pointer (some ⟨b, 0, none⟩)
    | 8 => .pointer (some ⟨b, 0, none⟩)
    | 9 => .pointer (some ⟨b, 0, none⟩)
    | 10 => .pointer (some ⟨b, 0, none⟩)
    | 11 => .int .i64 (idx g)
    | 12 => .pointer (some ⟨b, 0, none⟩)
    | 13 => .pointer (some ⟨b, 0, none⟩)
    | 14 => .pointer (some ⟨b, 14, none⟩)
    | 15 => .int .u64 gn
    | 16 => .int .u64 (hd (idx g) gn)
    | 17 => .int .i64 1
    | 19 => .int .i64 1
    | _ => undef) (x := 2) (WI := fun L v_ w' => RG.SX b 92 15 (fun c_ g_ => mC sh hand fn g (if g_ = true then ⟨true, hd (idx g) gn⟩ else t) fl c xb gn) bm bw n f f' x w.heap.size none W1 (L 4) (L 17) (L 18) w') (by kernel_rfl) (by kernel_rfl) rfl (by kernel_rfl) (by kernel_rfl) (RG.SX.start (c := false) (g := false) RW1.out (by simpa using MW1.out) QW1.out ⟨h1, h2, hn3, hn5, hn4⟩ (fun k e => by cases e)) ?does ?fin
 case does =>
  intro i o ho
  have hi : i < 20 := RG.lt_of ho rfl
  match i, hi with
  | 0, _ => cases ho; exact RG.rX rfl rfl (fun L a w' hI hd => ex_move rfl (hI.fx 0 rfl))
  | 1, _ => cases ho; exact RG.rX rfl rfl (fun L a w' hI hd => ex_nil rfl (hI.pure 0 _ _ rfl (hd ⟨0, .data⟩ (by simp) rfl)))
  | 2, _ => cases ho; exact RG.rX rfl rfl (fun L a w' hI hd => ex_field rfl (hI.pure 1 _ _ rfl (hd ⟨1, .data⟩ (by simp) rfl)) (fieldM0 w' _))
  | 3, _ => cases ho; exact RG.rX rfl rfl (fun L a w' hI hd => ex_move rfl (hI.fx 1 rfl))
  | 4, _ => cases ho; exact RG.Does.call rfl (fun L a w' hI hd => call4 rfl (hI.pure 2 _ _ rfl (hd ⟨2, .data⟩ (by simp) rfl)) (hI.pure 3 _ _ rfl (hd ⟨3, .data⟩ (by simp) rfl)) rfl rfl rfl (by simp [go_sem])) (fun L v_ w2 hI hL => by have h3 := hI; rw [hL] at h3; refine (row_act h3.row h2 (add_any (show World.cell? w2 ⟨b, 0, none⟩ = some (.int .i64 hand) from h3.row.cell (i := 0) (by omega)) h3.row.lt (by simpa using h3.mem) HW.out HX.out HF.out)).mono ?_; rintro e w3 ⟨rfl, r3, m3, t3⟩; refine ⟨rfl, ?_⟩; rw [upd_same, upd_other _ _ (show 17 ≠ 4 by decide), upd_other _ _ (show 18 ≠ 4 by decide)]; exact h3.turn (c' := true) (r3.congr (fun i hi => (fun _ _ => rfl) i hi)) (by simpa using m3) t3 (fun k e => e))
  | 5, _ => cases ho; exact RG.rX rfl rfl (fun L a w' hI hd => ex_move rfl (hI.fx 0 rfl))
  | 6, _ => cases ho; exact RG.rX rfl rfl (fun L a w' hI hd => ex_nil rfl (hI.pure 5 _ _ rfl (hd ⟨5, .data⟩ (by simp) rfl)))
  | 7, _ => cases ho; exact RG.rX rfl rfl (fun L a w' hI hd => ex_field rfl (hI.pure 6 _ _ rfl (hd ⟨6, .data⟩ (by simp) rfl)) (fieldM0 w' _))
  | 8, _ => cases ho; exact RG.rX rfl rfl (fun L a w' hI hd => ex_move rfl (hI.fx 0 rfl))
  | 9, _ => cases ho; exact RG.rX rfl rfl (fun L a w' hI hd => ex_nil rfl (hI.pure 8 _ _ rfl (hd ⟨8, .data⟩ (by simp) rfl)))
  | 10, _ => cases ho; exact RG.rX rfl rfl (fun L a w' hI hd => ex_field rfl (hI.pure 9 _ _ rfl (hd ⟨9, .data⟩ (by simp) rfl)) (fieldM0 w' _))
  | 11, _ => cases ho; exact RG.Does.call rfl (fun L a w' hI hd => call1 rfl (hI.pure 10 _ _ rfl (hd ⟨10, .data⟩ (by simp) rfl)) rfl (by simp [go_sem])) (fun L v_ w2 hI hL => (first_any (show World.cell? w2 ⟨b, 2, none⟩ = some (.int .u64 g) from hI.row.cell (i := 2) (by omega)) hI.row.lt HG.out).mono (by rintro e w3 ⟨rfl, rfl⟩; exact ⟨rfl, RG.SX.skip (by decide) (by decide) (by decide)  hI⟩))
  | 12, _ => cases ho; exact RG.rX rfl rfl (fun L a w' hI hd => ex_move rfl (hI.fx 0 rfl))
  | 13, _ => cases ho; exact RG.rX rfl rfl (fun L a w' hI hd => ex_nil rfl (hI.pure 12 _ _ rfl (hd ⟨12, .data⟩ (by simp) rfl)))
  | 14, _ => cases ho; exact RG.rX rfl rfl (fun L a w' hI hd => ex_field rfl (hI.pure 13 _ _ rfl (hd ⟨13, .data⟩ (by simp) rfl)) (fieldM5 w' _))
  | 15, _ => cases ho; exact RG.rX rfl rfl (fun L a w' hI hd => ex_load rfl (hI.pure 14 _ _ rfl (hd ⟨14, .data⟩ (by simp) rfl)) (aggU w') (hI.world.row.cell (i := 14) (by omega)))
  | 16, _ => cases ho; exact RG.Does.ask rfl (fun L v_ w' h => RG.SX.skip (by decide) (by decide) (by decide) h) (fun L a w' hI hd => call2 rfl (hI.pure 11 _ _ rfl (hd ⟨11, .data⟩ (by simp) rfl)) (hI.pure 15 _ _ rfl (hd ⟨15, .data⟩ (by simp) rfl)) rfl (by simp [go_sem])) (fun w9 : World => handle_any (idx g) gn w9)
  | 17, _ => cases ho; exact RG.Does.call rfl (fun L a w' hI hd => call2 rfl (hI.pure 7 _ _ rfl (hd ⟨7, .data⟩ (by simp) rfl)) (hI.pure 16 _ _ rfl (hd ⟨16, .data⟩ (by simp) rfl)) rfl (by simp [go_sem])) (fun L v_ w2 hI hL => by have h3 := hI; rw [hL] at h3; refine (end_any ⟨hd_lo _ _, by have := hd_hi (idx g) gn; omega⟩ h3.row (by omega)).mono ?_; rintro e w3 ⟨rfl, r3, t3⟩; refine ⟨rfl, ?_⟩; rw [upd_same, upd_other _ _ (show 4 ≠ 17 by decide), upd_other _ _ (show 18 ≠ 17 by decide)]; exact h3.turn (g' := true) (r3.congr (fun i hi => m_told _ _ _ _ _ _ _ _ _ _ i hi)) ⟨h3.mem.head.of_block (t3.block _ h3.mem.head.lt (fun e => h1 e.symm)), h3.mem.row.of_block (t3.block _ h3.mem.row.lt (fun e => h2 e.symm)), h3.mem.most, h3.mem.word⟩ t3 (fun k e => .inl e))
  | 18, _ => cases ho; exact RG.Does.put (ls := x.cells) rfl rfl rfl size46 (by simp [Stp.cells, Value.oneCell']) (fun L a w' hI hL hdd => ⟨(hI.pure 4 _ _ rfl (hdd ⟨4, .data⟩ (by simp) rfl)), by obtain ⟨e2, e3⟩ := RG.SX.put hI.world; exact ⟨w.heap.size, 0, hI.fx 4 rfl, e2, by show RG.SX b 92 15 (fun c_ g_ => mC sh hand fn g (if g_ = true then ⟨true, hd (idx g) gn⟩ else t) fl c xb gn) bm bw n f f' x w.heap.size none W1 (upd L 18 true 4) (upd L 18 true 17) (upd L 18 true 18) _; rw [upd_same, upd_other _ _ (show 4 ≠ 18 by decide), upd_other _ _ (show 17 ≠ 18 by decide)]; exact e3⟩⟩)
  | 19, _ => cases ho; exact RG.rX rfl rfl (fun L a w' hI hd => ex_assign rfl (hI.pure 17 _ _ rfl (hd ⟨17, .data⟩ (by simp) rfl)))
 case fin =>
  intro L a' w' hI hall
  rename_i K2 hK2
  refine hK2 _ _ ?_
  have hw := hI.world
  simp only [hall 4 (by decide), hall 17 (by decide), hall 18 (by decide)] at hw
  have rE := hw.sto rfl
  have pE : a'.eval (.tmp 4) = .pointer (some ⟨w.heap.size, 0, none⟩) := hI.fx 4 rfl
  have pe : a'.eval (.tmp 5) = .int .i64 1 := hI.pure 19 5 _ rfl (hall 19 (by decide))
  have hdf : a'.defers = [] := hI.df
  have hS := run_loadVar_mid (P := Tryz.prog) w' w.heap.size 0 _ _ dS rE HD.out.1 HD.out.2 size46
  have hres := results_ct (Q := Tryz.prog) (fn := Tryz.f128) (tmps := a'.tmps) (t := 4) (t' := 5) (W := w') (by rfl) pE hS
  rw [show a'.tmps.getD 5 undef = .int .i64 1 from pe] at hres
  go_wp2
  exact bodyPost_ret (v := .tuple #[x.val, .int .i64 1]) hres hdf ⟨rfl, hw.row, by simpa using hw.mem, TW1.out.trans' hw.tch (fun k hk h => by rcases h with h | h | h; exact .inl h; exact .inr h; omega)⟩
end Rom
end
end Go.Proofs.YtmikhglnomgbfaaGreat
