/-
  Lemmas: RoomF.
-/
import Derived.Test.YtmikhglnomgbfaaGreatTp29
import Derived.Test.YtmikhglnomgbfaaGreatTp18
namespace Go.Proofs.YtmikhglnomgbfaaGreat
set_option maxHeartbeats 8000000
open Go.RowKit
set_option linter.unusedVariables false
set_option linter.unusedSimpArgs false
set_option maxRecDepth 20000
section
namespace Rom
open Hp
theorem find_no {w : World} {b bm bw n : Nat} {f f' : Nat → Int} {x : Stp} {sh : Shp} {hand : Int} {fn : Value} {g : Int} {t : Ans} {fl : Bool} {c xb gn : Int} (h_ : w.rowIs b 92 15 (mC sh hand fn g t fl c xb gn)) (hm : IsMem w bm bw n f) (h1 : b ≠ bm) (h2 : b ≠ bw) (hxh : 0 ≤ x.had ∧ x.had ≤ 18446744073709551615) (ht : ¬ there sh (idx x.had))
  (hx : stepOf n f ⟨hand, 1, 1, 0, 0, true⟩ = x) (hf' : wordsOf n f ⟨hand, 1, 1, 0, 0, true⟩ = f') :
  Calls Tryz.prog 31 #[.pointer (some ⟨b, 0, none⟩), .pointer (some ⟨bm, 0, none⟩)] w fun e w' => e = .returned (.tuple #[x.val, .int .i64 1]) ∧
   w'.rowIs b 92 15 (mC sh hand fn x.had t fl c xb gn) ∧ IsMem w' bm bw n f' ∧ Touch w w' (fun k => k = b ∨ k = bw) := by
 have hl := h_.lt
 have lw := hm.row.lt
 have lm := hm.head.lt
 have hn3 : w.heap.size ≠ b := by omega
 have hn4 : w.heap.size ≠ bw := by omega
 have hn5 : w.heap.size ≠ bm := by omega
 obtain ⟨W1, hW1⟩ : ∃ W1, w.alloc (.cells #[.int .i64 0, .int .i64 0, .int .i64 0, .int .u64 0, .int .u64 0, .bool false] 75) = W1 := ⟨_, rfl⟩
 have R := hide (show W1.rowIs b 92 15 (mC sh hand fn g t fl c xb gn) from by rw [← hW1]; exact h_.alloc _)
 have M := hide (show IsMem W1 bm bw n f from by rw [← hW1]; exact hm.alloc _)
 have RZ := hide (show W1.rowIs w.heap.size 75 6 zcell from by rw [← hW1]; exact row0 w)
 have T0 := hide (show Touch w W1 (fun k => k = b ∨ k = bw) from by rw [← hW1]; exact (Touch.refl w _).alloc _)
 have sz : W1.heap.size = w.heap.size + 1 := by rw [← hW1]; simp
 have lW1 : b < W1.heap.size := by omega
 obtain ⟨dS, hdS1, hdS2⟩ := row46
 have HD := hide (And.intro hdS1 hdS2)
 obtain ⟨dG, hdG1, hdG2⟩ := rowSh
 have HDS := hide (And.intro hdG1 hdG2)
 have HX := hide hx
 have HF := hide hf'
 have HW : Hid (0 ≤ (⟨hand, 1, 1, 0, 0, true⟩ : Stp).put ∧ (⟨hand, 1, 1, 0, 0, true⟩ : Stp).put ≤ 18446744073709551615) := ⟨by show (0 : Int) ≤ 0; omega, by show (0 : Int) ≤ 18446744073709551615; omega⟩
 have HXH := hide hxh
 have PL := hide (fun w1 : World => isNumber_any sh (idx x.had) w1)
 rw [decide_eq_false ht] at PL
 have LG := hide (loadList_any (hand := hand) (at_ := 1) R.out (by omega) rfl M.out h1 h2 hx hf')
 clear hm h_ hx hf' hdS1 hdS2 hdG1 hdG2 hxh ht
 go_enter Tryz.func31, Tryz.ntmps31
 go_wp2_with fail
 clear hW1
 refine LG.out.mono ?_
 rintro e w1 ⟨rfl, r1, m1, t1⟩
 simp only [Stp.val]
 have lw1 := t1.size
 have l1 : b < w1.heap.size := by omega
 have l2 : w.heap.size < w1.heap.size := by omega
 have Rw1 := hide (show w1.rowIs b 92 15 (mC sh hand fn x.had t fl c xb gn) from r1.congr (fun i hi => m_g _ _ _ _ _ _ _ _ _ _ i hi))
 have Mw1 := hide m1
 have Qw1 := hide (RZ.out.of_block (t1.block w.heap.size (by omega) (by omega)))
 have Tw1 := hide (T0.out.trans' t1 (fun k _ e => e))
 clear r1 m1 t1
 obtain ⟨q, hq⟩ : ∃ q, w1.heap.size = q := ⟨_, rfl⟩
 obtain ⟨V, hV⟩ : ∃ V, w1.alloc (.cells #[.int .i64 x.hand, .int .i64 x.act, .int .i64 x.at_, .int .u64 x.had, .int .u64 x.put, .bool x.ok] 75) = V := ⟨_, rfl⟩
 have RV := hide (show V.rowIs b 92 15 (mC sh hand fn x.had t fl c xb gn) from by
  rw [← hV]
  exact Rw1.out.alloc _)
 have MV := hide (show IsMem V bm bw n f' from by
  rw [← hV]
  exact Mw1.out.alloc _)
 have QV := hide (show V.rowIs w.heap.size 75 6 zcell from by
  rw [← hV]
  exact Qw1.out.alloc _)
 have SV := hide (show V.rangeAt q 0 x.cells from by
  rw [← hV, ← hq]
  exact rowIs.range (rowL_alloc w1 x.cells 75 (n := 6) (by simp [Stp.cells])) (by simp [Stp.cells]))
 have TV := hide (show Touch w V (fun k => k = b ∨ k = bw) from by
  rw [← hV]
  exact Tw1.out.alloc _)
 have szV : V.heap.size = w1.heap.size + 1 := by rw [← hV]; simp
 have hqb : q ≠ b := by omega
 have hqr : q ≠ w.heap.size := by omega
 have hqm : q ≠ bm ∧ q ≠ bw := by have := Mw1.out.head.lt; have := Mw1.out.row.lt; omega
 have lqV : q < V.heap.size := by omega
 have HQ := hide hq
 clear hq
 go_upto_region 2 with (fail)
 rw [HQ.out]
 clear hV HQ Rw1 Mw1 Qw1 Tw1
 refine RG.regionB 10 (ks := [(0, 12), (1, 13), (2, 14), (3, 15), (4, 16), (5, 17), (6, 18), (7, 19), (8, 20), (9, 21)]) (vals := fun i => match i with
   | 0 => .pointer (some ⟨b, 0, none⟩)
   | 1 => .pointer (some ⟨b, 0, none⟩)
   | 2 => .pointer (some ⟨b, 5, none⟩)
   | 3 => sh.val
   | 4 => .pointer (some ⟨b, 0, none⟩)
   | 5 => .pointer (some ⟨b, 0, none⟩)
   | 6 => .pointer (some ⟨b, 0, none⟩)
   | 7 => .int .i64 (idx x.had)
   | 8 => .bool false
   | 9 => .bool (!false)
   | _ => undef) (x := 2) (WI := fun L v_ w' => RG.SX b 92 15 (fun _ _ => mC sh hand fn x.had t fl c xb gn) bm bw n f' f' x w.heap.size (some q) V true false false w') (by kernel_rfl) (by kernel_rfl) rfl (by kernel_rfl) (by kernel_rfl) (RG.SX.start (c := true) (g := false) RV.out (by simpa using MV.out) QV.out ⟨h1, h2, hn3, hn5, hn4⟩ (fun k e => by cases e; exact ⟨SV.out, by omega, hqb, hqm.2, hqr⟩)) ?does ?fin
 case does =>
  intro i o ho
  have hi : i < 10 := RG.lt_of ho rfl
  match i, hi with
  | 0, _ => cases ho; exact RG.Does.read rfl (fun L v_ w' h => h) (fun L a w' hI hd => ex_move rfl (hI.fx 0 rfl))
  | 1, _ => cases ho; exact RG.Does.read rfl (fun L v_ w' h => h) (fun L a w' hI hd => ex_nil rfl (hI.pure 0 _ _ rfl (hd ⟨0, .data⟩ (by simp) rfl)))
  | 2, _ => cases ho; exact RG.Does.read rfl (fun L v_ w' h => h) (fun L a w' hI hd => ex_field rfl (hI.pure 1 _ _ rfl (hd ⟨1, .data⟩ (by simp) rfl)) (fieldM1 w' _))
  | 3, _ => cases ho; exact RG.Does.read rfl (fun L v_ w' h => h) (fun L a w' hI hd => ex_load_row rfl (hI.pure 2 _ _ rfl (hd ⟨2, .data⟩ (by simp) rfl)) (shrow (sh := sh) (by omega) rfl rfl rfl rfl rfl rfl hI.world.row) HDS.out.1 HDS.out.2 sizeSh)
  | 4, _ => cases ho; exact RG.Does.read rfl (fun L v_ w' h => h) (fun L a w' hI hd => ex_move rfl (hI.fx 0 rfl))
  | 5, _ => cases ho; exact RG.Does.read rfl (fun L v_ w' h => h) (fun L a w' hI hd => ex_nil rfl (hI.pure 4 _ _ rfl (hd ⟨4, .data⟩ (by simp) rfl)))
  | 6, _ => cases ho; exact RG.Does.read rfl (fun L v_ w' h => h) (fun L a w' hI hd => ex_field rfl (hI.pure 5 _ _ rfl (hd ⟨5, .data⟩ (by simp) rfl)) (fieldM0 w' _))
  | 7, _ => cases ho; exact RG.Does.call rfl (fun L a w' hI hd => call1 rfl (hI.pure 6 _ _ rfl (hd ⟨6, .data⟩ (by simp) rfl)) rfl (by simp [go_sem])) (fun L v_ w2 hI hL => (first_any (show World.cell? w2 ⟨b, 2, none⟩ = some (.int .u64 x.had) from hI.row.cell (i := 2) (by omega)) hI.row.lt HXH.out).mono (by rintro e w3 ⟨rfl, rfl⟩; exact ⟨rfl,  hI⟩))
  | 8, _ => cases ho; exact RG.Does.call rfl (fun L a w' hI hd => call2 rfl (hI.pure 3 _ _ rfl (hd ⟨3, .data⟩ (by simp) rfl)) (hI.pure 7 _ _ rfl (hd ⟨7, .data⟩ (by simp) rfl)) rfl (by simp [go_sem])) (fun L v_ w2 hI hL => ((PL.out) w2).mono (by rintro e w3 ⟨rfl, hb⟩; exact ⟨rfl,  (SXq hI hb)⟩))
  | 9, _ => cases ho; exact RG.Does.read rfl (fun L v_ w' h => h) (fun L a w' hI hd => ex_not rfl (hI.pure 8 _ _ rfl (hd ⟨8, .data⟩ (by simp) rfl)))
 case fin =>
  intro L a' w4 hI hall
  have hw := hI.world
  have ea := act_all a' 34 (by rw [hI.sz]; rfl) hI.df
  simp only [List.range, List.range.loop, List.map] at ea
  rw [hI.fx 0 rfl, hI.fx 1 rfl, hI.fx 3 rfl, hI.fx 4 rfl, hI.fx 5 rfl, hI.fx 6 rfl, hI.fx 7 rfl, hI.fx 8 rfl, hI.fx 9 rfl, hI.fx 10 rfl, hI.fx 11 rfl, hI.fx 22 rfl, hI.fx 23 rfl, hI.fx 24 rfl, hI.fx 25 rfl, hI.fx 26 rfl, hI.fx 27 rfl, hI.fx 28 rfl, hI.fx 29 rfl, hI.fx 30 rfl, hI.fx 31 rfl, hI.fx 32 rfl, hI.fx 33 rfl] at ea
  have kv21 := hI.pure 9 21 _ rfl (hall 9 (by decide))
  clear hI hall
  obtain ⟨us, hus⟩ : ∃ us : Nat → Value, ∀ k, a'.eval (.tmp k) = us k := ⟨_, fun _ => rfl⟩
  simp only [hus] at ea kv21
  rw [kv21] at ea
  simp only [show ∀ (ts : Array Value) (ds) (i : Nat), (Act.mk ts ds).eval (.tmp i) = ts.getD i undef from fun _ _ _ => rfl] at ea
  simp at ea
  subst ea
  have Rw4 := hide hw.row
  have Mw4 := hide (show IsMem w4 bm bw n f' from by simpa using hw.mem)
  have Qw4 := hide (hw.res rfl)
  have szN := hw.tch.size
  have Tw4 := hide (TV.out.trans' hw.tch (fun k hk h => by rcases h with h | h | h; exact .inl h; exact .inr h; omega))
  have lb4 : b < w4.heap.size := by omega
  have lr4 : w.heap.size < w4.heap.size := by omega
  have Sw4 := hide (hw.var q rfl).1
  have lq4 : q < w4.heap.size := by omega
  clear hw
  go_wp2_with fail
  refine RG.regionB 7 (ks := [(0, 22), (1, 23), (2, 24), (3, 25), (4, 26), (6, 5)]) (vals := fun i => match i with
     | 0 => x.val
     | 1 => .pointer (some ⟨b, 0, none⟩)
     | 2 => .pointer (some ⟨b, 0, none⟩)
     | 3 => .pointer (some ⟨b, 0, none⟩)
     | 4 => .int .i64 1
     | 6 => .int .i64 1
     | _ => undef) (x := 2) (WI := fun L v_ w' => RG.SX b 92 15 (fun c_ g_ => mC sh hand fn x.had t fl c xb gn) bm bw n f' f' x w.heap.size (some q) w4 true (L 4) (L 5) w') (by kernel_rfl) (by kernel_rfl) rfl (by kernel_rfl) (by kernel_rfl) (RG.SX.start (c := true) (g := false) Rw4.out (by simpa using Mw4.out) Qw4.out ⟨h1, h2, hn3, hn5, hn4⟩ (fun k e => by cases e; exact ⟨Sw4.out, by omega, hqb, hqm.2, hqr⟩)) ?does ?fin
  case does =>
   intro i o ho
   have hi : i < 7 := RG.lt_of ho rfl
   match i, hi with
   | 0, _ => cases ho; exact RG.rX2 rfl rfl (fun L a w' hI hd => ex_load_row rfl (hI.fx 6 rfl) (hI.world.var _ rfl).1 HD.out.1 HD.out.2 size46)
   | 1, _ => cases ho; exact RG.rX2 rfl rfl (fun L a w' hI hd => ex_move rfl (hI.fx 0 rfl))
   | 2, _ => cases ho; exact RG.rX2 rfl rfl (fun L a w' hI hd => ex_nil rfl (hI.pure 1 _ _ rfl (hd ⟨1, .data⟩ (by simp) rfl)))
   | 3, _ => cases ho; exact RG.rX2 rfl rfl (fun L a w' hI hd => ex_field rfl (hI.pure 2 _ _ rfl (hd ⟨2, .data⟩ (by simp) rfl)) (fieldM0 w' _))
   | 4, _ => cases ho; exact RG.Does.call rfl (fun L a w' hI hd => call1 rfl (hI.pure 3 _ _ rfl (hd ⟨3, .data⟩ (by simp) rfl)) rfl (by simp [go_sem])) (fun L v_ w2 hI hL => by have h3 := hI; rw [hL] at h3; refine (refuse_any _ w2).mono ?_; rintro e w3 ⟨rfl, rfl⟩; refine ⟨rfl, ?_⟩; rw [upd_same, upd_other _ _ (show 5 ≠ 4 by decide)]; exact h3.turn (g' := true) (S := fun _ => False) h3.row h3.mem (Touch.refl _ _) (fun k e => e.elim))
   | 5, _ => cases ho; exact RG.Does.put (ls := x.cells) rfl rfl rfl size46 (by simp [Stp.cells, Value.oneCell']) (fun L a w' hI hL hdd => ⟨(hI.pure 0 _ _ rfl (hdd ⟨0, .data⟩ (by simp) rfl)), by obtain ⟨e2, e3⟩ := RG.SX.put hI.world; exact ⟨w.heap.size, 0, hI.fx 4 rfl, e2, by show RG.SX b 92 15 (fun c_ g_ => mC sh hand fn x.had t fl c xb gn) bm bw n f' f' x w.heap.size (some q) w4 true (upd L 5 true 4) (upd L 5 true 5) _; rw [upd_same, upd_other _ _ (show 4 ≠ 5 by decide)]; exact e3⟩⟩)
   | 6, _ => cases ho; exact RG.rX2 rfl rfl (fun L a w' hI hd => ex_assign rfl (hI.pure 4 _ _ rfl (hd ⟨4, .data⟩ (by simp) rfl)))
  case fin =>
   intro L a' w' hI hall
   rename_i K2 hK2
   refine hK2 _ _ ?_
   have hw := hI.world
   simp only [hall 4 (by decide), hall 5 (by decide)] at hw
   have rE := hw.sto rfl
   have pE : a'.eval (.tmp 4) = .pointer (some ⟨w.heap.size, 0, none⟩) := hI.fx 4 rfl
   have pe : a'.eval (.tmp 5) = .int .i64 1 := hI.pure 6 5 _ rfl (hall 6 (by decide))
   have hdf : a'.defers = [] := hI.df
   have hS := run_loadVar_mid (P := Tryz.prog) w' w.heap.size 0 _ _ dS rE HD.out.1 HD.out.2 size46
   have hres := results_ct (Q := Tryz.prog) (fn := Tryz.f31) (tmps := a'.tmps) (t := 4) (t' := 5) (W := w') (by rfl) pE hS
   rw [show a'.tmps.getD 5 undef = .int .i64 1 from pe] at hres
   go_wp2
   exact bodyPost_ret (v := .tuple #[x.val, .int .i64 1]) hres hdf ⟨rfl, hw.row, by simpa using hw.mem, Tw4.out.trans' hw.tch (fun k hk h => by rcases h with h | h | h; exact .inl h; exact .inr h; omega)⟩
theorem find_yes {w : World} {b bm bw n : Nat} {f f' : Nat → Int} {x : Stp} {sh : Shp} {hand : Int} {fn : Value} {g : Int} {t : Ans} {fl : Bool} {c xb gn : Int} (h_ : w.rowIs b 92 15 (mC sh hand fn g t fl c xb gn)) (hm : IsMem w bm bw n f) (h1 : b ≠ bm) (h2 : b ≠ bw) (hxh : 0 ≤ x.had ∧ x.had ≤ 18446744073709551615) (ht : there sh (idx x.had))
  (hx : stepOf n f ⟨hand, 1, 1, 0, 0, true⟩ = x) (hf' : wordsOf n f ⟨hand, 1, 1, 0, 0, true⟩ = f') :
  Calls Tryz.prog 31 #[.pointer (some ⟨b, 0, none⟩), .pointer (some ⟨bm, 0, none⟩)] w fun e w' => e = .returned (.tuple #[x.val, .int .i64 0]) ∧
   w'.rowIs b 92 15 (mC sh hand (.func (.func 58) #[.pointer (some ⟨b, 0, none⟩)] #[]) x.had t fl c xb gn) ∧ IsMem w' bm bw n f' ∧ Touch w w' (fun k => k = b ∨ k = bw) := by
 have hl := h_.lt
 have lw := hm.row.lt
 have lm := hm.head.lt
 have hn3 : w.heap.size ≠ b := by omega
 have hn4 : w.heap.size ≠ bw := by omega
 have hn5 : w.heap.size ≠ bm := by omega
 obtain ⟨W1, hW1⟩ : ∃ W1, w.alloc (.cells #[.int .i64 0, .int .i64 0, .int .i64 0, .int .u64 0, .int .u64 0, .bool false] 75) = W1 := ⟨_, rfl⟩
 have R := hide (show W1.rowIs b 92 15 (mC sh hand fn g t fl c xb gn) from by rw [← hW1]; exact h_.alloc _)
 have M := hide (show IsMem W1 bm bw n f from by rw [← hW1]; exact hm.alloc _)
 have RZ := hide (show W1.rowIs w.heap.size 75 6 zcell from by rw [← hW1]; exact row0 w)
 have T0 := hide (show Touch w W1 (fun k => k = b ∨ k = bw) from by rw [← hW1]; exact (Touch.refl w _).alloc _)
 have sz : W1.heap.size = w.heap.size + 1 := by rw [← hW1]; simp
 have lW1 : b < W1.heap.size := by omega
 obtain ⟨dS, hdS1, hdS2⟩ := row46
 have HD := hide (And.intro hdS1 hdS2)
 obtain ⟨dG, hdG1, hdG2⟩ := rowSh
 have HDS := hide (And.intro hdG1 hdG2)
 have HX := hide hx
 have HF := hide hf'
 have HW : Hid (0 ≤ (⟨hand, 1, 1, 0, 0, true⟩ : Stp).put ∧ (⟨hand, 1, 1, 0, 0, true⟩ : Stp).put ≤ 18446744073709551615) := ⟨by show (0 : Int) ≤ 0; omega, by show (0 : Int) ≤ 18446744073709551615; omega⟩
 have HXH := hide hxh
 have PL := hide (fun w1 : World => isNumber_any sh (idx x.had) w1)
 rw [decide_eq_true ht] at PL
 have LG := hide (loadList_any (hand := hand) (at_ := 1) R.out (by omega) rfl M.out h1 h2 hx hf')
 clear hm h_ hx hf' hdS1 hdS2 hdG1 hdG2 hxh ht
 go_enter Tryz.func31, Tryz.ntmps31
 go_wp2_with fail
 clear hW1
 refine LG.out.mono ?_
 rintro e w1 ⟨rfl, r1, m1, t1⟩
 simp only [Stp.val]
 have lw1 := t1.size
 have l1 : b < w1.heap.size := by omega
 have l2 : w.heap.size < w1.heap.size := by omega
 have Rw1 := hide (show w1.rowIs b 92 15 (mC sh hand fn x.had t fl c xb gn) from r1.congr (fun i hi => m_g _ _ _ _ _ _ _ _ _ _ i hi))
 have Mw1 := hide m1
 have Qw1 := hide (RZ.out.of_block (t1.block w.heap.size (by omega) (by omega)))
 have Tw1 := hide (T0.out.trans' t1 (fun k _ e => e))
 clear r1 m1 t1
 obtain ⟨q, hq⟩ : ∃ q, w1.heap.size = q := ⟨_, rfl⟩
 obtain ⟨V, hV⟩ : ∃ V, w1.alloc (.cells #[.int .i64 x.hand, .int .i64 x.act, .int .i64 x.at_, .int .u64 x.had, .int .u64 x.put, .bool x.ok] 75) = V := ⟨_, rfl⟩
 have RV := hide (show V.rowIs b 92 15 (mC sh hand fn x.had t fl c xb gn) from by
  rw [← hV]
  exact Rw1.out.alloc _)
 have MV := hide (show IsMem V bm bw n f' from by
  rw [← hV]
  exact Mw1.out.alloc _)
 have QV := hide (show V.rowIs w.heap.size 75 6 zcell from by
  rw [← hV]
  exact Qw1.out.alloc _)
 have SV := hide (show V.rangeAt q 0 x.cells from by
  rw [← hV, ← hq]
  exact rowIs.range (rowL_alloc w1 x.cells 75 (n := 6) (by simp [Stp.cells])) (by simp [Stp.cells]))
 have TV := hide (show Touch w V (fun k => k = b ∨ k = bw) from by
  rw [← hV]
  exact Tw1.out.alloc _)
 have szV : V.heap.size = w1.heap.size + 1 := by rw [← hV]; simp
 have hqb : q ≠ b := by omega
 have hqr : q ≠ w.heap.size := by omega
 have hqm : q ≠ bm ∧ q ≠ bw := by have := Mw1.out.head.lt; have := Mw1.out.row.lt; omega
 have lqV : q < V.heap.size := by omega
 have HQ := hide hq
 clear hq
 go_upto_region 2 with (fail)
 rw [HQ.out]
 clear hV HQ Rw1 Mw1 Qw1 Tw1
 refine RG.regionB 10 (ks := [(0, 12), (1, 13), (2, 14), (3, 15), (4, 16), (5, 17), (6, 18), (7, 19), (8, 20), (9, 21)]) (vals := fun i => match i with
   | 0 => .pointer (some ⟨b, 0, none⟩)
   | 1 => .pointer (some ⟨b, 0, none⟩)
   | 2 => .pointer (some ⟨b, 5, none⟩)
   | 3 => sh.val
   | 4 => .pointer (some ⟨b, 0, none⟩)
   | 5 => .pointer (some ⟨b, 0, none⟩)
   | 6 => .pointer (some ⟨b, 0, none⟩)
   | 7 => .int .i64 (idx x.had)
   | 8 => .bool true
   | 9 => .bool (!true)
   | _ => undef) (x := 2) (WI := fun L v_ w' => RG.SX b 92 15 (fun _ _ => mC sh hand fn x.had t fl c xb gn) bm bw n f' f' x w.heap.size (some q) V true false false w') (by kernel_rfl) (by kernel_rfl) rfl (by kernel_rfl) (by kernel_rfl) (RG.SX.start (c := true) (g := false) RV.out (by simpa using MV.out) QV.out ⟨h1, h2, hn3, hn5, hn4⟩ (fun k e => by cases e; exact ⟨SV.out, by omega, hqb, hqm.2, hqr⟩)) ?does ?fin
 case does =>
  intro i o ho
  have hi : i < 10 := RG.lt_of ho rfl
  match i, hi with
  | 0, _ => cases ho; exact RG.Does.read rfl (fun L v_ w' h => h) (fun L a w' hI hd => ex_move rfl (hI.fx 0 rfl))
  | 1, _ => cases ho; exact RG.Does.read rfl (fun L v_ w' h => h) (fun L a w' hI hd => ex_nil rfl (hI.pure 0 _ _ rfl (hd ⟨0, .data⟩ (by simp) rfl)))
  | 2, _ => cases ho; exact RG.Does.read rfl (fun L v_ w' h => h) (fun L a w' hI hd => ex_field rfl (hI.pure 1 _ _ rfl (hd ⟨1, .data⟩ (by simp) rfl)) (fieldM1 w' _))
  | 3, _ => cases ho; exact RG.Does.read rfl (fun L v_ w' h => h) (fun L a w' hI hd => ex_load_row rfl (hI.pure 2 _ _ rfl (hd ⟨2, .data⟩ (by simp) rfl)) (shrow (sh := sh) (by omega) rfl rfl rfl rfl rfl rfl hI.world.row) HDS.out.1 HDS.out.2 sizeSh)
  | 4, _ => cases ho; exact RG.Does.read rfl (fun L v_ w' h => h) (fun L a w' hI hd => ex_move rfl (hI.fx 0 rfl))
  | 5, _ => cases ho; exact RG.Does.read rfl (fun L v_ w' h => h) (fun L a w' hI hd => ex_nil rfl (hI.pure 4 _ _ rfl (hd ⟨4, .data⟩ (by simp) rfl)))
  | 6, _ => cases ho; exact RG.Does.read rfl (fun L v_ w' h => h) (fun L a w' hI hd => ex_field rfl (hI.pure 5 _ _ rfl (hd ⟨5, .data⟩ (by simp) rfl)) (fieldM0 w' _))
  | 7, _ => cases ho; exact RG.Does.call rfl (fun L a w' hI hd => call1 rfl (hI.pure 6 _ _ rfl (hd ⟨6, .data⟩ (by simp) rfl)) rfl (by simp [go_sem])) (fun L v_ w2 hI hL => (first_any (show World.cell? w2 ⟨b, 2, none⟩ = some (.int .u64 x.had) from hI.row.cell (i := 2) (by omega)) hI.row.lt HXH.out).mono (by rintro e w3 ⟨rfl, rfl⟩; exact ⟨rfl,  hI⟩))
  | 8, _ => cases ho; exact RG.Does.call rfl (fun L a w' hI hd => call2 rfl (hI.pure 3 _ _ rfl (hd ⟨3, .data⟩ (by simp) rfl)) (hI.pure 7 _ _ rfl (hd ⟨7, .data⟩ (by simp) rfl)) rfl (by simp [go_sem])) (fun L v_ w2 hI hL => ((PL.out) w2).mono (by rintro e w3 ⟨rfl, hb⟩; exact ⟨rfl,  (SXq hI hb)⟩))
  | 9, _ => cases ho; exact RG.Does.read rfl (fun L v_ w' h => h) (fun L a w' hI hd => ex_not rfl (hI.pure 8 _ _ rfl (hd ⟨8, .data⟩ (by simp) rfl)))
 case fin =>
  intro L a' w4 hI hall
  have hw := hI.world
  have ea := act_all a' 34 (by rw [hI.sz]; rfl) hI.df
  simp only [List.range, List.range.loop, List.map] at ea
  rw [hI.fx 0 rfl, hI.fx 1 rfl, hI.fx 3 rfl, hI.fx 4 rfl, hI.fx 5 rfl, hI.fx 6 rfl, hI.fx 7 rfl, hI.fx 8 rfl, hI.fx 9 rfl, hI.fx 10 rfl, hI.fx 11 rfl, hI.fx 22 rfl, hI.fx 23 rfl, hI.fx 24 rfl, hI.fx 25 rfl, hI.fx 26 rfl, hI.fx 27 rfl, hI.fx 28 rfl, hI.fx 29 rfl, hI.fx 30 rfl, hI.fx 31 rfl, hI.fx 32 rfl, hI.fx 33 rfl] at ea
  have kv21 := hI.pure 9 21 _ rfl (hall 9 (by decide))
  clear hI hall
  obtain ⟨us, hus⟩ : ∃ us : Nat → Value, ∀ k, a'.eval (.tmp k) = us k := ⟨_, fun _ => rfl⟩
  simp only [hus] at ea kv21
  rw [kv21] at ea
  simp only [show ∀ (ts : Array Value) (ds) (i : Nat), (Act.mk ts ds).eval (.tmp i) = ts.getD i undef from fun _ _ _ => rfl] at ea
  simp at ea
  subst ea
  have Rw4 := hide hw.row
  have Mw4 := hide (show IsMem w4 bm bw n f' from by simpa using hw.mem)
  have Qw4 := hide (hw.res rfl)
  have szN := hw.tch.size
  have Tw4 := hide (TV.out.trans' hw.tch (fun k hk h => by rcases h with h | h | h; exact .inl h; exact .inr h; omega))
  have lb4 : b < w4.heap.size := by omega
  have lr4 : w.heap.size < w4.heap.size := by omega
  have Sw4 := hide (hw.var q rfl).1
  have lq4 : q < w4.heap.size := by omega
  clear hw
  go_wp2_with fail
  refine goon9 (D := 27) (F := 58) (C' := mC sh hand (.func (.func 58) #[.pointer (some ⟨b, 0, none⟩)] #[]) x.had t fl c xb gn) Rw4.out Mw4.out Qw4.out Sw4.out ⟨by omega, hqb, hqm.2, hqr⟩ ⟨h1, h2, hn3, hn5, hn4⟩ (by omega) (fun i hi => m_fn _ _ _ _ _ _ _ _ _ _ i hi) (by kernel_rfl) (by kernel_rfl) rfl rfl rfl rfl rfl rfl rfl rfl rfl rfl rfl rfl rfl rfl rfl rfl rfl rfl rfl rfl rfl (fun w' => fieldM0 w' _) (by simp) (by simp) (by simp) (by simp) (by simp) (by simp) (by simp) (by decide) (by simp) ?_
  intro a' w' pE pe hdf rE row mem tch
  rename_i K2 hK2
  refine hK2 _ _ ?_
  go_wp2
  exact bodyPost_ret (v := .tuple #[x.val, .int .i64 0]) (goon9v rfl pE pe rE) hdf ⟨rfl, row, mem, Tw4.out.trans' tch (fun k hk h => by rcases h with h | h | h; exact .inl h; exact .inr h; omega)⟩
theorem use_any {w : World} {b bm bw n : Nat} {f f' : Nat → Int} {x : Stp} {sh : Shp} {hand : Int} {fn : Value} {g : Int} {t : Ans} {fl : Bool} {c xb gn : Int} (h_ : w.rowIs b 92 15 (mC sh hand fn g t fl c xb gn)) (hm : IsMem w bm bw n f) (h1 : b ≠ bm) (h2 : b ≠ bw) (h5 : Shape.R5 sh.a sh.b sh.c sh.d sh.e) (hg : 0 ≤ g ∧ g ≤ 18446744073709551615) (hn : 0 ≤ gn ∧ gn ≤ 4294967295) (hc : c = 0 ∨ c = 1)
  (hx : stepOf n f ⟨hand, 2, headAt sh (idx g), 0, packW true (ownB true c) fl false 0 gn, true⟩ = x) (hf' : wordsOf n f ⟨hand, 2, headAt sh (idx g), 0, packW true (ownB true c) fl false 0 gn, true⟩ = f') :
  Calls Tryz.prog 120 #[.pointer (some ⟨b, 0, none⟩), .pointer (some ⟨bm, 0, none⟩)] w fun e w' => e = .returned (.tuple #[x.val, .int .i64 0]) ∧
   w'.rowIs b 92 15 (mC sh hand (.func (.func 128) #[.pointer (some ⟨b, 0, none⟩)] #[]) g t fl c xb gn) ∧ IsMem w' bm bw n f' ∧ Touch w w' (fun k => k = b ∨ k = bw) := by
 have hl := h_.lt
 have lw := hm.row.lt
 have lm := hm.head.lt
 have hn3 : w.heap.size ≠ b := by omega
 have hn4 : w.heap.size ≠ bw := by omega
 have hn5 : w.heap.size ≠ bm := by omega
 obtain ⟨W1, hW1⟩ : ∃ W1, w.alloc (.cells #[.int .i64 0, .int .i64 0, .int .i64 0, .int .u64 0, .int .u64 0, .bool false] 75) = W1 := ⟨_, rfl⟩
 have R := hide (show W1.rowIs b 92 15 (mC sh hand fn g t fl c xb gn) from by rw [← hW1]; exact h_.alloc _)
 have M := hide (show IsMem W1 bm bw n f from by rw [← hW1]; exact hm.alloc _)
 have RZ := hide (show W1.rowIs w.heap.size 75 6 zcell from by rw [← hW1]; exact row0 w)
 have T0 := hide (show Touch w W1 (fun k => k = b ∨ k = bw) from by rw [← hW1]; exact (Touch.refl w _).alloc _)
 have sz : W1.heap.size = w.heap.size + 1 := by rw [← hW1]; simp
 have lW1 : b < W1.heap.size := by omega
 obtain ⟨dS, hdS1, hdS2⟩ := row46
 have HD := hide (And.intro hdS1 hdS2)
 obtain ⟨dG, hdG1, hdG2⟩ := rowSh
 have HDS := hide (And.intro hdG1 hdG2)
 have HX := hide hx
 have HF := hide hf'
 have HW : Hid (0 ≤ (⟨hand, 2, headAt sh (idx g), 0, packW true (ownB true c) fl false 0 gn, true⟩ : Stp).put ∧ (⟨hand, 2, headAt sh (idx g), 0, packW true (ownB true c) fl false 0 gn, true⟩ : Stp).put ≤ 18446744073709551615) := (by have := bits_lt true (ownB true c) fl false; show 0 ≤ packW true (ownB true c) fl false 0 gn ∧ packW true (ownB true c) fl false 0 gn ≤ _; unfold packW; omega)
 have PK := hide (fun w1 : World => pack_use fl hn hc w1)
 obtain ⟨hv, ehv⟩ : ∃ v, packW true (ownB true c) fl false 0 gn = v := ⟨_, rfl⟩
 rw [ehv] at PK HX HF HW
 clear ehv
 have H5 := hide h5
 have HG := hide hg
 clear hm h_ hx hf' hdS1 hdS2 hdG1 hdG2 h5 hg hn hc
 go_enter Tryz.func120, Tryz.ntmps120
 go_wp2_with fail
 clear hW1
 have RW1 := R
 have MW1 := M
 have QW1 := RZ
 have TW1 := T0
 refine RG.regionB 19 (ks := [(0, 9), (1, 10), (2, 11), (3, 12), (4, 13), (5, 14), (6, 15), (7, 16), (8, 17), (9, 18), (10, 19), (11, 20), (12, 21), (13, 22), (14, 8), (15, 23), (16, 24), (17, 6), (18, 7)]) (vals := fun i => match i with
   | 0 => .pointer (some ⟨b, 0, none⟩)
   | 1 => .pointer (some ⟨b, 0, none⟩)
   | 2 => .pointer (some ⟨b, 11, none⟩)
   | 3 => .bool fl
   | 4 => .pointer (some ⟨b, 0, none⟩)
   | 5 => .pointer (some ⟨b, 0, none⟩)
   | 6 => .pointer (some ⟨b, 14, none⟩)
   | 7 => .int .u64 gn
   | 8 => .agg #[.bool true, .bool true, .bool fl, .bool false, .int .i64 0, .int .u64 gn, .int .u64 0, .int .u64 0, .slice none 0 0]
   | 9 => .pointer (some ⟨b, 0, none⟩)
   | 10 => .pointer (some ⟨b, 0, none⟩)
   | 11 => .pointer (some ⟨b, 12, none⟩)
   | 12 => .int .i64 c
   | 13 => .tuple #[.int .u64 hv, .int .i64 0]
   | 14 => .tuple #[.int .u64 hv, .int .i64 0]
   | 15 => .int .u64 hv
   | 16 => .int .i64 0
   | 17 => .int .u64 hv
   | 18 => .int .i64 0
   | _ => undef) (x := 2) (WI := fun L v_ w' => RG.SX b 92 15 (fun _ _ => mC sh hand fn g t fl c xb gn) bm bw n f f x w.heap.size none W1 false false false w') (by kernel_rfl) (by kernel_rfl) rfl (by kernel_rfl) (by kernel_rfl) (RG.SX.start (c := false) (g := false) RW1.out (by simpa using MW1.out) QW1.out ⟨h1, h2, hn3, hn5, hn4⟩ (fun k e => by cases e)) ?does ?fin
 case does =>
  intro i o ho
  have hi : i < 19 := RG.lt_of ho rfl
  match i, hi with
  | 0, _ => cases ho; exact RG.Does.read rfl (fun L v_ w' h => h) (fun L a w' hI hd => ex_move rfl (hI.fx 0 rfl))
  | 1, _ => cases ho; exact RG.Does.read rfl (fun L v_ w' h => h) (fun L a w' hI hd => ex_nil rfl (hI.pure 0 _ _ rfl (hd ⟨0, .data⟩ (by simp) rfl)))
  | 2, _ => cases ho; exact RG.Does.read rfl (fun L v_ w' h => h) (fun L a w' hI hd => ex_field rfl (hI.pure 1 _ _ rfl (hd ⟨1, .data⟩ (by simp) rfl)) (fieldM2 w' _))
  | 3, _ => cases ho; exact RG.Does.read rfl (fun L v_ w' h => h) (fun L a w' hI hd => ex_load rfl (hI.pure 2 _ _ rfl (hd ⟨2, .data⟩ (by simp) rfl)) (aggB w') (hI.world.row.cell (i := 11) (by omega)))
  | 4, _ => cases ho; exact RG.Does.read rfl (fun L v_ w' h => h) (fun L a w' hI hd => ex_move rfl (hI.fx 0 rfl))
  | 5, _ => cases ho; exact RG.Does.read rfl (fun L v_ w' h => h) (fun L a w' hI hd => ex_nil rfl (hI.pure 4 _ _ rfl (hd ⟨4, .data⟩ (by simp) rfl)))
  | 6, _ => cases ho; exact RG.Does.read rfl (fun L v_ w' h => h) (fun L a w' hI hd => ex_field rfl (hI.pure 5 _ _ rfl (hd ⟨5, .data⟩ (by simp) rfl)) (fieldM5 w' _))
  | 7, _ => cases ho; exact RG.Does.read rfl (fun L v_ w' h => h) (fun L a w' hI hd => ex_load rfl (hI.pure 6 _ _ rfl (hd ⟨6, .data⟩ (by simp) rfl)) (aggU w') (hI.world.row.cell (i := 14) (by omega)))
  | 8, _ => cases ho; exact RG.Does.read rfl (fun L v_ w' h => h) (fun L a w' hI hd => ex_object rfl (hI.pure 3 _ _ rfl (hd ⟨3, .data⟩ (by simp) rfl)) (hI.pure 7 _ _ rfl (hd ⟨7, .data⟩ (by simp) rfl)) (fun _ => rfl))
  | 9, _ => cases ho; exact RG.Does.read rfl (fun L v_ w' h => h) (fun L a w' hI hd => ex_move rfl (hI.fx 0 rfl))
  | 10, _ => cases ho; exact RG.Does.read rfl (fun L v_ w' h => h) (fun L a w' hI hd => ex_nil rfl (hI.pure 9 _ _ rfl (hd ⟨9, .data⟩ (by simp) rfl)))
  | 11, _ => cases ho; exact RG.Does.read rfl (fun L v_ w' h => h) (fun L a w' hI hd => ex_field rfl (hI.pure 10 _ _ rfl (hd ⟨10, .data⟩ (by simp) rfl)) (fieldM3 w' _))
  | 12, _ => cases ho; exact RG.Does.read rfl (fun L v_ w' h => h) (fun L a w' hI hd => ex_load rfl (hI.pure 11 _ _ rfl (hd ⟨11, .data⟩ (by simp) rfl)) (aggI w') (hI.world.row.cell (i := 12) (by omega)))
  | 13, _ => cases ho; exact RG.Does.call rfl (fun L a w' hI hd => call2 rfl (hI.pure 8 _ _ rfl (hd ⟨8, .data⟩ (by simp) rfl)) (hI.pure 12 _ _ rfl (hd ⟨12, .data⟩ (by simp) rfl)) rfl (by simp [go_sem])) (fun L v_ w2 hI hL => ((PK.out) w2).mono (by rintro e w3 ⟨rfl, hb⟩; exact ⟨rfl,  (SXq hI hb)⟩))
  | 14, _ => cases ho; exact RG.Does.read rfl (fun L v_ w' h => h) (fun L a w' hI hd => ex_move rfl (hI.pure 13 _ _ rfl (hd ⟨13, .data⟩ (by simp) rfl)))
  | 15, _ => cases ho; exact RG.Does.read rfl (fun L v_ w' h => h) (fun L a w' hI hd => ex_extract rfl (hI.pure 14 _ _ rfl (hd ⟨14, .data⟩ (by simp) rfl)) rfl)
  | 16, _ => cases ho; exact RG.Does.read rfl (fun L v_ w' h => h) (fun L a w' hI hd => ex_extract rfl (hI.pure 14 _ _ rfl (hd ⟨14, .data⟩ (by simp) rfl)) rfl)
  | 17, _ => cases ho; exact RG.Does.read rfl (fun L v_ w' h => h) (fun L a w' hI hd => ex_assign rfl (hI.pure 15 _ _ rfl (hd ⟨15, .data⟩ (by simp) rfl)))
  | 18, _ => cases ho; exact RG.Does.read rfl (fun L v_ w' h => h) (fun L a w' hI hd => ex_assign rfl (hI.pure 16 _ _ rfl (hd ⟨16, .data⟩ (by simp) rfl)))
 case fin =>
  intro L a' w4 hI hall
  have hw := hI.world
  have ea := act_all a' 46 (by rw [hI.sz]; rfl) hI.df
  simp only [List.range, List.range.loop, List.map] at ea
  rw [hI.fx 0 rfl, hI.fx 1 rfl, hI.fx 3 rfl, hI.fx 4 rfl, hI.fx 5 rfl, hI.fx 25 rfl, hI.fx 26 rfl, hI.fx 27 rfl, hI.fx 28 rfl, hI.fx 29 rfl, hI.fx 30 rfl, hI.fx 31 rfl, hI.fx 32 rfl, hI.fx 33 rfl, hI.fx 34 rfl, hI.fx 35 rfl, hI.fx 36 rfl, hI.fx 37 rfl, hI.fx 38 rfl, hI.fx 39 rfl, hI.fx 40 rfl, hI.fx 41 rfl, hI.fx 42 rfl, hI.fx 43 rfl, hI.fx 44 rfl, hI.fx 45 rfl] at ea
  have kv6 := hI.pure 17 6 _ rfl (hall 17 (by decide))
  clear hI hall
  obtain ⟨us, hus⟩ : ∃ us : Nat → Value, ∀ k, a'.eval (.tmp k) = us k := ⟨_, fun _ => rfl⟩
  simp only [hus] at ea kv6
  rw [kv6] at ea
  simp only [show ∀ (ts : Array Value) (ds) (i : Nat), (Act.mk ts ds).eval (.tmp i) = ts.getD i undef from fun _ _ _ => rfl] at ea
  simp at ea
  subst ea
  have Rw4 := hide hw.row
  have Mw4 := hide (show IsMem w4 bm bw n f from by simpa using hw.mem)
  have Qw4 := hide (hw.res rfl)
  have szN := hw.tch.size
  have Tw4 := hide (TW1.out.trans' hw.tch (fun k hk h => by rcases h with h | h | h; exact .inl h; exact .inr h; omega))
  have lb4 : b < w4.heap.size := by omega
  have lr4 : w.heap.size < w4.heap.size := by omega
  clear hw
  go_wp2_with fail
  refine RG.regionB 23 (ks := [(0, 25), (1, 26), (2, 27), (3, 28), (4, 29), (5, 30), (6, 31), (7, 32), (8, 33), (9, 34), (10, 35), (11, 36), (12, 37), (13, 38), (14, 39), (15, 40), (16, 41), (17, 42), (18, 43), (19, 44), (20, 45), (22, 5)]) (vals := fun i => match i with
     | 0 => .pointer (some ⟨b, 0, none⟩)
     | 1 => .pointer (some ⟨b, 0, none⟩)
     | 2 => .pointer (some ⟨b, 0, none⟩)
     | 3 => .pointer (some ⟨bm, 0, none⟩)
     | 4 => .pointer (some ⟨b, 0, none⟩)
     | 5 => .pointer (some ⟨b, 0, none⟩)
     | 6 => .pointer (some ⟨b, 5, none⟩)
     | 7 => sh.val
     | 8 => .pointer (some ⟨b, 0, none⟩)
     | 9 => .pointer (some ⟨b, 0, none⟩)
     | 10 => .pointer (some ⟨b, 0, none⟩)
     | 11 => .int .i64 (idx g)
     | 12 => .int .i64 (headAt sh (idx g))
     | 13 => .int .u64 hv
     | 14 => x.val
     | 15 => .pointer (some ⟨b, 0, none⟩)
     | 16 => .pointer (some ⟨b, 0, none⟩)
     | 17 => .pointer (some ⟨b, 0, none⟩)
     | 18 => .pointer (some ⟨b, 0, none⟩)
     | 19 => .func (.func 128) #[.pointer (some ⟨b, 0, none⟩)] #[]
     | 20 => .int .i64 0
     | 22 => .int .i64 0
     | _ => undef) (x := 2) (WI := fun L v_ w' => RG.SX b 92 15 (fun c_ g_ => mC sh hand (if g_ = true then (.func (.func 128) #[.pointer (some ⟨b, 0, none⟩)] #[]) else fn) g t fl c xb gn) bm bw n f f' x w.heap.size none w4 (L 14) (L 20) (L 21) w') (by kernel_rfl) (by kernel_rfl) rfl (by kernel_rfl) (by kernel_rfl) (RG.SX.start (c := false) (g := false) Rw4.out (by simpa using Mw4.out) Qw4.out ⟨h1, h2, hn3, hn5, hn4⟩ (fun k e => by cases e)) ?does ?fin
  case does =>
   intro i o ho
   have hi : i < 23 := RG.lt_of ho rfl
   match i, hi with
   | 0, _ => cases ho; exact RG.rX rfl rfl (fun L a w' hI hd => ex_move rfl (hI.fx 0 rfl))
   | 1, _ => cases ho; exact RG.rX rfl rfl (fun L a w' hI hd => ex_nil rfl (hI.pure 0 _ _ rfl (hd ⟨0, .data⟩ (by simp) rfl)))
   | 2, _ => cases ho; exact RG.rX rfl rfl (fun L a w' hI hd => ex_field rfl (hI.pure 1 _ _ rfl (hd ⟨1, .data⟩ (by simp) rfl)) (fieldM0 w' _))
   | 3, _ => cases ho; exact RG.rX rfl rfl (fun L a w' hI hd => ex_move rfl (hI.fx 1 rfl))
   | 4, _ => cases ho; exact RG.rX rfl rfl (fun L a w' hI hd => ex_move rfl (hI.fx 0 rfl))
   | 5, _ => cases ho; exact RG.rX rfl rfl (fun L a w' hI hd => ex_nil rfl (hI.pure 4 _ _ rfl (hd ⟨4, .data⟩ (by simp) rfl)))
   | 6, _ => cases ho; exact RG.rX rfl rfl (fun L a w' hI hd => ex_field rfl (hI.pure 5 _ _ rfl (hd ⟨5, .data⟩ (by simp) rfl)) (fieldM1 w' _))
   | 7, _ => cases ho; exact RG.rX rfl rfl (fun L a w' hI hd => ex_load_row rfl (hI.pure 6 _ _ rfl (hd ⟨6, .data⟩ (by simp) rfl)) (shrow (sh := sh) (by omega) rfl rfl rfl rfl rfl rfl hI.world.row) HDS.out.1 HDS.out.2 sizeSh)
   | 8, _ => cases ho; exact RG.rX rfl rfl (fun L a w' hI hd => ex_move rfl (hI.fx 0 rfl))
   | 9, _ => cases ho; exact RG.rX rfl rfl (fun L a w' hI hd => ex_nil rfl (hI.pure 8 _ _ rfl (hd ⟨8, .data⟩ (by simp) rfl)))
   | 10, _ => cases ho; exact RG.rX rfl rfl (fun L a w' hI hd => ex_field rfl (hI.pure 9 _ _ rfl (hd ⟨9, .data⟩ (by simp) rfl)) (fieldM0 w' _))
   | 11, _ => cases ho; exact RG.Does.call rfl (fun L a w' hI hd => call1 rfl (hI.pure 10 _ _ rfl (hd ⟨10, .data⟩ (by simp) rfl)) rfl (by simp [go_sem])) (fun L v_ w2 hI hL => (first_any (show World.cell? w2 ⟨b, 2, none⟩ = some (.int .u64 g) from hI.row.cell (i := 2) (by omega)) hI.row.lt HG.out).mono (by rintro e w3 ⟨rfl, rfl⟩; exact ⟨rfl, RG.SX.skip (by decide) (by decide) (by decide)  hI⟩))
   | 12, _ => cases ho; exact RG.Does.call rfl (fun L a w' hI hd => call2 rfl (hI.pure 7 _ _ rfl (hd ⟨7, .data⟩ (by simp) rfl)) (hI.pure 11 _ _ rfl (hd ⟨11, .data⟩ (by simp) rfl)) rfl (by simp [go_sem])) (fun L v_ w2 hI hL => ((fun w9 : World => headAt_any H5.out (idx g) w9) w2).mono (by rintro e w3 ⟨rfl, hb⟩; exact ⟨rfl, RG.SX.skip (by decide) (by decide) (by decide)  (SXq hI hb)⟩))
   | 13, _ => cases ho; exact RG.rX rfl rfl (fun L a w' hI hd => ex_move rfl (hI.fx 6 rfl))
   | 14, _ => cases ho; exact RG.Does.call rfl (fun L a w' hI hd => call4 rfl (hI.pure 2 _ _ rfl (hd ⟨2, .data⟩ (by simp) rfl)) (hI.pure 3 _ _ rfl (hd ⟨3, .data⟩ (by simp) rfl)) (hI.pure 12 _ _ rfl (hd ⟨12, .data⟩ (by simp) rfl)) (hI.pure 13 _ _ rfl (hd ⟨13, .data⟩ (by simp) rfl)) rfl (by simp [go_sem])) (fun L v_ w2 hI hL => by have h3 := hI; rw [hL] at h3; refine (row_act h3.row h2 (store_any (show World.cell? w2 ⟨b, 0, none⟩ = some (.int .i64 hand) from h3.row.cell (i := 0) (by omega)) h3.row.lt (by simpa using h3.mem) HW.out HX.out HF.out)).mono ?_; rintro e w3 ⟨rfl, r3, m3, t3⟩; refine ⟨rfl, ?_⟩; rw [upd_same, upd_other _ _ (show 20 ≠ 14 by decide), upd_other _ _ (show 21 ≠ 14 by decide)]; exact h3.turn (c' := true) (r3.congr (fun i hi => (fun _ _ => rfl) i hi)) (by simpa using m3) t3 (fun k e => e))
   | 15, _ => cases ho; exact RG.rX rfl rfl (fun L a w' hI hd => ex_move rfl (hI.fx 0 rfl))
   | 16, _ => cases ho; exact RG.rX rfl rfl (fun L a w' hI hd => ex_nil rfl (hI.pure 15 _ _ rfl (hd ⟨15, .data⟩ (by simp) rfl)))
   | 17, _ => cases ho; exact RG.rX rfl rfl (fun L a w' hI hd => ex_field rfl (hI.pure 16 _ _ rfl (hd ⟨16, .data⟩ (by simp) rfl)) (fieldM0 w' _))
   | 18, _ => cases ho; exact RG.rX rfl rfl (fun L a w' hI hd => ex_move rfl (hI.fx 0 rfl))
   | 19, _ => cases ho; exact RG.rX rfl rfl (fun L a w' hI hd => ex_func rfl (hI.pure 18 _ _ rfl (hd ⟨18, .data⟩ (by simp) rfl)))
   | 20, _ => cases ho; exact RG.Does.call rfl (fun L a w' hI hd => call2 rfl (hI.pure 17 _ _ rfl (hd ⟨17, .data⟩ (by simp) rfl)) (hI.pure 19 _ _ rfl (hd ⟨19, .data⟩ (by simp) rfl)) rfl (by simp [go_sem])) (fun L v_ w2 hI hL => by have h3 := hI; rw [hL] at h3; refine (goOn_any 128 h3.row (by omega)).mono ?_; rintro e w3 ⟨rfl, r3, t3⟩; refine ⟨rfl, ?_⟩; rw [upd_same, upd_other _ _ (show 14 ≠ 20 by decide), upd_other _ _ (show 21 ≠ 20 by decide)]; exact h3.turn (g' := true) (r3.congr (fun i hi => m_fn _ _ _ _ _ _ _ _ _ _ i hi)) ⟨h3.mem.head.of_block (t3.block _ h3.mem.head.lt (fun e => h1 e.symm)), h3.mem.row.of_block (t3.block _ h3.mem.row.lt (fun e => h2 e.symm)), h3.mem.most, h3.mem.word⟩ t3 (fun k e => .inl e))
   | 21, _ => cases ho; exact RG.Does.put (ls := x.cells) rfl rfl rfl size46 (by simp [Stp.cells, Value.oneCell']) (fun L a w' hI hL hdd => ⟨(hI.pure 14 _ _ rfl (hdd ⟨14, .data⟩ (by simp) rfl)), by obtain ⟨e2, e3⟩ := RG.SX.put hI.world; exact ⟨w.heap.size, 0, hI.fx 4 rfl, e2, by show RG.SX b 92 15 (fun c_ g_ => mC sh hand (if g_ = true then (.func (.func 128) #[.pointer (some ⟨b, 0, none⟩)] #[]) else fn) g t fl c xb gn) bm bw n f f' x w.heap.size none w4 (upd L 21 true 14) (upd L 21 true 20) (upd L 21 true 21) _; rw [upd_same, upd_other _ _ (show 14 ≠ 21 by decide), upd_other _ _ (show 20 ≠ 21 by decide)]; exact e3⟩⟩)
   | 22, _ => cases ho; exact RG.rX rfl rfl (fun L a w' hI hd => ex_assign rfl (hI.pure 20 _ _ rfl (hd ⟨20, .data⟩ (by simp) rfl)))
  case fin =>
   intro L a' w' hI hall
   rename_i K2 hK2
   refine hK2 _ _ ?_
   have hw := hI.world
   simp only [hall 14 (by decide), hall 20 (by decide), hall 21 (by decide)] at hw
   have rE := hw.sto rfl
   have pE : a'.eval (.tmp 4) = .pointer (some ⟨w.heap.size, 0, none⟩) := hI.fx 4 rfl
   have pe : a'.eval (.tmp 5) = .int .i64 0 := hI.pure 22 5 _ rfl (hall 22 (by decide))
   have hdf : a'.defers = [] := hI.df
   have hS := run_loadVar_mid (P := Tryz.prog) w' w.heap.size 0 _ _ dS rE HD.out.1 HD.out.2 size46
   have hres := results_ct (Q := Tryz.prog) (fn := Tryz.f120) (tmps := a'.tmps) (t := 4) (t' := 5) (W := w') (by rfl) pE hS
   rw [show a'.tmps.getD 5 undef = .int .i64 0 from pe] at hres
   go_wp2
   exact bodyPost_ret (v := .tuple #[x.val, .int .i64 0]) hres hdf ⟨rfl, hw.row, by simpa using hw.mem, Tw4.out.trans' hw.tch (fun k hk h => by rcases h with h | h | h; exact .inl h; exact .inr h; omega)⟩
end Rom
end
end Go.Proofs.YtmikhglnomgbfaaGreat
