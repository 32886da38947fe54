/-
  Lemmas: BellB.
-/
import Derived.Test.YtbjlpmahomjgjaaTp22
/-
  The tasks of a bell: the steps of a Ring: clear, wait.
-/
namespace Go.Proofs.Ytbjlpmahomjgjaa
open Go.RowKit
set_option linter.unusedVariables false
set_option linter.unusedSimpArgs false
set_option maxRecDepth 20000
namespace Bell

theorem way3 {w : World} {b : Nat} {hand al st mine rung : Int} {t : Ans} (h : w.rowIs b 109 7 (rgC hand al st mine rung t)) (hq : rung = al) : Calls Try.prog 118 #[.pointer (some ⟨b, 0, none⟩)] w fun e w' => e = .returned (.int .i64 3) ∧ ∃ m, w' = w.drewN m := by
  obtain ⟨⟨c0, cf0⟩, ⟨c1, cf1⟩, ⟨c2, cf2⟩, ⟨c3, cf3⟩, ⟨c4, cf4⟩, ⟨c5, cf5⟩, c6, cf6⟩ := rg_facts h
  have hl := h.lt
  clear h
  subst hq
  go_enter Try.func118, Try.ntmps118
  go_wp2_with fail
  go_quiet (fail)
  go_wp2_with fail
  go_ret
  exact ⟨rfl, _, rfl⟩

theorem way5 {w : World} {b : Nat} {hand al st mine rung : Int} {t : Ans} (h : w.rowIs b 109 7 (rgC hand al st mine rung t)) (hq : ¬ rung = al) : Calls Try.prog 118 #[.pointer (some ⟨b, 0, none⟩)] w fun e w' => e = .returned (.int .i64 5) ∧ ∃ m, w' = w.drewN m := by
  obtain ⟨⟨c0, cf0⟩, ⟨c1, cf1⟩, ⟨c2, cf2⟩, ⟨c3, cf3⟩, ⟨c4, cf4⟩, ⟨c5, cf5⟩, c6, cf6⟩ := rg_facts h
  have hl := h.lt
  clear h
  go_enter Try.func118, Try.ntmps118
  go_wp2_with fail
  go_quiet (fail)
  go_wp2_with fail
  go_ret
  exact ⟨rfl, _, rfl⟩

set_option maxHeartbeats 4000000 in
theorem clear_goes {w : World} {b bm bw n : Nat} {f f' : Nat → Int} {x : Stp} {hand al mine rung : Int} {t : Ans} (h : w.rowIs b 109 7 (rgC hand al 2 mine rung t)) (hm : IsMem w bm bw n f) (h1 : b ≠ bm) (h2 : b ≠ bw) (hq : rung = al)
    (hx : stepOf n f ⟨hand, 2, 0, 0, 0, true⟩ = x) (hf' : wordsOf n f ⟨hand, 2, 0, 0, 0, true⟩ = f') :
    Calls Try.prog 117 #[.pointer (some ⟨b, 0, none⟩), .pointer (some ⟨bm, 0, none⟩)] w fun e w' => e = .returned (.tuple #[x.val, .int .i64 0]) ∧
      w'.rowIs b 109 7 (rgC hand al 4 mine rung t) ∧ IsMem w' bm bw n f' ∧ Touch w w' (fun k => k = b ∨ k = bw) := by
  have hl := h.lt
  have lw := hm.row.lt
  have lm := hm.head.lt
  obtain ⟨W1, hW1⟩ : ∃ W1, (w.alloc (.cells #[.int .i64 0, .int .i64 0, .int .i64 0, .int .u64 0, .int .u64 0, .bool false] 63)).alloc (.cells #[.int .i64 0, .int .i64 0, .int .i64 0, .int .u64 0, .int .u64 0, .bool false] 63) = W1 := ⟨_, rfl⟩
  have R := hide (show W1.rowIs b 109 7 (rgC hand al 2 mine rung t) from by rw [← hW1]; exact (h.alloc _).alloc _)
  have M := hide (show IsMem W1 bm bw n f from by rw [← hW1]; exact (hm.alloc _).alloc _)
  have RZ := hide (show W1.rowIs w.heap.size 63 6 zcell from by rw [← hW1]; exact (row0 w).alloc _)
  have RS := hide (show W1.rowIs (w.heap.size + 1) 63 6 zcell from by rw [← hW1]; exact row0n w _)
  have T0 := hide (show Touch w W1 (fun k => k = b ∨ k = bw) from by rw [← hW1]; exact ((Touch.refl w _).alloc _).alloc _)
  have sz : W1.heap.size = w.heap.size + 2 := by rw [← hW1]; simp
  obtain ⟨r, hr⟩ : ∃ r, w.heap.size = r := ⟨_, rfl⟩
  rw [hr] at RZ RS sz hl lw lm
  have hrb : r ≠ b := by omega
  have hrw : r ≠ bw := by omega
  have hrm : r ≠ bm := by omega
  have hsb : r + 1 ≠ b := by omega
  have hsw : r + 1 ≠ bw := by omega
  have hsm : r + 1 ≠ bm := by omega
  have HX := hide hx
  have HF := hide hf'
  have HW : Hid (0 ≤ (⟨hand, 2, 0, 0, 0, true⟩ : Stp).put ∧ (⟨hand, 2, 0, 0, 0, true⟩ : Stp).put ≤ 18446744073709551615) := ⟨by show (0 : Int) ≤ 0; omega, by show (0 : Int) ≤ 18446744073709551615; omega⟩
  have HQ := hide hq
  clear hm h hx hf'
  obtain ⟨⟨c0, cf0⟩, ⟨c1, cf1⟩, ⟨c2, cf2⟩, ⟨c3, cf3⟩, ⟨c4, cf4⟩, ⟨c5, cf5⟩, c6, cf6⟩ := rg_facts R.out
  go_enter Try.func117, Try.ntmps117
  go_wp2_with fail
  go_step3
  go_wp2_with fail
  go_step3
  go_wp2_with fail
  clear hW1
  refine wp_loop_rounds 2 ?_
  rw [rounds_succ]
  go_wp2_with fail
  refine (way3 R.out HQ.out).mono ?_
  rintro e w2 ⟨rfl, m, rfl⟩
  obtain ⟨W2, hW2⟩ : ∃ W2, (W1.drewN m).setCell ⟨b, 2, none⟩ (.int .i64 3) = W2 := ⟨_, rfl⟩
  have R2 := hide (show W2.rowIs b 109 7 (rgC hand al 3 mine rung t) from by
    rw [← hW2]
    refine World.rowIs.congr ?_ (fun i hi => rg_st hand al 2 mine rung t 3 i hi)
    exact (row_drewN R.out m).set 2 _)
  have M2 := hide (show IsMem W2 bm bw n f from by rw [← hW2]; exact (mem_drewN M.out m).setOther (by simp; omega) (by simp; omega) _)
  have RZ2 := hide (show W2.rowIs r 63 6 zcell from by rw [← hW2]; exact (row_drewN RZ.out m).setOther (by simpa using hrb) _)
  have RS2 := hide (show W2.rowIs (r + 1) 63 6 zcell from by rw [← hW2]; exact (row_drewN RS.out m).setOther (by simpa using hsb) _)
  have T2 := hide (show Touch w W2 (fun k => k = b ∨ k = bw) from by rw [← hW2]; exact (touch_drewN T0.out m).setCell _ (by simp) _)
  have sz2 : W2.heap.size = r + 2 := by rw [← hW2]; simpa using sz
  go_wp2_with fail
  clear hW2 c0 cf0 c1 cf1 c2 cf2 c3 cf3 c4 cf4 c5 cf5 c6 cf6
  obtain ⟨⟨c0, cf0⟩, ⟨c1, cf1⟩, ⟨c2, cf2⟩, ⟨c3, cf3⟩, ⟨c4, cf4⟩, ⟨c5, cf5⟩, c6, cf6⟩ := rg_facts R2.out
  rw [rounds_succ]
  go_wp2_with fail
  refine (do_mem M2.out ⟨hand, 2, 0, 0, 0, true⟩ HW.out).mono ?_
  rintro e w1 ⟨rfl, hm1, hg1⟩
  rw [HX.out]
  rw [HF.out] at hm1
  simp only [Stp.val]
  have lw1 := hg1.size
  have R1 := hide (R2.out.of_block (hg1.block b (by omega) (by simpa using h2)))
  have RR := hide (RZ2.out.of_block (hg1.block r (by omega) (by simpa using hrw)))
  have SS := hide (RS2.out.of_block (hg1.block (r + 1) (by omega) (by simpa using hsw)))
  have M1 := hide hm1
  have T1 := hide (T2.out.trans' (Touch.of_grown hg1) (fun k _ e => .inr (by simpa using e)))
  have l1 : b < w1.heap.size := by omega
  have l2 : r < w1.heap.size := by omega
  have l3 : r + 1 < w1.heap.size := by omega
  clear hm1 hg1 c0 cf0 c1 cf1 c2 cf2 c3 cf3 c4 cf4 c5 cf5 c6 cf6
  obtain ⟨⟨d0, df0⟩, ⟨d1, df1⟩, ⟨d2, df2⟩, ⟨d3, df3⟩, ⟨d4, df4⟩, ⟨d5, df5⟩, d6, df6⟩ := rg_facts R1.out
  obtain ⟨⟨z0, zf0⟩, ⟨z1, zf1⟩, ⟨z2, zf2⟩, ⟨z3, zf3⟩, ⟨z4, zf4⟩, z5, zf5⟩ := z_facts RR.out
  obtain ⟨⟨s0, sf0⟩, ⟨s1, sf1⟩, ⟨s2, sf2⟩, ⟨s3, sf3⟩, ⟨s4, sf4⟩, s5, sf5⟩ := z_facts SS.out
  go_wp2_with fail
  go_light
  rw [Exit.noGoto_ret]
  refine bodyPost_ret (v := .tuple #[x.val, .int .i64 0]) ?res rfl ⟨rfl, ?row, ?mem, ?tch⟩
  case row =>
    refine World.rowIs.congr ?_ (fun i hi => rg_st hand al 3 mine rung t 4 i hi)
    repeat (first | (with_reducible apply World.rowIs.alloc) | (with_reducible apply row_drewN) | (with_reducible apply World.rowIs.drew) | (with_reducible refine World.rowIs.setOther ?_ ?side _; case side => (simp; omega)))
    with_reducible refine World.rowIs.set ?_ 2 _
    repeat (first | (with_reducible apply World.rowIs.alloc) | (with_reducible apply row_drewN) | (with_reducible apply World.rowIs.drew) | (with_reducible refine World.rowIs.setOther ?_ ?side _; case side => (simp; omega)))
    with_reducible exact R1.out
  case mem =>
    repeat (first | (with_reducible apply IsMem.alloc) | (with_reducible apply mem_drewN) | (with_reducible apply IsMem.drew) | ((with_reducible refine IsMem.setOther ?_ ?_ ?_ _); rotate_left; (simp; omega); (simp; omega)))
    with_reducible exact M1.out
  case tch =>
    repeat (first | (with_reducible apply Touch.alloc) | (with_reducible apply touch_drewN) | (with_reducible apply Touch.drew) | (with_reducible refine Touch.setCell ?_ _ ?side _; case side => (first | (simp; done) | (simp; omega))))
    with_reducible exact T1.out
  case res => simp [results, Try.results117, go_sem, Stp.val, *]

set_option maxHeartbeats 4000000 in
theorem part_goes {w : World} {b bm bw n : Nat} {f f' : Nat → Int} {x : Stp} {hand al mine rung : Int} {t : Ans} (h : w.rowIs b 109 7 (rgC hand al 2 mine rung t)) (hm : IsMem w bm bw n f) (h1 : b ≠ bm) (h2 : b ≠ bw) (hq : ¬ rung = al) (hd : x.had = mine)
    (hx : stepOf n f ⟨hand, 1, 1, 0, 0, true⟩ = x) (hf' : wordsOf n f ⟨hand, 1, 1, 0, 0, true⟩ = f') :
    Calls Try.prog 117 #[.pointer (some ⟨b, 0, none⟩), .pointer (some ⟨bm, 0, none⟩)] w fun e w' => e = .returned (.tuple #[x.val, .int .i64 0]) ∧
      w'.rowIs b 109 7 (rgC hand al 5 mine rung t) ∧ IsMem w' bm bw n f' ∧ Touch w w' (fun k => k = b ∨ k = bw) := by
  have hl := h.lt
  have lw := hm.row.lt
  have lm := hm.head.lt
  obtain ⟨W1, hW1⟩ : ∃ W1, (w.alloc (.cells #[.int .i64 0, .int .i64 0, .int .i64 0, .int .u64 0, .int .u64 0, .bool false] 63)).alloc (.cells #[.int .i64 0, .int .i64 0, .int .i64 0, .int .u64 0, .int .u64 0, .bool false] 63) = W1 := ⟨_, rfl⟩
  have R := hide (show W1.rowIs b 109 7 (rgC hand al 2 mine rung t) from by rw [← hW1]; exact (h.alloc _).alloc _)
  have M := hide (show IsMem W1 bm bw n f from by rw [← hW1]; exact (hm.alloc _).alloc _)
  have RZ := hide (show W1.rowIs w.heap.size 63 6 zcell from by rw [← hW1]; exact (row0 w).alloc _)
  have RS := hide (show W1.rowIs (w.heap.size + 1) 63 6 zcell from by rw [← hW1]; exact row0n w _)
  have T0 := hide (show Touch w W1 (fun k => k = b ∨ k = bw) from by rw [← hW1]; exact ((Touch.refl w _).alloc _).alloc _)
  have sz : W1.heap.size = w.heap.size + 2 := by rw [← hW1]; simp
  obtain ⟨r, hr⟩ : ∃ r, w.heap.size = r := ⟨_, rfl⟩
  rw [hr] at RZ RS sz hl lw lm
  have hrb : r ≠ b := by omega
  have hrw : r ≠ bw := by omega
  have hrm : r ≠ bm := by omega
  have hsb : r + 1 ≠ b := by omega
  have hsw : r + 1 ≠ bw := by omega
  have hsm : r + 1 ≠ bm := by omega
  have HX := hide hx
  have HF := hide hf'
  have HW : Hid (0 ≤ (⟨hand, 1, 1, 0, 0, true⟩ : Stp).put ∧ (⟨hand, 1, 1, 0, 0, true⟩ : Stp).put ≤ 18446744073709551615) := ⟨by show (0 : Int) ≤ 0; omega, by show (0 : Int) ≤ 18446744073709551615; omega⟩
  have HQ := hide hq
  clear hm h hx hf'
  obtain ⟨⟨c0, cf0⟩, ⟨c1, cf1⟩, ⟨c2, cf2⟩, ⟨c3, cf3⟩, ⟨c4, cf4⟩, ⟨c5, cf5⟩, c6, cf6⟩ := rg_facts R.out
  go_enter Try.func117, Try.ntmps117
  go_wp2_with fail
  go_step3
  go_wp2_with fail
  go_step3
  go_wp2_with fail
  clear hW1
  refine wp_loop_rounds 2 ?_
  rw [rounds_succ]
  go_wp2_with fail
  refine (way5 R.out HQ.out).mono ?_
  rintro e w2 ⟨rfl, m, rfl⟩
  obtain ⟨W2, hW2⟩ : ∃ W2, (W1.drewN m).setCell ⟨b, 2, none⟩ (.int .i64 5) = W2 := ⟨_, rfl⟩
  have R2 := hide (show W2.rowIs b 109 7 (rgC hand al 5 mine rung t) from by
    rw [← hW2]
    refine World.rowIs.congr ?_ (fun i hi => rg_st hand al 2 mine rung t 5 i hi)
    exact (row_drewN R.out m).set 2 _)
  have M2 := hide (show IsMem W2 bm bw n f from by rw [← hW2]; exact (mem_drewN M.out m).setOther (by simp; omega) (by simp; omega) _)
  have RZ2 := hide (show W2.rowIs r 63 6 zcell from by rw [← hW2]; exact (row_drewN RZ.out m).setOther (by simpa using hrb) _)
  have RS2 := hide (show W2.rowIs (r + 1) 63 6 zcell from by rw [← hW2]; exact (row_drewN RS.out m).setOther (by simpa using hsb) _)
  have T2 := hide (show Touch w W2 (fun k => k = b ∨ k = bw) from by rw [← hW2]; exact (touch_drewN T0.out m).setCell _ (by simp) _)
  have sz2 : W2.heap.size = r + 2 := by rw [← hW2]; simpa using sz
  go_wp2_with fail
  clear hW2 c0 cf0 c1 cf1 c2 cf2 c3 cf3 c4 cf4 c5 cf5 c6 cf6
  obtain ⟨⟨c0, cf0⟩, ⟨c1, cf1⟩, ⟨c2, cf2⟩, ⟨c3, cf3⟩, ⟨c4, cf4⟩, ⟨c5, cf5⟩, c6, cf6⟩ := rg_facts R2.out
  rw [rounds_succ]
  go_wp2_with fail
  refine (do_mem M2.out ⟨hand, 1, 1, 0, 0, true⟩ HW.out).mono ?_
  rintro e w1 ⟨rfl, hm1, hg1⟩
  rw [HX.out]
  rw [HF.out] at hm1
  simp only [Stp.val]
  have lw1 := hg1.size
  have R1 := hide (R2.out.of_block (hg1.block b (by omega) (by simpa using h2)))
  have RR := hide (RZ2.out.of_block (hg1.block r (by omega) (by simpa using hrw)))
  have SS := hide (RS2.out.of_block (hg1.block (r + 1) (by omega) (by simpa using hsw)))
  have M1 := hide hm1
  have T1 := hide (T2.out.trans' (Touch.of_grown hg1) (fun k _ e => .inr (by simpa using e)))
  have l1 : b < w1.heap.size := by omega
  have l2 : r < w1.heap.size := by omega
  have l3 : r + 1 < w1.heap.size := by omega
  clear hm1 hg1 c0 cf0 c1 cf1 c2 cf2 c3 cf3 c4 cf4 c5 cf5 c6 cf6
  obtain ⟨⟨d0, df0⟩, ⟨d1, df1⟩, ⟨d2, df2⟩, ⟨d3, df3⟩, ⟨d4, df4⟩, ⟨d5, df5⟩, d6, df6⟩ := rg_facts R1.out
  obtain ⟨⟨z0, zf0⟩, ⟨z1, zf1⟩, ⟨z2, zf2⟩, ⟨z3, zf3⟩, ⟨z4, zf4⟩, z5, zf5⟩ := z_facts RR.out
  obtain ⟨⟨s0, sf0⟩, ⟨s1, sf1⟩, ⟨s2, sf2⟩, ⟨s3, sf3⟩, ⟨s4, sf4⟩, s5, sf5⟩ := z_facts SS.out
  go_wp2_with fail
  go_quiet (fail)
  go_wp2_with fail
  go_light
  rw [Exit.noGoto_ret]
  refine bodyPost_ret (v := .tuple #[x.val, .int .i64 0]) ?res rfl ⟨rfl, ?row, ?mem, ?tch⟩
  case row =>
    repeat (first | (with_reducible apply World.rowIs.alloc) | (with_reducible apply row_drewN) | (with_reducible apply World.rowIs.drew) | (with_reducible refine World.rowIs.setOther ?_ ?side _; case side => (simp; omega)))
    with_reducible exact R1.out
  case mem =>
    repeat (first | (with_reducible apply IsMem.alloc) | (with_reducible apply mem_drewN) | (with_reducible apply IsMem.drew) | ((with_reducible refine IsMem.setOther ?_ ?_ ?_ _); rotate_left; (simp; omega); (simp; omega)))
    with_reducible exact M1.out
  case tch =>
    repeat (first | (with_reducible apply Touch.alloc) | (with_reducible apply touch_drewN) | (with_reducible apply Touch.drew) | (with_reducible refine Touch.setCell ?_ _ ?side _; case side => (first | (simp; done) | (simp; omega))))
    with_reducible exact T1.out
  case res => simp [results, Try.results117, go_sem, Stp.val, *]

set_option maxHeartbeats 4000000 in
theorem part_ends {w : World} {b bm bw n : Nat} {f f' : Nat → Int} {x : Stp} {hand al mine rung : Int} {t : Ans} (h : w.rowIs b 109 7 (rgC hand al 2 mine rung t)) (hm : IsMem w bm bw n f) (h1 : b ≠ bm) (h2 : b ≠ bw) (hq : ¬ rung = al) (hd : ¬ x.had = mine)
    (hx : stepOf n f ⟨hand, 1, 1, 0, 0, true⟩ = x) (hf' : wordsOf n f ⟨hand, 1, 1, 0, 0, true⟩ = f') :
    Calls Try.prog 117 #[.pointer (some ⟨b, 0, none⟩), .pointer (some ⟨bm, 0, none⟩)] w fun e w' => e = .returned (.tuple #[x.val, .int .i64 1]) ∧
      w'.rowIs b 109 7 (rgC hand al 5 mine rung ⟨false, mine⟩) ∧ IsMem w' bm bw n f' ∧ Touch w w' (fun k => k = b ∨ k = bw) := by
  have hl := h.lt
  have lw := hm.row.lt
  have lm := hm.head.lt
  obtain ⟨W1, hW1⟩ : ∃ W1, (w.alloc (.cells #[.int .i64 0, .int .i64 0, .int .i64 0, .int .u64 0, .int .u64 0, .bool false] 63)).alloc (.cells #[.int .i64 0, .int .i64 0, .int .i64 0, .int .u64 0, .int .u64 0, .bool false] 63) = W1 := ⟨_, rfl⟩
  have R := hide (show W1.rowIs b 109 7 (rgC hand al 2 mine rung t) from by rw [← hW1]; exact (h.alloc _).alloc _)
  have M := hide (show IsMem W1 bm bw n f from by rw [← hW1]; exact (hm.alloc _).alloc _)
  have RZ := hide (show W1.rowIs w.heap.size 63 6 zcell from by rw [← hW1]; exact (row0 w).alloc _)
  have RS := hide (show W1.rowIs (w.heap.size + 1) 63 6 zcell from by rw [← hW1]; exact row0n w _)
  have T0 := hide (show Touch w W1 (fun k => k = b ∨ k = bw) from by rw [← hW1]; exact ((Touch.refl w _).alloc _).alloc _)
  have sz : W1.heap.size = w.heap.size + 2 := by rw [← hW1]; simp
  obtain ⟨r, hr⟩ : ∃ r, w.heap.size = r := ⟨_, rfl⟩
  rw [hr] at RZ RS sz hl lw lm
  have hrb : r ≠ b := by omega
  have hrw : r ≠ bw := by omega
  have hrm : r ≠ bm := by omega
  have hsb : r + 1 ≠ b := by omega
  have hsw : r + 1 ≠ bw := by omega
  have hsm : r + 1 ≠ bm := by omega
  have HX := hide hx
  have HF := hide hf'
  have HW : Hid (0 ≤ (⟨hand, 1, 1, 0, 0, true⟩ : Stp).put ∧ (⟨hand, 1, 1, 0, 0, true⟩ : Stp).put ≤ 18446744073709551615) := ⟨by show (0 : Int) ≤ 0; omega, by show (0 : Int) ≤ 18446744073709551615; omega⟩
  have HQ := hide hq
  clear hm h hx hf'
  obtain ⟨⟨c0, cf0⟩, ⟨c1, cf1⟩, ⟨c2, cf2⟩, ⟨c3, cf3⟩, ⟨c4, cf4⟩, ⟨c5, cf5⟩, c6, cf6⟩ := rg_facts R.out
  go_enter Try.func117, Try.ntmps117
  go_wp2_with fail
  go_step3
  go_wp2_with fail
  go_step3
  go_wp2_with fail
  clear hW1
  refine wp_loop_rounds 2 ?_
  rw [rounds_succ]
  go_wp2_with fail
  refine (way5 R.out HQ.out).mono ?_
  rintro e w2 ⟨rfl, m, rfl⟩
  obtain ⟨W2, hW2⟩ : ∃ W2, (W1.drewN m).setCell ⟨b, 2, none⟩ (.int .i64 5) = W2 := ⟨_, rfl⟩
  have R2 := hide (show W2.rowIs b 109 7 (rgC hand al 5 mine rung t) from by
    rw [← hW2]
    refine World.rowIs.congr ?_ (fun i hi => rg_st hand al 2 mine rung t 5 i hi)
    exact (row_drewN R.out m).set 2 _)
  have M2 := hide (show IsMem W2 bm bw n f from by rw [← hW2]; exact (mem_drewN M.out m).setOther (by simp; omega) (by simp; omega) _)
  have RZ2 := hide (show W2.rowIs r 63 6 zcell from by rw [← hW2]; exact (row_drewN RZ.out m).setOther (by simpa using hrb) _)
  have RS2 := hide (show W2.rowIs (r + 1) 63 6 zcell from by rw [← hW2]; exact (row_drewN RS.out m).setOther (by simpa using hsb) _)
  have T2 := hide (show Touch w W2 (fun k => k = b ∨ k = bw) from by rw [← hW2]; exact (touch_drewN T0.out m).setCell _ (by simp) _)
  have sz2 : W2.heap.size = r + 2 := by rw [← hW2]; simpa using sz
  go_wp2_with fail
  clear hW2 c0 cf0 c1 cf1 c2 cf2 c3 cf3 c4 cf4 c5 cf5 c6 cf6
  obtain ⟨⟨c0, cf0⟩, ⟨c1, cf1⟩, ⟨c2, cf2⟩, ⟨c3, cf3⟩, ⟨c4, cf4⟩, ⟨c5, cf5⟩, c6, cf6⟩ := rg_facts R2.out
  rw [rounds_succ]
  go_wp2_with fail
  refine (do_mem M2.out ⟨hand, 1, 1, 0, 0, true⟩ HW.out).mono ?_
  rintro e w1 ⟨rfl, hm1, hg1⟩
  rw [HX.out]
  rw [HF.out] at hm1
  simp only [Stp.val]
  have lw1 := hg1.size
  have R1 := hide (R2.out.of_block (hg1.block b (by omega) (by simpa using h2)))
  have RR := hide (RZ2.out.of_block (hg1.block r (by omega) (by simpa using hrw)))
  have SS := hide (RS2.out.of_block (hg1.block (r + 1) (by omega) (by simpa using hsw)))
  have M1 := hide hm1
  have T1 := hide (T2.out.trans' (Touch.of_grown hg1) (fun k _ e => .inr (by simpa using e)))
  have l1 : b < w1.heap.size := by omega
  have l2 : r < w1.heap.size := by omega
  have l3 : r + 1 < w1.heap.size := by omega
  clear hm1 hg1 c0 cf0 c1 cf1 c2 cf2 c3 cf3 c4 cf4 c5 cf5 c6 cf6
  obtain ⟨⟨d0, df0⟩, ⟨d1, df1⟩, ⟨d2, df2⟩, ⟨d3, df3⟩, ⟨d4, df4⟩, ⟨d5, df5⟩, d6, df6⟩ := rg_facts R1.out
  obtain ⟨⟨z0, zf0⟩, ⟨z1, zf1⟩, ⟨z2, zf2⟩, ⟨z3, zf3⟩, ⟨z4, zf4⟩, z5, zf5⟩ := z_facts RR.out
  obtain ⟨⟨s0, sf0⟩, ⟨s1, sf1⟩, ⟨s2, sf2⟩, ⟨s3, sf3⟩, ⟨s4, sf4⟩, s5, sf5⟩ := z_facts SS.out
  go_wp2_with fail
  go_quiet (fail)
  go_wp2_with fail
  go_light
  rw [Exit.noGoto_ret]
  refine bodyPost_ret (v := .tuple #[x.val, .int .i64 1]) ?res rfl ⟨rfl, ?row, ?mem, ?tch⟩
  case row =>
    refine World.rowIs.congr ?_ (fun i hi => rg_told hand al 5 mine rung t false mine i hi)
    repeat (first | (with_reducible apply World.rowIs.alloc) | (with_reducible apply row_drewN) | (with_reducible apply World.rowIs.drew) | (with_reducible refine World.rowIs.setOther ?_ ?side _; case side => (simp; omega)))
    with_reducible refine World.rowIs.set ?_ 6 _
    repeat (first | (with_reducible apply World.rowIs.alloc) | (with_reducible apply row_drewN) | (with_reducible apply World.rowIs.drew) | (with_reducible refine World.rowIs.setOther ?_ ?side _; case side => (simp; omega)))
    with_reducible refine World.rowIs.set ?_ 5 _
    repeat (first | (with_reducible apply World.rowIs.alloc) | (with_reducible apply row_drewN) | (with_reducible apply World.rowIs.drew) | (with_reducible refine World.rowIs.setOther ?_ ?side _; case side => (simp; omega)))
    with_reducible exact R1.out
  case mem =>
    repeat (first | (with_reducible apply IsMem.alloc) | (with_reducible apply mem_drewN) | (with_reducible apply IsMem.drew) | ((with_reducible refine IsMem.setOther ?_ ?_ ?_ _); rotate_left; (simp; omega); (simp; omega)))
    with_reducible exact M1.out
  case tch =>
    repeat (first | (with_reducible apply Touch.alloc) | (with_reducible apply touch_drewN) | (with_reducible apply Touch.drew) | (with_reducible refine Touch.setCell ?_ _ ?side _; case side => (first | (simp; done) | (simp; omega))))
    with_reducible exact T1.out
  case res => simp [results, Try.results117, go_sem, Stp.val, *]

set_option maxHeartbeats 4000000 in
theorem wait_goes {w : World} {b bm bw n : Nat} {f f' : Nat → Int} {x : Stp} {hand al mine rung : Int} {t : Ans} (h : w.rowIs b 109 7 (rgC hand al 5 mine rung t)) (hm : IsMem w bm bw n f) (h1 : b ≠ bm) (h2 : b ≠ bw) (hd : x.had = mine)
    (hx : stepOf n f ⟨hand, 1, 1, 0, 0, true⟩ = x) (hf' : wordsOf n f ⟨hand, 1, 1, 0, 0, true⟩ = f') :
    Calls Try.prog 117 #[.pointer (some ⟨b, 0, none⟩), .pointer (some ⟨bm, 0, none⟩)] w fun e w' => e = .returned (.tuple #[x.val, .int .i64 0]) ∧
      w'.rowIs b 109 7 (rgC hand al 5 mine rung t) ∧ IsMem w' bm bw n f' ∧ Touch w w' (fun k => k = b ∨ k = bw) := by
  have hl := h.lt
  have lw := hm.row.lt
  have lm := hm.head.lt
  obtain ⟨W1, hW1⟩ : ∃ W1, (w.alloc (.cells #[.int .i64 0, .int .i64 0, .int .i64 0, .int .u64 0, .int .u64 0, .bool false] 63)).alloc (.cells #[.int .i64 0, .int .i64 0, .int .i64 0, .int .u64 0, .int .u64 0, .bool false] 63) = W1 := ⟨_, rfl⟩
  have R := hide (show W1.rowIs b 109 7 (rgC hand al 5 mine rung t) from by rw [← hW1]; exact (h.alloc _).alloc _)
  have M := hide (show IsMem W1 bm bw n f from by rw [← hW1]; exact (hm.alloc _).alloc _)
  have RZ := hide (show W1.rowIs w.heap.size 63 6 zcell from by rw [← hW1]; exact (row0 w).alloc _)
  have RS := hide (show W1.rowIs (w.heap.size + 1) 63 6 zcell from by rw [← hW1]; exact row0n w _)
  have T0 := hide (show Touch w W1 (fun k => k = b ∨ k = bw) from by rw [← hW1]; exact ((Touch.refl w _).alloc _).alloc _)
  have sz : W1.heap.size = w.heap.size + 2 := by rw [← hW1]; simp
  obtain ⟨r, hr⟩ : ∃ r, w.heap.size = r := ⟨_, rfl⟩
  rw [hr] at RZ RS sz hl lw lm
  have hrb : r ≠ b := by omega
  have hrw : r ≠ bw := by omega
  have hrm : r ≠ bm := by omega
  have hsb : r + 1 ≠ b := by omega
  have hsw : r + 1 ≠ bw := by omega
  have hsm : r + 1 ≠ bm := by omega
  have HX := hide hx
  have HF := hide hf'
  have HW : Hid (0 ≤ (⟨hand, 1, 1, 0, 0, true⟩ : Stp).put ∧ (⟨hand, 1, 1, 0, 0, true⟩ : Stp).put ≤ 18446744073709551615) := ⟨by show (0 : Int) ≤ 0; omega, by show (0 : Int) ≤ 18446744073709551615; omega⟩
  clear hm h hx hf'
  obtain ⟨⟨c0, cf0⟩, ⟨c1, cf1⟩, ⟨c2, cf2⟩, ⟨c3, cf3⟩, ⟨c4, cf4⟩, ⟨c5, cf5⟩, c6, cf6⟩ := rg_facts R.out
  go_enter Try.func117, Try.ntmps117
  go_wp2_with fail
  go_step3
  go_wp2_with fail
  go_step3
  go_wp2_with fail
  clear hW1
  refine wp_loop_rounds 1 ?_
  rw [rounds_succ]
  go_wp2_with fail
  refine (do_mem M.out ⟨hand, 1, 1, 0, 0, true⟩ HW.out).mono ?_
  rintro e w1 ⟨rfl, hm1, hg1⟩
  rw [HX.out]
  rw [HF.out] at hm1
  simp only [Stp.val]
  have lw1 := hg1.size
  have R1 := hide (R.out.of_block (hg1.block b (by omega) (by simpa using h2)))
  have RR := hide (RZ.out.of_block (hg1.block r (by omega) (by simpa using hrw)))
  have SS := hide (RS.out.of_block (hg1.block (r + 1) (by omega) (by simpa using hsw)))
  have M1 := hide hm1
  have T1 := hide (T0.out.trans' (Touch.of_grown hg1) (fun k _ e => .inr (by simpa using e)))
  have l1 : b < w1.heap.size := by omega
  have l2 : r < w1.heap.size := by omega
  have l3 : r + 1 < w1.heap.size := by omega
  clear hm1 hg1 c0 cf0 c1 cf1 c2 cf2 c3 cf3 c4 cf4 c5 cf5 c6 cf6
  obtain ⟨⟨d0, df0⟩, ⟨d1, df1⟩, ⟨d2, df2⟩, ⟨d3, df3⟩, ⟨d4, df4⟩, ⟨d5, df5⟩, d6, df6⟩ := rg_facts R1.out
  obtain ⟨⟨z0, zf0⟩, ⟨z1, zf1⟩, ⟨z2, zf2⟩, ⟨z3, zf3⟩, ⟨z4, zf4⟩, z5, zf5⟩ := z_facts RR.out
  obtain ⟨⟨s0, sf0⟩, ⟨s1, sf1⟩, ⟨s2, sf2⟩, ⟨s3, sf3⟩, ⟨s4, sf4⟩, s5, sf5⟩ := z_facts SS.out
  go_wp2_with fail
  go_quiet (fail)
  go_wp2_with fail
  go_light
  rw [Exit.noGoto_ret]
  refine bodyPost_ret (v := .tuple #[x.val, .int .i64 0]) ?res rfl ⟨rfl, ?row, ?mem, ?tch⟩
  case row =>
    repeat (first | (with_reducible apply World.rowIs.alloc) | (with_reducible apply row_drewN) | (with_reducible apply World.rowIs.drew) | (with_reducible refine World.rowIs.setOther ?_ ?side _; case side => (simp; omega)))
    with_reducible exact R1.out
  case mem =>
    repeat (first | (with_reducible apply IsMem.alloc) | (with_reducible apply mem_drewN) | (with_reducible apply IsMem.drew) | ((with_reducible refine IsMem.setOther ?_ ?_ ?_ _); rotate_left; (simp; omega); (simp; omega)))
    with_reducible exact M1.out
  case tch =>
    repeat (first | (with_reducible apply Touch.alloc) | (with_reducible apply touch_drewN) | (with_reducible apply Touch.drew) | (with_reducible refine Touch.setCell ?_ _ ?side _; case side => (first | (simp; done) | (simp; omega))))
    with_reducible exact T1.out
  case res => simp [results, Try.results117, go_sem, Stp.val, *]

set_option maxHeartbeats 4000000 in
theorem wait_ends {w : World} {b bm bw n : Nat} {f f' : Nat → Int} {x : Stp} {hand al mine rung : Int} {t : Ans} (h : w.rowIs b 109 7 (rgC hand al 5 mine rung t)) (hm : IsMem w bm bw n f) (h1 : b ≠ bm) (h2 : b ≠ bw) (hd : ¬ x.had = mine)
    (hx : stepOf n f ⟨hand, 1, 1, 0, 0, true⟩ = x) (hf' : wordsOf n f ⟨hand, 1, 1, 0, 0, true⟩ = f') :
    Calls Try.prog 117 #[.pointer (some ⟨b, 0, none⟩), .pointer (some ⟨bm, 0, none⟩)] w fun e w' => e = .returned (.tuple #[x.val, .int .i64 1]) ∧
      w'.rowIs b 109 7 (rgC hand al 5 mine rung ⟨false, mine⟩) ∧ IsMem w' bm bw n f' ∧ Touch w w' (fun k => k = b ∨ k = bw) := by
  have hl := h.lt
  have lw := hm.row.lt
  have lm := hm.head.lt
  obtain ⟨W1, hW1⟩ : ∃ W1, (w.alloc (.cells #[.int .i64 0, .int .i64 0, .int .i64 0, .int .u64 0, .int .u64 0, .bool false] 63)).alloc (.cells #[.int .i64 0, .int .i64 0, .int .i64 0, .int .u64 0, .int .u64 0, .bool false] 63) = W1 := ⟨_, rfl⟩
  have R := hide (show W1.rowIs b 109 7 (rgC hand al 5 mine rung t) from by rw [← hW1]; exact (h.alloc _).alloc _)
  have M := hide (show IsMem W1 bm bw n f from by rw [← hW1]; exact (hm.alloc _).alloc _)
  have RZ := hide (show W1.rowIs w.heap.size 63 6 zcell from by rw [← hW1]; exact (row0 w).alloc _)
  have RS := hide (show W1.rowIs (w.heap.size + 1) 63 6 zcell from by rw [← hW1]; exact row0n w _)
  have T0 := hide (show Touch w W1 (fun k => k = b ∨ k = bw) from by rw [← hW1]; exact ((Touch.refl w _).alloc _).alloc _)
  have sz : W1.heap.size = w.heap.size + 2 := by rw [← hW1]; simp
  obtain ⟨r, hr⟩ : ∃ r, w.heap.size = r := ⟨_, rfl⟩
  rw [hr] at RZ RS sz hl lw lm
  have hrb : r ≠ b := by omega
  have hrw : r ≠ bw := by omega
  have hrm : r ≠ bm := by omega
  have hsb : r + 1 ≠ b := by omega
  have hsw : r + 1 ≠ bw := by omega
  have hsm : r + 1 ≠ bm := by omega
  have HX := hide hx
  have HF := hide hf'
  have HW : Hid (0 ≤ (⟨hand, 1, 1, 0, 0, true⟩ : Stp).put ∧ (⟨hand, 1, 1, 0, 0, true⟩ : Stp).put ≤ 18446744073709551615) := ⟨by show (0 : Int) ≤ 0; omega, by show (0 : Int) ≤ 18446744073709551615; omega⟩
  clear hm h hx hf'
  obtain ⟨⟨c0, cf0⟩, ⟨c1, cf1⟩, ⟨c2, cf2⟩, ⟨c3, cf3⟩, ⟨c4, cf4⟩, ⟨c5, cf5⟩, c6, cf6⟩ := rg_facts R.out
  go_enter Try.func117, Try.ntmps117
  go_wp2_with fail
  go_step3
  go_wp2_with fail
  go_step3
  go_wp2_with fail
  clear hW1
  refine wp_loop_rounds 1 ?_
  rw [rounds_succ]
  go_wp2_with fail
  refine (do_mem M.out ⟨hand, 1, 1, 0, 0, true⟩ HW.out).mono ?_
  rintro e w1 ⟨rfl, hm1, hg1⟩
  rw [HX.out]
  rw [HF.out] at hm1
  simp only [Stp.val]
  have lw1 := hg1.size
  have R1 := hide (R.out.of_block (hg1.block b (by omega) (by simpa using h2)))
  have RR := hide (RZ.out.of_block (hg1.block r (by omega) (by simpa using hrw)))
  have SS := hide (RS.out.of_block (hg1.block (r + 1) (by omega) (by simpa using hsw)))
  have M1 := hide hm1
  have T1 := hide (T0.out.trans' (Touch.of_grown hg1) (fun k _ e => .inr (by simpa using e)))
  have l1 : b < w1.heap.size := by omega
  have l2 : r < w1.heap.size := by omega
  have l3 : r + 1 < w1.heap.size := by omega
  clear hm1 hg1 c0 cf0 c1 cf1 c2 cf2 c3 cf3 c4 cf4 c5 cf5 c6 cf6
  obtain ⟨⟨d0, df0⟩, ⟨d1, df1⟩, ⟨d2, df2⟩, ⟨d3, df3⟩, ⟨d4, df4⟩, ⟨d5, df5⟩, d6, df6⟩ := rg_facts R1.out
  obtain ⟨⟨z0, zf0⟩, ⟨z1, zf1⟩, ⟨z2, zf2⟩, ⟨z3, zf3⟩, ⟨z4, zf4⟩, z5, zf5⟩ := z_facts RR.out
  obtain ⟨⟨s0, sf0⟩, ⟨s1, sf1⟩, ⟨s2, sf2⟩, ⟨s3, sf3⟩, ⟨s4, sf4⟩, s5, sf5⟩ := z_facts SS.out
  go_wp2_with fail
  go_quiet (fail)
  go_wp2_with fail
  go_light
  rw [Exit.noGoto_ret]
  refine bodyPost_ret (v := .tuple #[x.val, .int .i64 1]) ?res rfl ⟨rfl, ?row, ?mem, ?tch⟩
  case row =>
    refine World.rowIs.congr ?_ (fun i hi => rg_told hand al 5 mine rung t false mine i hi)
    repeat (first | (with_reducible apply World.rowIs.alloc) | (with_reducible apply row_drewN) | (with_reducible apply World.rowIs.drew) | (with_reducible refine World.rowIs.setOther ?_ ?side _; case side => (simp; omega)))
    with_reducible refine World.rowIs.set ?_ 6 _
    repeat (first | (with_reducible apply World.rowIs.alloc) | (with_reducible apply row_drewN) | (with_reducible apply World.rowIs.drew) | (with_reducible refine World.rowIs.setOther ?_ ?side _; case side => (simp; omega)))
    with_reducible refine World.rowIs.set ?_ 5 _
    repeat (first | (with_reducible apply World.rowIs.alloc) | (with_reducible apply row_drewN) | (with_reducible apply World.rowIs.drew) | (with_reducible refine World.rowIs.setOther ?_ ?side _; case side => (simp; omega)))
    with_reducible exact R1.out
  case mem =>
    repeat (first | (with_reducible apply IsMem.alloc) | (with_reducible apply mem_drewN) | (with_reducible apply IsMem.drew) | ((with_reducible refine IsMem.setOther ?_ ?_ ?_ _); rotate_left; (simp; omega); (simp; omega)))
    with_reducible exact M1.out
  case tch =>
    repeat (first | (with_reducible apply Touch.alloc) | (with_reducible apply touch_drewN) | (with_reducible apply Touch.drew) | (with_reducible refine Touch.setCell ?_ _ ?side _; case side => (first | (simp; done) | (simp; omega))))
    with_reducible exact T1.out
  case res => simp [results, Try.results117, go_sem, Stp.val, *]
end Bell
end Go.Proofs.Ytbjlpmahomjgjaa
