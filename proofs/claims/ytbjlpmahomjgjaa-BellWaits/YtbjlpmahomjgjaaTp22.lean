/-
  Lemmas: BellA.
-/
import Derived.Test.YtbjlpmahomjgjaaTp21
import Derived.WalkMore
import Derived.LoopN
/-
  The tasks of a bell: the steps of a Ring: look and count.
-/
namespace Go.Proofs.Ytbjlpmahomjgjaa
open Go.RowKit
set_option linter.unusedVariables false
set_option linter.unusedSimpArgs false
set_option maxRecDepth 20000
namespace Bell
theorem wrap_u64' (x : Int) : IntKind.u64.wrap x = u64 x := by rw [IntKind.wrap_u64]; rfl
theorem row_drewN {w : World} {b : Nat} {t : TypeId} {n : Nat} {f : Nat → Value} (h : w.rowIs b t n f) (m : Nat) : (w.drewN m).rowIs b t n f := h
theorem mem_drewN {w : World} {bm bw n : Nat} {f : Nat → Int} (h : IsMem w bm bw n f) (m : Nat) : IsMem (w.drewN m) bm bw n f := ⟨h.head, h.row, h.most, h.word⟩
theorem touch_drewN {w w' : World} {S : Nat → Prop} (h : Touch w w' S) (m : Nat) : Touch w (w'.drewN m) S := ⟨h.os, h.tape, h.output, h.size, h.block⟩
theorem rg_st (hand al st mine rung : Int) (t : Ans) (s : Int) (i : Nat) (hi : i < 7) : (fun j => (fun j => if j = 2 then Value.int .i64 s else rgC hand al st mine rung t j) j) i = rgC hand al s mine rung t i := by
  match i, hi with
  | 0, _ | 1, _ | 2, _ | 3, _ | 4, _ | 5, _ | 6, _ => rfl
theorem rg_st2 (hand al st mine rung : Int) (t : Ans) (s r : Int) (i : Nat) (hi : i < 7) : (fun j => (fun j => if j = 2 then Value.int .i64 r else (fun j => if j = 2 then Value.int .i64 s else rgC hand al st mine rung t j) j) j) i = rgC hand al r mine rung t i := by
  match i, hi with
  | 0, _ | 1, _ | 2, _ | 3, _ | 4, _ | 5, _ | 6, _ => rfl
theorem rg_mine (hand al st mine rung : Int) (t : Ans) (p s : Int) (i : Nat) (hi : i < 7) : (fun j => (fun j => if j = 2 then Value.int .i64 s else (fun j => if j = 3 then Value.int .u64 p else rgC hand al st mine rung t j) j) j) i = rgC hand al s p rung t i := by
  match i, hi with
  | 0, _ | 1, _ | 2, _ | 3, _ | 4, _ | 5, _ | 6, _ => rfl
theorem rg_rung (hand al st mine rung : Int) (t : Ans) (p s : Int) (i : Nat) (hi : i < 7) : (fun j => (fun j => if j = 2 then Value.int .i64 s else (fun j => if j = 4 then Value.int .u64 p else rgC hand al st mine rung t j) j) j) i = rgC hand al s mine p t i := by
  match i, hi with
  | 0, _ | 1, _ | 2, _ | 3, _ | 4, _ | 5, _ | 6, _ => rfl
theorem rg_told (hand al st mine rung : Int) (t : Ans) (o : Bool) (p : Int) (i : Nat) (hi : i < 7) : (fun j => (fun j => if j = 6 then Value.int .u64 p else (fun j => if j = 5 then Value.bool o else rgC hand al st mine rung t j) j) j) i = rgC hand al st mine rung ⟨o, p⟩ i := by
  match i, hi with
  | 0, _ | 1, _ | 2, _ | 3, _ | 4, _ | 5, _ | 6, _ => rfl
theorem rg_stold (hand al st mine rung : Int) (t : Ans) (s : Int) (o : Bool) (p : Int) (i : Nat) (hi : i < 7) : (fun j => (fun j => if j = 6 then Value.int .u64 p else (fun j => if j = 5 then Value.bool o else (fun j => if j = 2 then Value.int .i64 s else rgC hand al st mine rung t j) j) j) j) i = rgC hand al s mine rung ⟨o, p⟩ i := by
  match i, hi with
  | 0, _ | 1, _ | 2, _ | 3, _ | 4, _ | 5, _ | 6, _ => rfl
theorem rg_facts {w : World} {b : Nat} {hand al st mine rung : Int} {t : Ans} (h : w.rowIs b 109 7 (rgC hand al st mine rung t)) : (w.cell? ⟨b, 0, none⟩ = some (.int .i64 hand) ∧ w.frozen? ⟨b, 0, none⟩ = false) ∧ (w.cell? ⟨b, 1, none⟩ = some (.int .u64 al) ∧ w.frozen? ⟨b, 1, none⟩ = false) ∧ (w.cell? ⟨b, 2, none⟩ = some (.int .i64 st) ∧ w.frozen? ⟨b, 2, none⟩ = false) ∧ (w.cell? ⟨b, 3, none⟩ = some (.int .u64 mine) ∧ w.frozen? ⟨b, 3, none⟩ = false) ∧ (w.cell? ⟨b, 4, none⟩ = some (.int .u64 rung) ∧ w.frozen? ⟨b, 4, none⟩ = false) ∧ (w.cell? ⟨b, 5, none⟩ = some (.bool t.ok) ∧ w.frozen? ⟨b, 5, none⟩ = false) ∧ (w.cell? ⟨b, 6, none⟩ = some (.int .u64 t.val) ∧ w.frozen? ⟨b, 6, none⟩ = false) :=
  ⟨⟨h.cell (i := 0) (by omega), h.frozen 0⟩, ⟨h.cell (i := 1) (by omega), h.frozen 1⟩, ⟨h.cell (i := 2) (by omega), h.frozen 2⟩, ⟨h.cell (i := 3) (by omega), h.frozen 3⟩, ⟨h.cell (i := 4) (by omega), h.frozen 4⟩, ⟨h.cell (i := 5) (by omega), h.frozen 5⟩, ⟨h.cell (i := 6) (by omega), h.frozen 6⟩⟩
theorem z_facts {w : World} {b : Nat} (h : w.rowIs b 63 6 zcell) : (w.cell? ⟨b, 0, none⟩ = some (.int .i64 0) ∧ w.frozen? ⟨b, 0, none⟩ = false) ∧ (w.cell? ⟨b, 1, none⟩ = some (.int .i64 0) ∧ w.frozen? ⟨b, 1, none⟩ = false) ∧ (w.cell? ⟨b, 2, none⟩ = some (.int .i64 0) ∧ w.frozen? ⟨b, 2, none⟩ = false) ∧ (w.cell? ⟨b, 3, none⟩ = some (.int .u64 0) ∧ w.frozen? ⟨b, 3, none⟩ = false) ∧ (w.cell? ⟨b, 4, none⟩ = some (.int .u64 0) ∧ w.frozen? ⟨b, 4, none⟩ = false) ∧ (w.cell? ⟨b, 5, none⟩ = some (.bool false) ∧ w.frozen? ⟨b, 5, none⟩ = false) :=
  ⟨⟨h.cell (i := 0) (by omega), h.frozen 0⟩, ⟨h.cell (i := 1) (by omega), h.frozen 1⟩, ⟨h.cell (i := 2) (by omega), h.frozen 2⟩, ⟨h.cell (i := 3) (by omega), h.frozen 3⟩, ⟨h.cell (i := 4) (by omega), h.frozen 4⟩, ⟨h.cell (i := 5) (by omega), h.frozen 5⟩⟩

set_option maxHeartbeats 4000000 in
theorem look_goes {w : World} {b bm bw n : Nat} {f f' : Nat → Int} {x : Stp} {hand al mine rung : Int} {t : Ans} (h : w.rowIs b 109 7 (rgC hand al 0 mine rung t)) (hm : IsMem w bm bw n f) (h1 : b ≠ bm) (h2 : b ≠ bw) 
    (hx : stepOf n f ⟨hand, 1, 1, 0, 0, true⟩ = x) (hf' : wordsOf n f ⟨hand, 1, 1, 0, 0, true⟩ = f') :
    Calls Try.prog 117 #[.pointer (some ⟨b, 0, none⟩), .pointer (some ⟨bm, 0, none⟩)] w fun e w' => e = .returned (.tuple #[x.val, .int .i64 0]) ∧
      w'.rowIs b 109 7 (rgC hand al 1 x.had rung t) ∧ IsMem w' bm bw n f' ∧ Touch w w' (fun k => k = b ∨ k = bw) := by
  have hl := h.lt
  have lw := hm.row.lt
  have lm := hm.head.lt
  obtain ⟨W1, hW1⟩ : ∃ W1, (w.alloc (.cells #[.int .i64 0, .int .i64 0, .int .i64 0, .int .u64 0, .int .u64 0, .bool false] 63)).alloc (.cells #[.int .i64 0, .int .i64 0, .int .i64 0, .int .u64 0, .int .u64 0, .bool false] 63) = W1 := ⟨_, rfl⟩
  have R := hide (show W1.rowIs b 109 7 (rgC hand al 0 mine rung t) from by rw [← hW1]; exact (h.alloc _).alloc _)
  have M := hide (show IsMem W1 bm bw n f from by rw [← hW1]; exact (hm.alloc _).alloc _)
  have RZ := hide (show W1.rowIs w.heap.size 63 6 zcell from by rw [← hW1]; exact (row0 w).alloc _)
  have RS := hide (show W1.rowIs (w.heap.size + 1) 63 6 zcell from by rw [← hW1]; exact row0n w _)
  have T0 := hide (show Touch w W1 (fun k => k = b ∨ k = bw) from by rw [← hW1]; exact ((Touch.refl w _).alloc _).alloc _)
  have sz : W1.heap.size = w.heap.size + 2 := by rw [← hW1]; simp
  obtain ⟨r, hr⟩ : ∃ r, w.heap.size = r := ⟨_, rfl⟩
  rw [hr] at RZ RS sz hl lw lm
  have hrb : r ≠ b := by omega
  have hrw : r ≠ bw := by omega
  have hrm : r ≠ bm := by omega
  have hsb : r + 1 ≠ b := by omega
  have hsw : r + 1 ≠ bw := by omega
  have hsm : r + 1 ≠ bm := by omega
  have HX := hide hx
  have HF := hide hf'
  have HW : Hid (0 ≤ (⟨hand, 1, 1, 0, 0, true⟩ : Stp).put ∧ (⟨hand, 1, 1, 0, 0, true⟩ : Stp).put ≤ 18446744073709551615) := ⟨by show (0 : Int) ≤ 0; omega, by show (0 : Int) ≤ 18446744073709551615; omega⟩
  clear hm h hx hf'
  obtain ⟨⟨c0, cf0⟩, ⟨c1, cf1⟩, ⟨c2, cf2⟩, ⟨c3, cf3⟩, ⟨c4, cf4⟩, ⟨c5, cf5⟩, c6, cf6⟩ := rg_facts R.out
  go_enter Try.func117, Try.ntmps117
  go_wp2_with fail
  go_step3
  go_wp2_with fail
  go_step3
  go_wp2_with fail
  clear hW1
  refine wp_loop_rounds 1 ?_
  rw [rounds_succ]
  go_wp2_with fail
  refine (do_mem M.out ⟨hand, 1, 1, 0, 0, true⟩ HW.out).mono ?_
  rintro e w1 ⟨rfl, hm1, hg1⟩
  rw [HX.out]
  rw [HF.out] at hm1
  simp only [Stp.val]
  have lw1 := hg1.size
  have R1 := hide (R.out.of_block (hg1.block b (by omega) (by simpa using h2)))
  have RR := hide (RZ.out.of_block (hg1.block r (by omega) (by simpa using hrw)))
  have SS := hide (RS.out.of_block (hg1.block (r + 1) (by omega) (by simpa using hsw)))
  have M1 := hide hm1
  have T1 := hide (T0.out.trans' (Touch.of_grown hg1) (fun k _ e => .inr (by simpa using e)))
  have l1 : b < w1.heap.size := by omega
  have l2 : r < w1.heap.size := by omega
  have l3 : r + 1 < w1.heap.size := by omega
  clear hm1 hg1 c0 cf0 c1 cf1 c2 cf2 c3 cf3 c4 cf4 c5 cf5 c6 cf6
  obtain ⟨⟨d0, df0⟩, ⟨d1, df1⟩, ⟨d2, df2⟩, ⟨d3, df3⟩, ⟨d4, df4⟩, ⟨d5, df5⟩, d6, df6⟩ := rg_facts R1.out
  obtain ⟨⟨z0, zf0⟩, ⟨z1, zf1⟩, ⟨z2, zf2⟩, ⟨z3, zf3⟩, ⟨z4, zf4⟩, z5, zf5⟩ := z_facts RR.out
  obtain ⟨⟨s0, sf0⟩, ⟨s1, sf1⟩, ⟨s2, sf2⟩, ⟨s3, sf3⟩, ⟨s4, sf4⟩, s5, sf5⟩ := z_facts SS.out
  go_wp2_with fail
  go_light
  rw [Exit.noGoto_ret]
  refine bodyPost_ret (v := .tuple #[x.val, .int .i64 0]) ?res rfl ⟨rfl, ?row, ?mem, ?tch⟩
  case row =>
    refine World.rowIs.congr ?_ (fun i hi => rg_mine hand al 0 mine rung t x.had 1 i hi)
    repeat (first | (with_reducible apply World.rowIs.alloc) | (with_reducible apply row_drewN) | (with_reducible apply World.rowIs.drew) | (with_reducible refine World.rowIs.setOther ?_ ?side _; case side => (simp; omega)))
    with_reducible refine World.rowIs.set ?_ 2 _
    repeat (first | (with_reducible apply World.rowIs.alloc) | (with_reducible apply row_drewN) | (with_reducible apply World.rowIs.drew) | (with_reducible refine World.rowIs.setOther ?_ ?side _; case side => (simp; omega)))
    with_reducible refine World.rowIs.set ?_ 3 _
    repeat (first | (with_reducible apply World.rowIs.alloc) | (with_reducible apply row_drewN) | (with_reducible apply World.rowIs.drew) | (with_reducible refine World.rowIs.setOther ?_ ?side _; case side => (simp; omega)))
    with_reducible exact R1.out
  case mem =>
    repeat (first | (with_reducible apply IsMem.alloc) | (with_reducible apply mem_drewN) | (with_reducible apply IsMem.drew) | ((with_reducible refine IsMem.setOther ?_ ?_ ?_ _); rotate_left; (simp; omega); (simp; omega)))
    with_reducible exact M1.out
  case tch =>
    repeat (first | (with_reducible apply Touch.alloc) | (with_reducible apply touch_drewN) | (with_reducible apply Touch.drew) | (with_reducible refine Touch.setCell ?_ _ ?side _; case side => (first | (simp; done) | (simp; omega))))
    with_reducible exact T1.out
  case res => simp [results, Try.results117, go_sem, Stp.val, *]

set_option maxHeartbeats 4000000 in
theorem count_goes {w : World} {b bm bw n : Nat} {f f' : Nat → Int} {x : Stp} {hand al mine rung : Int} {t : Ans} (h : w.rowIs b 109 7 (rgC hand al 1 mine rung t)) (hm : IsMem w bm bw n f) (h1 : b ≠ bm) (h2 : b ≠ bw) 
    (hx : stepOf n f ⟨hand, 4, 0, 0, 1, true⟩ = x) (hf' : wordsOf n f ⟨hand, 4, 0, 0, 1, true⟩ = f') :
    Calls Try.prog 117 #[.pointer (some ⟨b, 0, none⟩), .pointer (some ⟨bm, 0, none⟩)] w fun e w' => e = .returned (.tuple #[x.val, .int .i64 0]) ∧
      w'.rowIs b 109 7 (rgC hand al 2 mine (u64 (x.had + 1)) t) ∧ IsMem w' bm bw n f' ∧ Touch w w' (fun k => k = b ∨ k = bw) := by
  have hl := h.lt
  have lw := hm.row.lt
  have lm := hm.head.lt
  obtain ⟨W1, hW1⟩ : ∃ W1, (w.alloc (.cells #[.int .i64 0, .int .i64 0, .int .i64 0, .int .u64 0, .int .u64 0, .bool false] 63)).alloc (.cells #[.int .i64 0, .int .i64 0, .int .i64 0, .int .u64 0, .int .u64 0, .bool false] 63) = W1 := ⟨_, rfl⟩
  have R := hide (show W1.rowIs b 109 7 (rgC hand al 1 mine rung t) from by rw [← hW1]; exact (h.alloc _).alloc _)
  have M := hide (show IsMem W1 bm bw n f from by rw [← hW1]; exact (hm.alloc _).alloc _)
  have RZ := hide (show W1.rowIs w.heap.size 63 6 zcell from by rw [← hW1]; exact (row0 w).alloc _)
  have RS := hide (show W1.rowIs (w.heap.size + 1) 63 6 zcell from by rw [← hW1]; exact row0n w _)
  have T0 := hide (show Touch w W1 (fun k => k = b ∨ k = bw) from by rw [← hW1]; exact ((Touch.refl w _).alloc _).alloc _)
  have sz : W1.heap.size = w.heap.size + 2 := by rw [← hW1]; simp
  obtain ⟨r, hr⟩ : ∃ r, w.heap.size = r := ⟨_, rfl⟩
  rw [hr] at RZ RS sz hl lw lm
  have hrb : r ≠ b := by omega
  have hrw : r ≠ bw := by omega
  have hrm : r ≠ bm := by omega
  have hsb : r + 1 ≠ b := by omega
  have hsw : r + 1 ≠ bw := by omega
  have hsm : r + 1 ≠ bm := by omega
  have HX := hide hx
  have HF := hide hf'
  have HW : Hid (0 ≤ (⟨hand, 4, 0, 0, 1, true⟩ : Stp).put ∧ (⟨hand, 4, 0, 0, 1, true⟩ : Stp).put ≤ 18446744073709551615) := ⟨by show (0 : Int) ≤ 1; omega, by show (1 : Int) ≤ 18446744073709551615; omega⟩
  clear hm h hx hf'
  obtain ⟨⟨c0, cf0⟩, ⟨c1, cf1⟩, ⟨c2, cf2⟩, ⟨c3, cf3⟩, ⟨c4, cf4⟩, ⟨c5, cf5⟩, c6, cf6⟩ := rg_facts R.out
  go_enter Try.func117, Try.ntmps117
  go_wp2_with fail
  go_step3
  go_wp2_with fail
  go_step3
  go_wp2_with fail
  clear hW1
  refine wp_loop_rounds 1 ?_
  rw [rounds_succ]
  go_wp2_with fail
  refine (do_mem M.out ⟨hand, 4, 0, 0, 1, true⟩ HW.out).mono ?_
  rintro e w1 ⟨rfl, hm1, hg1⟩
  rw [HX.out]
  rw [HF.out] at hm1
  simp only [Stp.val]
  have lw1 := hg1.size
  have R1 := hide (R.out.of_block (hg1.block b (by omega) (by simpa using h2)))
  have RR := hide (RZ.out.of_block (hg1.block r (by omega) (by simpa using hrw)))
  have SS := hide (RS.out.of_block (hg1.block (r + 1) (by omega) (by simpa using hsw)))
  have M1 := hide hm1
  have T1 := hide (T0.out.trans' (Touch.of_grown hg1) (fun k _ e => .inr (by simpa using e)))
  have l1 : b < w1.heap.size := by omega
  have l2 : r < w1.heap.size := by omega
  have l3 : r + 1 < w1.heap.size := by omega
  clear hm1 hg1 c0 cf0 c1 cf1 c2 cf2 c3 cf3 c4 cf4 c5 cf5 c6 cf6
  obtain ⟨⟨d0, df0⟩, ⟨d1, df1⟩, ⟨d2, df2⟩, ⟨d3, df3⟩, ⟨d4, df4⟩, ⟨d5, df5⟩, d6, df6⟩ := rg_facts R1.out
  obtain ⟨⟨z0, zf0⟩, ⟨z1, zf1⟩, ⟨z2, zf2⟩, ⟨z3, zf3⟩, ⟨z4, zf4⟩, z5, zf5⟩ := z_facts RR.out
  obtain ⟨⟨s0, sf0⟩, ⟨s1, sf1⟩, ⟨s2, sf2⟩, ⟨s3, sf3⟩, ⟨s4, sf4⟩, s5, sf5⟩ := z_facts SS.out
  have hwr := wrap_u64' (x.had + 1)
  go_wp2_with fail
  go_light
  rw [Exit.noGoto_ret]
  refine bodyPost_ret (v := .tuple #[x.val, .int .i64 0]) ?res rfl ⟨rfl, ?row, ?mem, ?tch⟩
  case row =>
    refine World.rowIs.congr ?_ (fun i hi => rg_rung hand al 1 mine rung t (u64 (x.had + 1)) 2 i hi)
    repeat (first | (with_reducible apply World.rowIs.alloc) | (with_reducible apply row_drewN) | (with_reducible apply World.rowIs.drew) | (with_reducible refine World.rowIs.setOther ?_ ?side _; case side => (simp; omega)))
    with_reducible refine World.rowIs.set ?_ 2 _
    repeat (first | (with_reducible apply World.rowIs.alloc) | (with_reducible apply row_drewN) | (with_reducible apply World.rowIs.drew) | (with_reducible refine World.rowIs.setOther ?_ ?side _; case side => (simp; omega)))
    with_reducible refine World.rowIs.set ?_ 4 _
    repeat (first | (with_reducible apply World.rowIs.alloc) | (with_reducible apply row_drewN) | (with_reducible apply World.rowIs.drew) | (with_reducible refine World.rowIs.setOther ?_ ?side _; case side => (simp; omega)))
    with_reducible exact R1.out
  case mem =>
    repeat (first | (with_reducible apply IsMem.alloc) | (with_reducible apply mem_drewN) | (with_reducible apply IsMem.drew) | ((with_reducible refine IsMem.setOther ?_ ?_ ?_ _); rotate_left; (simp; omega); (simp; omega)))
    with_reducible exact M1.out
  case tch =>
    repeat (first | (with_reducible apply Touch.alloc) | (with_reducible apply touch_drewN) | (with_reducible apply Touch.drew) | (with_reducible refine Touch.setCell ?_ _ ?side _; case side => (first | (simp; done) | (simp; omega))))
    with_reducible exact T1.out
  case res => simp [results, Try.results117, go_sem, Stp.val, *]
end Bell
end Go.Proofs.Ytbjlpmahomjgjaa
