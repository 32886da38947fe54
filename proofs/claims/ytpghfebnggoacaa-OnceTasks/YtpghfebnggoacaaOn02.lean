/-
  Lemmas: OnceB, RRetC, OnceC, OnceK.
-/
import Derived.Test.YtpghfebnggoacaaOn01
import Derived.Test.YtpghfebnggoacaaTp26
import Derived.Test.YtpghfebnggoacaaTp21
import Derived.Test.YtpghfebnggoacaaTp10
/-
  The tasks of once: what Step and Answer do, on.
-/
namespace Go.Proofs.Ytpghfebnggoacaa
open Go.RowKit
set_option linter.unusedVariables false
set_option linter.unusedSimpArgs false
set_option maxRecDepth 20000
namespace Once


set_option maxHeartbeats 4000000 in
theorem await_goes {w : World} {b bm bw n : Nat} {f f' : Nat → Int} {x : Stp} {hand kind st ct line : Int} {t : Ans} (h : w.rowIs b 137 7 (onC hand kind st ct line t)) (hm : IsMem w bm bw n f) (h1 : b ≠ bm) (h2 : b ≠ bw) (hne : ¬ x.had = 2)
    (hx : stepOf n f ⟨hand, 1, st, 0, 0, true⟩ = x) (hf' : wordsOf n f ⟨hand, 1, st, 0, 0, true⟩ = f') :
    Calls Try.prog 99 #[.pointer (some ⟨b, 0, none⟩), .pointer (some ⟨bm, 0, none⟩)] w fun e w' => e = .returned (.tuple #[x.val, .int .i64 0]) ∧
      w'.rowIs b 137 7 (onC hand kind st ct line t) ∧ IsMem w' bm bw n f' ∧ Touch w w' (fun k => k = b ∨ k = bw) := by
  have c0 : w.cell? ⟨b, 0, none⟩ = some (.int .i64 hand) := h.cell (i := 0) (by omega)
  have c2 : w.cell? ⟨b, 2, none⟩ = some (.int .i64 st) := h.cell (i := 2) (by omega)
  have hl := h.lt
  have lw := hm.row.lt
  have lm := hm.head.lt
  have hn1 : w.heap.size + 1 ≠ b := by omega
  have M := hide hm
  have R := hide h
  have HX := hide hx
  have HF := hide hf'
  have HW : Hid (0 ≤ (⟨hand, 1, st, 0, 0, true⟩ : Stp).put ∧ (⟨hand, 1, st, 0, 0, true⟩ : Stp).put ≤ 18446744073709551615) := ⟨Int.le_refl 0, by show (0 : Int) ≤ 18446744073709551615; decide⟩
  clear hm h hx hf' 
  go_enter Try.func99, Try.ntmps99
  go_wp2_with fail
  go_region_held (fun w' => w'.cell? ⟨b, 0, none⟩ = some (.int .i64 hand) ∧ w'.cell? ⟨b, 2, none⟩ = some (.int .i64 st)) (go_keep) (first | (go_at_call 101; refine (do_mem (((M.out.alloc _).alloc _).drew) ⟨hand, 1, st, 0, 0, true⟩ HW.out).mono ?_; rintro e w1 ⟨rfl, hm1, hg1⟩; rw [HX.out]; rw [HF.out] at hm1; simp only [Stp.val]; have M1 := hide hm1; have s1 := hg1.size; simp only [World.size_alloc, World.size_drew] at s1; have hn2 : w1.heap.size ≠ b := (by omega); have R1 := hide (((R.out.alloc _).alloc _).drew.of_block (hg1.block b (by simp; omega) (by simp [h2]))); have RR := hide (((row0 w).alloc _).drew.of_block (hg1.block w.heap.size (by simp; omega) (by simp; omega))); have RZ := hide ((row0n w _).drew.of_block (hg1.block (w.heap.size + 1) (by simp) (by simp; omega))); have T1 := hide ((((Touch.refl w (fun k => k = b ∨ k = bw)).alloc _).alloc _).drew.trans' (Touch.of_grown hg1) (fun k _ h => .inr (by simpa using h))); have d0 : w1.cell? ⟨b, 0, none⟩ = some (.int .i64 hand) := R1.out.cell (i := 0) (by omega); have d2 : w1.cell? ⟨b, 2, none⟩ = some (.int .i64 st) := R1.out.cell (i := 2) (by omega); have z0 : w1.cell? ⟨w.heap.size + 1, 0, none⟩ = some (.int .i64 0) := RZ.out.cell (i := 0) (by omega); have zf0 := RZ.out.frozen 0; have z1 : w1.cell? ⟨w.heap.size + 1, 1, none⟩ = some (.int .i64 0) := RZ.out.cell (i := 1) (by omega); have zf1 := RZ.out.frozen 1; have z2 : w1.cell? ⟨w.heap.size + 1, 2, none⟩ = some (.int .i64 0) := RZ.out.cell (i := 2) (by omega); have zf2 := RZ.out.frozen 2; have z3 : w1.cell? ⟨w.heap.size + 1, 3, none⟩ = some (.int .u64 0) := RZ.out.cell (i := 3) (by omega); have zf3 := RZ.out.frozen 3; have z4 : w1.cell? ⟨w.heap.size + 1, 4, none⟩ = some (.int .u64 0) := RZ.out.cell (i := 4) (by omega); have zf4 := RZ.out.frozen 4; have z5 : w1.cell? ⟨w.heap.size + 1, 5, none⟩ = some (.bool false) := RZ.out.cell (i := 5) (by omega); have zf5 := RZ.out.frozen 5; clear hm1 hg1) | (go_at_call 101; refine (do_mem ((M.out.alloc _).drew) ⟨hand, 1, st, 0, 0, true⟩ HW.out).mono ?_; rintro e w1 ⟨rfl, hm1, hg1⟩; rw [HX.out]; rw [HF.out] at hm1; simp only [Stp.val]; have M1 := hide hm1; have s1 := hg1.size; simp only [World.size_alloc, World.size_drew] at s1; have hn2 : w1.heap.size ≠ b := (by omega); have R1 := hide ((R.out.alloc _).drew.of_block (hg1.block b (by simp; omega) (by simp [h2]))); have RR := hide ((row0 w).drew.of_block (hg1.block w.heap.size (by simp) (by simp; omega))); have T1 := hide (((Touch.refl w (fun k => k = b ∨ k = bw)).alloc _).drew.trans' (Touch.of_grown hg1) (fun k _ h => .inr (by simpa using h))); have d0 : w1.cell? ⟨b, 0, none⟩ = some (.int .i64 hand) := R1.out.cell (i := 0) (by omega); have d2 : w1.cell? ⟨b, 2, none⟩ = some (.int .i64 st) := R1.out.cell (i := 2) (by omega); clear hm1 hg1))
  all_goals have l1 : b < w1.heap.size := by omega
  all_goals have l2 : w.heap.size < w1.heap.size := by omega
  all_goals have hn3 : w.heap.size ≠ b := by omega
  all_goals clear c0 d0 c2 d2
  all_goals have r0 : w1.cell? ⟨w.heap.size, 0, none⟩ = some (.int .i64 0) := RR.out.cell (i := 0) (by omega)
  all_goals have rf0 := RR.out.frozen 0
  all_goals have r1 : w1.cell? ⟨w.heap.size, 1, none⟩ = some (.int .i64 0) := RR.out.cell (i := 1) (by omega)
  all_goals have rf1 := RR.out.frozen 1
  all_goals have r2 : w1.cell? ⟨w.heap.size, 2, none⟩ = some (.int .i64 0) := RR.out.cell (i := 2) (by omega)
  all_goals have rf2 := RR.out.frozen 2
  all_goals have r3 : w1.cell? ⟨w.heap.size, 3, none⟩ = some (.int .u64 0) := RR.out.cell (i := 3) (by omega)
  all_goals have rf3 := RR.out.frozen 3
  all_goals have r4 : w1.cell? ⟨w.heap.size, 4, none⟩ = some (.int .u64 0) := RR.out.cell (i := 4) (by omega)
  all_goals have rf4 := RR.out.frozen 4
  all_goals have r5 : w1.cell? ⟨w.heap.size, 5, none⟩ = some (.bool false) := RR.out.cell (i := 5) (by omega)
  all_goals have rf5 := RR.out.frozen 5

  all_goals go_wp2_with fail
  all_goals go_light
  all_goals
    refine bodyPost_ret (v := .tuple #[x.val, .int .i64 0]) ?res rfl ⟨rfl, ?row, ?mem, ?tch⟩
    case row =>
      repeat (first | (with_reducible apply World.rowIs.alloc) | (with_reducible apply World.rowIs.drew) | (with_reducible refine World.rowIs.setOther ?_ ?side _; case side => (simp; omega)))
      with_reducible exact R1.out
    case mem =>
      repeat (first | (with_reducible apply IsMem.alloc) | (with_reducible apply IsMem.drew) | ((with_reducible refine IsMem.setOther ?_ ?_ ?_ _); rotate_left; (simp; omega); (simp; omega)))
      with_reducible exact M1.out
    case tch =>
      repeat (first | (with_reducible apply Touch.alloc) | (with_reducible apply Touch.drew) | (with_reducible refine Touch.setCell ?_ _ ?side _; case side => simp))
      with_reducible exact T1.out
    case res => simp [results, Try.results99, go_sem, Stp.val, *]

set_option maxHeartbeats 4000000 in
theorem await_ends {w : World} {b bm bw n : Nat} {f f' : Nat → Int} {x : Stp} {hand kind st ct line : Int} {t : Ans} (h : w.rowIs b 137 7 (onC hand kind st ct line t)) (hm : IsMem w bm bw n f) (h1 : b ≠ bm) (h2 : b ≠ bw) (hne : x.had = 2)
    (hx : stepOf n f ⟨hand, 1, st, 0, 0, true⟩ = x) (hf' : wordsOf n f ⟨hand, 1, st, 0, 0, true⟩ = f') :
    Calls Try.prog 99 #[.pointer (some ⟨b, 0, none⟩), .pointer (some ⟨bm, 0, none⟩)] w fun e w' => e = .returned (.tuple #[x.val, .int .i64 1]) ∧
      w'.rowIs b 137 7 (onC hand kind st ct line ⟨true, 0⟩) ∧ IsMem w' bm bw n f' ∧ Touch w w' (fun k => k = b ∨ k = bw) := by
  have c0 : w.cell? ⟨b, 0, none⟩ = some (.int .i64 hand) := h.cell (i := 0) (by omega)
  have c2 : w.cell? ⟨b, 2, none⟩ = some (.int .i64 st) := h.cell (i := 2) (by omega)
  have hl := h.lt
  have lw := hm.row.lt
  have lm := hm.head.lt
  have hn1 : w.heap.size + 1 ≠ b := by omega
  have M := hide hm
  have R := hide h
  have HX := hide hx
  have HF := hide hf'
  have HW : Hid (0 ≤ (⟨hand, 1, st, 0, 0, true⟩ : Stp).put ∧ (⟨hand, 1, st, 0, 0, true⟩ : Stp).put ≤ 18446744073709551615) := ⟨Int.le_refl 0, by show (0 : Int) ≤ 18446744073709551615; decide⟩
  clear hm h hx hf' 
  go_enter Try.func99, Try.ntmps99
  go_wp2_with fail
  go_region_held (fun w' => w'.cell? ⟨b, 0, none⟩ = some (.int .i64 hand) ∧ w'.cell? ⟨b, 2, none⟩ = some (.int .i64 st)) (go_keep) (first | (go_at_call 101; refine (do_mem (((M.out.alloc _).alloc _).drew) ⟨hand, 1, st, 0, 0, true⟩ HW.out).mono ?_; rintro e w1 ⟨rfl, hm1, hg1⟩; rw [HX.out]; rw [HF.out] at hm1; simp only [Stp.val]; have M1 := hide hm1; have s1 := hg1.size; simp only [World.size_alloc, World.size_drew] at s1; have hn2 : w1.heap.size ≠ b := (by omega); have R1 := hide (((R.out.alloc _).alloc _).drew.of_block (hg1.block b (by simp; omega) (by simp [h2]))); have RR := hide (((row0 w).alloc _).drew.of_block (hg1.block w.heap.size (by simp; omega) (by simp; omega))); have RZ := hide ((row0n w _).drew.of_block (hg1.block (w.heap.size + 1) (by simp) (by simp; omega))); have T1 := hide ((((Touch.refl w (fun k => k = b ∨ k = bw)).alloc _).alloc _).drew.trans' (Touch.of_grown hg1) (fun k _ h => .inr (by simpa using h))); have d0 : w1.cell? ⟨b, 0, none⟩ = some (.int .i64 hand) := R1.out.cell (i := 0) (by omega); have d2 : w1.cell? ⟨b, 2, none⟩ = some (.int .i64 st) := R1.out.cell (i := 2) (by omega); have z0 : w1.cell? ⟨w.heap.size + 1, 0, none⟩ = some (.int .i64 0) := RZ.out.cell (i := 0) (by omega); have zf0 := RZ.out.frozen 0; have z1 : w1.cell? ⟨w.heap.size + 1, 1, none⟩ = some (.int .i64 0) := RZ.out.cell (i := 1) (by omega); have zf1 := RZ.out.frozen 1; have z2 : w1.cell? ⟨w.heap.size + 1, 2, none⟩ = some (.int .i64 0) := RZ.out.cell (i := 2) (by omega); have zf2 := RZ.out.frozen 2; have z3 : w1.cell? ⟨w.heap.size + 1, 3, none⟩ = some (.int .u64 0) := RZ.out.cell (i := 3) (by omega); have zf3 := RZ.out.frozen 3; have z4 : w1.cell? ⟨w.heap.size + 1, 4, none⟩ = some (.int .u64 0) := RZ.out.cell (i := 4) (by omega); have zf4 := RZ.out.frozen 4; have z5 : w1.cell? ⟨w.heap.size + 1, 5, none⟩ = some (.bool false) := RZ.out.cell (i := 5) (by omega); have zf5 := RZ.out.frozen 5; clear hm1 hg1) | (go_at_call 101; refine (do_mem ((M.out.alloc _).drew) ⟨hand, 1, st, 0, 0, true⟩ HW.out).mono ?_; rintro e w1 ⟨rfl, hm1, hg1⟩; rw [HX.out]; rw [HF.out] at hm1; simp only [Stp.val]; have M1 := hide hm1; have s1 := hg1.size; simp only [World.size_alloc, World.size_drew] at s1; have hn2 : w1.heap.size ≠ b := (by omega); have R1 := hide ((R.out.alloc _).drew.of_block (hg1.block b (by simp; omega) (by simp [h2]))); have RR := hide ((row0 w).drew.of_block (hg1.block w.heap.size (by simp) (by simp; omega))); have T1 := hide (((Touch.refl w (fun k => k = b ∨ k = bw)).alloc _).drew.trans' (Touch.of_grown hg1) (fun k _ h => .inr (by simpa using h))); have d0 : w1.cell? ⟨b, 0, none⟩ = some (.int .i64 hand) := R1.out.cell (i := 0) (by omega); have d2 : w1.cell? ⟨b, 2, none⟩ = some (.int .i64 st) := R1.out.cell (i := 2) (by omega); clear hm1 hg1))
  all_goals have l1 : b < w1.heap.size := by omega
  all_goals have l2 : w.heap.size < w1.heap.size := by omega
  all_goals have hn3 : w.heap.size ≠ b := by omega
  all_goals clear c0 d0 c2 d2
  all_goals have d5 : w1.cell? ⟨b, 5, none⟩ = some (.bool t.ok) := R1.out.cell (i := 5) (by omega)
  all_goals have df5 := R1.out.frozen 5
  all_goals have d6 : w1.cell? ⟨b, 6, none⟩ = some (.int .u64 t.val) := R1.out.cell (i := 6) (by omega)
  all_goals have df6 := R1.out.frozen 6
  all_goals have r0 : w1.cell? ⟨w.heap.size, 0, none⟩ = some (.int .i64 0) := RR.out.cell (i := 0) (by omega)
  all_goals have rf0 := RR.out.frozen 0
  all_goals have r1 : w1.cell? ⟨w.heap.size, 1, none⟩ = some (.int .i64 0) := RR.out.cell (i := 1) (by omega)
  all_goals have rf1 := RR.out.frozen 1
  all_goals have r2 : w1.cell? ⟨w.heap.size, 2, none⟩ = some (.int .i64 0) := RR.out.cell (i := 2) (by omega)
  all_goals have rf2 := RR.out.frozen 2
  all_goals have r3 : w1.cell? ⟨w.heap.size, 3, none⟩ = some (.int .u64 0) := RR.out.cell (i := 3) (by omega)
  all_goals have rf3 := RR.out.frozen 3
  all_goals have r4 : w1.cell? ⟨w.heap.size, 4, none⟩ = some (.int .u64 0) := RR.out.cell (i := 4) (by omega)
  all_goals have rf4 := RR.out.frozen 4
  all_goals have r5 : w1.cell? ⟨w.heap.size, 5, none⟩ = some (.bool false) := RR.out.cell (i := 5) (by omega)
  all_goals have rf5 := RR.out.frozen 5

  all_goals go_wp2_with fail
  all_goals go_light
  all_goals
    refine bodyPost_ret (v := .tuple #[x.val, .int .i64 1]) ?res rfl ⟨rfl, ?row, ?mem, ?tch⟩
    case row =>
      refine World.rowIs.congr ?_ (fun i hi => on_told hand kind st ct line t true 0 i hi)
      repeat (first | (with_reducible apply World.rowIs.alloc) | (with_reducible apply World.rowIs.drew) | (with_reducible refine World.rowIs.setOther ?_ ?side _; case side => (simp; omega)))
      with_reducible refine World.rowIs.set ?_ 6 _
      repeat (first | (with_reducible apply World.rowIs.alloc) | (with_reducible apply World.rowIs.drew) | (with_reducible refine World.rowIs.setOther ?_ ?side _; case side => (simp; omega)))
      with_reducible refine World.rowIs.set ?_ 5 _
      repeat (first | (with_reducible apply World.rowIs.alloc) | (with_reducible apply World.rowIs.drew) | (with_reducible refine World.rowIs.setOther ?_ ?side _; case side => (simp; omega)))
      with_reducible exact R1.out
    case mem =>
      repeat (first | (with_reducible apply IsMem.alloc) | (with_reducible apply IsMem.drew) | ((with_reducible refine IsMem.setOther ?_ ?_ ?_ _); rotate_left; (simp; omega); (simp; omega)))
      with_reducible exact M1.out
    case tch =>
      repeat (first | (with_reducible apply Touch.alloc) | (with_reducible apply Touch.drew) | (with_reducible refine Touch.setCell ?_ _ ?side _; case side => simp))
      with_reducible exact T1.out
    case res => simp [results, Try.results99, go_sem, Stp.val, *]

set_option maxHeartbeats 4000000 in
theorem look_ends {w : World} {b bm bw n : Nat} {f f' : Nat → Int} {x : Stp} {hand kind st ct line : Int} {t : Ans} (h : w.rowIs b 137 7 (onC hand kind st ct line t)) (hm : IsMem w bm bw n f) (h1 : b ≠ bm) (h2 : b ≠ bw) 
    (hx : stepOf n f ⟨hand, 1, st, 0, 0, true⟩ = x) (hf' : wordsOf n f ⟨hand, 1, st, 0, 0, true⟩ = f') :
    Calls Try.prog 100 #[.pointer (some ⟨b, 0, none⟩), .pointer (some ⟨bm, 0, none⟩)] w fun e w' => e = .returned (.tuple #[x.val, .int .i64 1]) ∧
      w'.rowIs b 137 7 (onC hand kind st ct line ⟨x.had == 2, x.had⟩) ∧ IsMem w' bm bw n f' ∧ Touch w w' (fun k => k = b ∨ k = bw) := by
  have c0 : w.cell? ⟨b, 0, none⟩ = some (.int .i64 hand) := h.cell (i := 0) (by omega)
  have c2 : w.cell? ⟨b, 2, none⟩ = some (.int .i64 st) := h.cell (i := 2) (by omega)
  have hl := h.lt
  have lw := hm.row.lt
  have lm := hm.head.lt
  have hn1 : w.heap.size + 1 ≠ b := by omega
  have M := hide hm
  have R := hide h
  have HX := hide hx
  have HF := hide hf'
  have HW : Hid (0 ≤ (⟨hand, 1, st, 0, 0, true⟩ : Stp).put ∧ (⟨hand, 1, st, 0, 0, true⟩ : Stp).put ≤ 18446744073709551615) := ⟨Int.le_refl 0, by show (0 : Int) ≤ 18446744073709551615; decide⟩
  clear hm h hx hf' 
  go_enter Try.func100, Try.ntmps100
  go_wp2_with fail
  go_region_held (fun w' => w'.cell? ⟨b, 0, none⟩ = some (.int .i64 hand) ∧ w'.cell? ⟨b, 2, none⟩ = some (.int .i64 st)) (go_keep) (first | (go_at_call 101; refine (do_mem (((M.out.alloc _).alloc _).drew) ⟨hand, 1, st, 0, 0, true⟩ HW.out).mono ?_; rintro e w1 ⟨rfl, hm1, hg1⟩; rw [HX.out]; rw [HF.out] at hm1; simp only [Stp.val]; have M1 := hide hm1; have s1 := hg1.size; simp only [World.size_alloc, World.size_drew] at s1; have hn2 : w1.heap.size ≠ b := (by omega); have R1 := hide (((R.out.alloc _).alloc _).drew.of_block (hg1.block b (by simp; omega) (by simp [h2]))); have RR := hide (((row0 w).alloc _).drew.of_block (hg1.block w.heap.size (by simp; omega) (by simp; omega))); have RZ := hide ((row0n w _).drew.of_block (hg1.block (w.heap.size + 1) (by simp) (by simp; omega))); have T1 := hide ((((Touch.refl w (fun k => k = b ∨ k = bw)).alloc _).alloc _).drew.trans' (Touch.of_grown hg1) (fun k _ h => .inr (by simpa using h))); have d0 : w1.cell? ⟨b, 0, none⟩ = some (.int .i64 hand) := R1.out.cell (i := 0) (by omega); have d2 : w1.cell? ⟨b, 2, none⟩ = some (.int .i64 st) := R1.out.cell (i := 2) (by omega); have z0 : w1.cell? ⟨w.heap.size + 1, 0, none⟩ = some (.int .i64 0) := RZ.out.cell (i := 0) (by omega); have zf0 := RZ.out.frozen 0; have z1 : w1.cell? ⟨w.heap.size + 1, 1, none⟩ = some (.int .i64 0) := RZ.out.cell (i := 1) (by omega); have zf1 := RZ.out.frozen 1; have z2 : w1.cell? ⟨w.heap.size + 1, 2, none⟩ = some (.int .i64 0) := RZ.out.cell (i := 2) (by omega); have zf2 := RZ.out.frozen 2; have z3 : w1.cell? ⟨w.heap.size + 1, 3, none⟩ = some (.int .u64 0) := RZ.out.cell (i := 3) (by omega); have zf3 := RZ.out.frozen 3; have z4 : w1.cell? ⟨w.heap.size + 1, 4, none⟩ = some (.int .u64 0) := RZ.out.cell (i := 4) (by omega); have zf4 := RZ.out.frozen 4; have z5 : w1.cell? ⟨w.heap.size + 1, 5, none⟩ = some (.bool false) := RZ.out.cell (i := 5) (by omega); have zf5 := RZ.out.frozen 5; clear hm1 hg1) | (go_at_call 101; refine (do_mem ((M.out.alloc _).drew) ⟨hand, 1, st, 0, 0, true⟩ HW.out).mono ?_; rintro e w1 ⟨rfl, hm1, hg1⟩; rw [HX.out]; rw [HF.out] at hm1; simp only [Stp.val]; have M1 := hide hm1; have s1 := hg1.size; simp only [World.size_alloc, World.size_drew] at s1; have hn2 : w1.heap.size ≠ b := (by omega); have R1 := hide ((R.out.alloc _).drew.of_block (hg1.block b (by simp; omega) (by simp [h2]))); have RR := hide ((row0 w).drew.of_block (hg1.block w.heap.size (by simp) (by simp; omega))); have T1 := hide (((Touch.refl w (fun k => k = b ∨ k = bw)).alloc _).drew.trans' (Touch.of_grown hg1) (fun k _ h => .inr (by simpa using h))); have d0 : w1.cell? ⟨b, 0, none⟩ = some (.int .i64 hand) := R1.out.cell (i := 0) (by omega); have d2 : w1.cell? ⟨b, 2, none⟩ = some (.int .i64 st) := R1.out.cell (i := 2) (by omega); clear hm1 hg1))
  all_goals have l1 : b < w1.heap.size := by omega
  all_goals have l2 : w.heap.size < w1.heap.size := by omega
  all_goals have hn3 : w.heap.size ≠ b := by omega
  all_goals clear c0 d0 c2 d2
  all_goals have d5 : w1.cell? ⟨b, 5, none⟩ = some (.bool t.ok) := R1.out.cell (i := 5) (by omega)
  all_goals have df5 := R1.out.frozen 5
  all_goals have d6 : w1.cell? ⟨b, 6, none⟩ = some (.int .u64 t.val) := R1.out.cell (i := 6) (by omega)
  all_goals have df6 := R1.out.frozen 6
  all_goals have r0 : w1.cell? ⟨w.heap.size, 0, none⟩ = some (.int .i64 0) := RR.out.cell (i := 0) (by omega)
  all_goals have rf0 := RR.out.frozen 0
  all_goals have r1 : w1.cell? ⟨w.heap.size, 1, none⟩ = some (.int .i64 0) := RR.out.cell (i := 1) (by omega)
  all_goals have rf1 := RR.out.frozen 1
  all_goals have r2 : w1.cell? ⟨w.heap.size, 2, none⟩ = some (.int .i64 0) := RR.out.cell (i := 2) (by omega)
  all_goals have rf2 := RR.out.frozen 2
  all_goals have r3 : w1.cell? ⟨w.heap.size, 3, none⟩ = some (.int .u64 0) := RR.out.cell (i := 3) (by omega)
  all_goals have rf3 := RR.out.frozen 3
  all_goals have r4 : w1.cell? ⟨w.heap.size, 4, none⟩ = some (.int .u64 0) := RR.out.cell (i := 4) (by omega)
  all_goals have rf4 := RR.out.frozen 4
  all_goals have r5 : w1.cell? ⟨w.heap.size, 5, none⟩ = some (.bool false) := RR.out.cell (i := 5) (by omega)
  all_goals have rf5 := RR.out.frozen 5

  all_goals go_wp2_with fail
  all_goals go_light
  all_goals
    refine bodyPost_ret (v := .tuple #[x.val, .int .i64 1]) ?res rfl ⟨rfl, ?row, ?mem, ?tch⟩
    case row =>
      refine World.rowIs.congr ?_ (fun i hi => on_told hand kind st ct line t (x.had == 2) x.had i hi)
      repeat (first | (with_reducible apply World.rowIs.alloc) | (with_reducible apply World.rowIs.drew) | (with_reducible refine World.rowIs.setOther ?_ ?side _; case side => (simp; omega)))
      with_reducible refine World.rowIs.set ?_ 6 _
      repeat (first | (with_reducible apply World.rowIs.alloc) | (with_reducible apply World.rowIs.drew) | (with_reducible refine World.rowIs.setOther ?_ ?side _; case side => (simp; omega)))
      with_reducible refine World.rowIs.set ?_ 5 _
      repeat (first | (with_reducible apply World.rowIs.alloc) | (with_reducible apply World.rowIs.drew) | (with_reducible refine World.rowIs.setOther ?_ ?side _; case side => (simp; omega)))
      with_reducible exact R1.out
    case mem =>
      repeat (first | (with_reducible apply IsMem.alloc) | (with_reducible apply IsMem.drew) | ((with_reducible refine IsMem.setOther ?_ ?_ ?_ _); rotate_left; (simp; omega); (simp; omega)))
      with_reducible exact M1.out
    case tch =>
      repeat (first | (with_reducible apply Touch.alloc) | (with_reducible apply Touch.drew) | (with_reducible refine Touch.setCell ?_ _ ?side _; case side => simp))
      with_reducible exact T1.out
    case res => simp [results, Try.results100, go_sem, Stp.val, *]

theorem on_ans {w : World} {b : Nat} {hand kind st ct line : Int} {t : Ans} (h : w.rowIs b 137 7 (onC hand kind st ct line t)) :
    Calls Try.prog 94 #[.pointer (some ⟨b, 0, none⟩)] w fun e w' => e = .returned t.value ∧ w.grownBy w' none := by
  obtain ⟨ok, val⟩ := t
  have h6 : w.cell? ⟨b, 5, none⟩ = some (.bool ok) := h.cell (i := 5) (by omega)
  have h7 : w.cell? ⟨b, 6, none⟩ = some (.int .u64 val) := h.cell (i := 6) (by omega)
  have hl := h.lt
  go_enter Try.func94, Try.ntmps94
  go_wp2
  go_light
  refine bodyPost_ret (v := Ans.value ⟨ok, val⟩) ?_ rfl ⟨rfl, grown_alloc (grown_refl _ _) _⟩
  simp [results, Try.results94, go_sem, Ans.value]

end Once
end Go.Proofs.Ytpghfebnggoacaa

/-
  A region that draws its order: it reads by a table, makes one call and writes one variable made ahead of it with what the call told.
-/
namespace Go.Proofs.Ytpghfebnggoacaa
open Go.RowKit
set_option linter.unusedVariables false
set_option linter.unusedSimpArgs false
set_option linter.unnecessarySimpa false

namespace RetC
open RetN (pv D)

structure In (ks : List (Nat × Nat)) (vals : Nat → Value) (kc sc : Nat) (vc : Value) (WI : Bool → World → Prop) (a0 : Act) (E iE : Nat) (ls : List Value) (L : Nat → Bool) (a : Act) (w : World) : Prop where
  sz : a.tmps.size = a0.tmps.size
  df : a.defers = a0.defers
  fix : ∀ k, ¬ D ks k → k ≠ sc → a.eval (.tmp k) = a0.eval (.tmp k)
  pure : ∀ i d v, pv ks vals i = some (d, v) → L i = true → a.eval (.tmp d) = v
  call : L kc = true → a.eval (.tmp sc) = vc
  dep : L iE = true → L kc = true
  world : WI (L kc) w
  tE : w.there E 0 ls.length
  sE : L iE = true → w.rangeAt E 0 ls

theorem region {P : Program} {id : Nat} {ops : Array Oper} {Q : Exit → Act → World → Prop} {ks : List (Nat × Nat)} {vals : Nat → Value} {w0 : World} {a0 : Act} {kc sc : Nat} {vc : Value} {WI : Bool → World → Prop} {E iE : Nat} {ls : List Value}
    (hm : P.follows .mixedOrders = true) (hg : ∀ (i : Nat) (o : Oper), ops[i]? = some o → o.guard = none) (hback : ∀ (i : Nat) (o : Oper), ops[i]? = some o → ∀ e ∈ o.after, Region.binds .any e = true → e.on < i)
    (hgood : (ks.all fun p => (ks.all fun q => p.1 == q.1 || p.2 != q.2) && (p.1 != kc && p.1 != iE && p.2 != sc)) = true) (hki : kc ≠ iE) (hD : ∀ k, D ks k → k < a0.tmps.size) (hsc : sc < a0.tmps.size)
    (hs : ∀ u ∈ ls, u.oneCell' = true) (tE : w0.there E 0 ls.length) (hW0 : WI false { w0 with drawn := w0.drawn + 1 }) (hWE : ∀ w, WI true w → WI true (w.setCells E 0 ls))
    (kinds : ∀ (i : Nat) (o : Oper), ops[i]? = some o →
      (∃ d v, pv ks vals i = some (d, v) ∧ o.dst = some d ∧ ∀ L a w, In ks vals kc sc vc WI a0 E iE ls L a w → (∀ e ∈ o.after, Region.binds .any e = true → L e.on = true) → (execOp a.eval o).run P w = .ok (.value v) w) ∨
      (i = kc ∧ o.dst = some sc ∧ ∀ L a w (K : Act → World → Prop), In ks vals kc sc vc WI a0 E iE ls L a w → L kc = false → (∀ e ∈ o.after, Region.binds .any e = true → L e.on = true) → (∀ w', WI true w' → w'.there E 0 ls.length → K (a.put (some sc) vc) w') → o.wp P a w K Q) ∨
      (i = iE ∧ o.dst = none ∧ ∃ ty x y, o.op = .store ty x y ∧ (P.info? ty).map (·.size) = some ls.length ∧ ∀ L a w, In ks vals kc sc vc WI a0 E iE ls L a w → (∀ e ∈ o.after, Region.binds .any e = true → L e.on = true) → a.eval x = .pointer (some ⟨E, 0, none⟩) ∧ a.eval y = .agg ls.toArray ∧ L kc = true))
    (fin : ∀ L a w, In ks vals kc sc vc WI a0 E iE ls L a w → (∀ i, i < ops.size → L i = true) → Q .normal a w) :
    (Code.region id ops true).wp P Q a0 w0 := by
  simp only [Bool.and_eq_true, List.all_eq_true, bne_iff_ne, Bool.or_eq_true, beq_iff_eq] at hgood
  have pvm : ∀ {i d v}, pv ks vals i = some (d, v) → (i, d) ∈ ks := fun {i d v} h => by
    obtain ⟨d', h1, h2⟩ := Option.map_eq_some_iff.1 h
    cases h2; exact Reg.look_mem h1
  refine region_inv hm hg hback (fun L a w => In ks vals kc sc vc WI a0 E iE ls L a w) ?step (fun L a w h hall => fin L a w h hall) ?start
  case start => exact ⟨rfl, rfl, fun _ _ _ => rfl, fun _ _ _ _ h => (by cases h), fun h => (by cases h), fun h => (by cases h), hW0, tE, fun h => (by cases h)⟩
  case step =>
    rintro L a w i o h ho hL hd
    rcases kinds i o ho with ⟨d, v, hv, hdst, hrun⟩ | ⟨rfl, hdst, hcall⟩ | ⟨rfl, hdst, ty, x, y, hop, hsz, hev⟩
    · refine wp_value (hrun L a w h hd) ?_
      rw [hdst]
      have hm' := pvm hv
      obtain ⟨hap, ⟨hnC, hnE⟩, hns⟩ := hgood _ hm'
      have hDd : D ks d := by simp only [D, List.any_eq_true, beq_iff_eq]; exact ⟨_, hm', rfl⟩
      have e : ∀ k : Nat, k ≠ d → (a.put (some d) v).eval (.tmp k) = a.eval (.tmp k) := fun k hk => put_other hk
      have uc : upd L i true kc = L kc := upd_other _ _ (Ne.symm hnC)
      have uE : upd L i true iE = L iE := upd_other _ _ (Ne.symm hnE)
      refine ⟨by rw [put_size]; exact h.sz, by rw [put_defs]; exact h.df, fun k hk hk2 => ?_, fun j d' v' hj hLj => ?_, fun h1 => ?_, by rw [uc, uE]; exact h.dep, by rw [uc]; exact h.world, h.tE, by rw [uE]; exact h.sE⟩
      · rw [e k (fun he => hk (he ▸ hDd))]; exact h.fix k hk hk2
      · by_cases hij : j = i
        · subst hij
          rw [hv] at hj; cases hj
          exact put_eval (by rw [h.sz]; exact hD _ hDd)
        · rw [upd_other _ _ hij] at hLj
          have : d' ≠ d := by
            rcases hap _ (pvm hj) with e1 | e1
            · exact absurd e1.symm hij
            · exact Ne.symm e1
          rw [e d' this]
          exact h.pure j d' v' hj hLj
      · rw [uc] at h1
        rw [e sc (Ne.symm hns)]
        exact h.call h1
    · refine hcall L a w _ h hL hd (fun w' hW ht => ?_)
      have e : ∀ k : Nat, k ≠ sc → (a.put (some sc) vc).eval (.tmp k) = a.eval (.tmp k) := fun k hk => put_other hk
      have nE : L iE = false := by
        cases hE : L iE with
        | false => rfl
        | true => exact absurd (h.dep hE) (by rw [hL]; decide)
      refine ⟨by rw [put_size]; exact h.sz, by rw [put_defs]; exact h.df, fun k hk hk2 => by rw [e k hk2]; exact h.fix k hk hk2, fun j d' v' hj hLj => ?_, fun _ => put_eval (by rw [h.sz]; exact hsc), fun _ => upd_same _ _ _, by rw [upd_same]; exact hW, ht, fun h1 => ?_⟩
      · obtain ⟨_, ⟨hnC, hnE⟩, hns⟩ := hgood _ (pvm hj)
        rw [upd_other _ _ hnC] at hLj
        rw [e d' hns]
        exact h.pure j d' v' hj hLj
      · rw [upd_other _ _ (Ne.symm hki), nE] at h1
        cases h1
    · obtain ⟨px, py, hk⟩ := hev L a w h hd
      refine wp_store_mid ty x y hop E 0 ls.toArray px py (by simpa using h.tE) (by simpa using hsz) (all_oneCell_toArray hs) ?_
      rw [hdst]
      have sm := World.rangeAt_setCells_same w E 0 ls h.tE
      have nk : ∀ {j d v}, pv ks vals j = some (d, v) → j ≠ i := fun {j d v} hj => (hgood _ (pvm hj)).2.1.2
      have uc : upd L i true kc = L kc := upd_other _ _ hki
      have hw := h.world
      rw [hk] at hw
      exact ⟨h.sz, h.df, h.fix, fun j d' v' hj hLj => h.pure j d' v' hj (by rwa [upd_other _ _ (nk hj)] at hLj), fun _ => h.call hk, fun _ => by rw [uc]; exact hk, by rw [uc, hk]; exact hWE _ hw, World.there_setCells h.tE _ _ _, fun _ => sm⟩
end RetC

theorem call6 {ev : Operand → Value} {o : Oper} {w : World} {f : FuncId} {x0 x1 x2 x3 x4 x5 : Operand} {ts : Array TypeId} {v0 v1 v2 v3 v4 v5 : Value} (ho : o.op = Op.call { callee := Callee.value (Operand.func f), args := #[x0, x1, x2, x3, x4, x5], argTypes := ts }) (h0 : ev x0 = v0) (h1 : ev x1 = v1) (h2 : ev x2 = v2) (h3 : ev x3 = v3) (h4 : ev x4 = v4) (h5 : ev x5 = v5) (hf : ev (Operand.func f) = .func (.func f) #[] #[]) (hcf : (callFunc f #[v0, v1, v2, v3, v4, v5]).run Try.prog w = .ok (.enter f #[v0, v1, v2, v3, v4, v5]) w) :
    (execOp ev o).run Try.prog w = .ok (.enter f #[v0, v1, v2, v3, v4, v5]) w := by
  simp [execOp, ho, h0, h1, h2, h3, h4, h5, hf, resolve, invoke, go_sem, hcf]
theorem callDo (args : Array Value) (w : World) : (callFunc 101 args).run Try.prog w = .ok (.enter 101 args) w := by simp [go_sem]
theorem ex_nil {ev : Operand → Value} {o : Oper} {w : World} {x : Operand} {a : Addr} (ho : o.op = .nilCheck x) (hx : ev x = .pointer (some a)) : (execOp ev o).run Try.prog w = .ok (.value (.pointer (some a))) w := by
  simp [execOp, ho, hx, go_sem]
end Go.Proofs.Ytpghfebnggoacaa

/-
  The tasks of once: what Step does, where the task is written ahead of the act.
-/
namespace Go.Proofs.Ytpghfebnggoacaa
open Go.RowKit
set_option linter.unusedVariables false
set_option linter.unusedSimpArgs false
set_option maxRecDepth 20000
namespace Once

theorem fieldO0 (w : World) (b : Nat) : (Instr.fieldAt 137 (.pointer (some ⟨b, 0, none⟩)) 0).run Try.prog w = .ok (.pointer (some ⟨b, 0, none⟩)) w := by simp [go_sem]
theorem fieldO2 (w : World) (b : Nat) : (Instr.fieldAt 137 (.pointer (some ⟨b, 0, none⟩)) 2).run Try.prog w = .ok (.pointer (some ⟨b, 2, none⟩)) w := by simp [go_sem]
theorem fieldO3 (w : World) (b : Nat) : (Instr.fieldAt 137 (.pointer (some ⟨b, 0, none⟩)) 3).run Try.prog w = .ok (.pointer (some ⟨b, 3, none⟩)) w := by simp [go_sem]
theorem aggI (w : World) : (isAgg 3).run Try.prog w = .ok false w := by simp [go_sem]

set_option maxHeartbeats 4000000 in
theorem add_goes {w : World} {b bm bw n : Nat} {f f' : Nat → Int} {x : Stp} {hand kind st ct line : Int} {t : Ans} (h : w.rowIs b 137 7 (onC hand kind st ct line t)) (hm : IsMem w bm bw n f) (h1 : b ≠ bm) (h2 : b ≠ bw) 
    (hx : stepOf n f ⟨hand, 4, ct, 0, 1, true⟩ = x) (hf' : wordsOf n f ⟨hand, 4, ct, 0, 1, true⟩ = f') :
    Calls Try.prog 97 #[.pointer (some ⟨b, 0, none⟩), .pointer (some ⟨bm, 0, none⟩)] w fun e w' => e = .returned (.tuple #[x.val, .int .i64 0]) ∧
      w'.rowIs b 137 7 (onC hand kind st ct 3 t) ∧ IsMem w' bm bw n f' ∧ Touch w w' (fun k => k = b ∨ k = bw) := by
  have c0 : w.cell? ⟨b, 0, none⟩ = some (.int .i64 hand) := h.cell (i := 0) (by omega)
  have c3 : w.cell? ⟨b, 3, none⟩ = some (.int .i64 ct) := h.cell (i := 3) (by omega)
  have c4 : w.cell? ⟨b, 4, none⟩ = some (.int .i64 line) := h.cell (i := 4) (by omega)
  have fz4 := h.frozen 4
  have hl := h.lt
  have lw := hm.row.lt
  have lm := hm.head.lt
  have hn3 : w.heap.size ≠ b := by omega
  have hn4 : w.heap.size ≠ bw := by omega
  have hn5 : w.heap.size ≠ bm := by omega
  obtain ⟨W1, hW1⟩ : ∃ W1, ((w.setCell ⟨b, 4, none⟩ (.int .i64 3)).alloc (.cells #[.int .i64 0, .int .i64 0, .int .i64 0, .int .u64 0, .int .u64 0, .bool false] 73)) = W1 := ⟨_, rfl⟩
  have R := hide (show W1.rowIs b 137 7 (onC hand kind st ct 3 t) from by
    rw [← hW1]
    refine World.rowIs.congr ?_ (fun i hi => on_line hand kind st ct line t 3 i hi)
    repeat (first | (with_reducible refine World.rowIs.set ?_ _ _) | (with_reducible apply World.rowIs.alloc))
    exact h)
  have M := hide (show IsMem W1 bm bw n f from by
    rw [← hW1]
    repeat (first | (with_reducible apply IsMem.alloc) | ((with_reducible refine IsMem.setOther ?_ ?_ ?_ _); rotate_left; (simp; omega); (simp; omega)))
    exact hm)
  have RZ := hide (show W1.rowIs w.heap.size 73 6 zcell from by
    rw [← hW1]
    have := row0 (w.setCell ⟨b, 4, none⟩ (.int .i64 3))
    simpa using this)
  have T0 := hide (show Touch w W1 (fun k => k = b ∨ k = bw) from by
    rw [← hW1]
    repeat (first | (with_reducible apply Touch.alloc) | (with_reducible refine Touch.setCell ?_ _ ?side _; case side => simp))
    exact Touch.refl w _)
  have sz : W1.heap.size = w.heap.size + 1 := by rw [← hW1]; simp
  have HX := hide hx
  have HF := hide hf'
  have HW : Hid (0 ≤ (⟨hand, 4, ct, 0, 1, true⟩ : Stp).put ∧ (⟨hand, 4, ct, 0, 1, true⟩ : Stp).put ≤ 18446744073709551615) := ⟨by show (0 : Int) ≤ 1; decide, by show (1 : Int) ≤ 18446744073709551615; decide⟩
  clear hm h hx hf'

  have p0 : W1.cell? ⟨b, 0, none⟩ = some (.int .i64 hand) := R.out.cell (i := 0) (by omega)
  have p3 : W1.cell? ⟨b, 3, none⟩ = some (.int .i64 ct) := R.out.cell (i := 3) (by omega)
  go_enter Try.func97, Try.ntmps97
  go_wp2_with fail
  clear hW1 c0 c3 c4 fz4
  obtain ⟨dS, hdS1, hdS2⟩ := row46
  have HD := hide (And.intro hdS1 hdS2)
  have tE : W1.there w.heap.size 0 6 := rowIs.there RZ.out (by omega)
  refine RetC.region (ks := [(0, 9), (1, 10), (2, 11), (3, 12), (4, 13), (5, 14), (6, 15), (7, 16), (8, 17), (11, 5)]) (vals := fun i => match i with
      | 0 => .pointer (some ⟨bm, 0, none⟩)
      | 4 => .int .i64 hand
      | 7 => .pointer (some ⟨b, 3, none⟩)
      | 8 => .int .i64 ct
      | 11 => .int .i64 0
      | _ => .pointer (some ⟨b, 0, none⟩)) (kc := 9) (sc := 18) (vc := .agg #[Value.int .i64 x.hand, .int .i64 x.act, .int .i64 x.at_, .int .u64 x.had, .int .u64 x.put, .bool x.ok])
      (WI := fun d w' => w'.rowIs b 137 7 (onC hand kind st ct 3 t) ∧ IsMem w' bm bw n (if d = true then f' else f) ∧ Touch W1 w' (fun k => k = bw ∨ k = w.heap.size))
      (E := w.heap.size) (iE := 10) (ls := [Value.int .i64 x.hand, .int .i64 x.act, .int .i64 x.at_, .int .u64 x.had, .int .u64 x.put, .bool x.ok]) (by kernel_rfl) ?gg ?bk rfl (by decide) ?dd (by simp) (by simp [Value.oneCell']) tE ?w0 ?we ?kinds ?fin
  case gg =>
    intro i o ho
    have hi : i < 12 := by have := (Array.getElem?_eq_some_iff.1 ho).1; simpa using this
    match i, hi with
    | 0, _ | 1, _ | 2, _ | 3, _ | 4, _ | 5, _ | 6, _ | 7, _ | 8, _ | 9, _ | 10, _ | 11, _ => injection ho with ho; subst ho; rfl
  case bk =>
    intro i o ho
    have hi : i < 12 := by have := (Array.getElem?_eq_some_iff.1 ho).1; simpa using this
    match i, hi with
    | 0, _ | 1, _ | 2, _ | 3, _ | 4, _ | 5, _ | 6, _ | 7, _ | 8, _ | 9, _ | 10, _ | 11, _ => injection ho with ho; subst ho; simp [Region.binds]
  case dd =>
    intro k hk
    have hk' : k < 19 := by
      simp [RetN.D] at hk
      omega
    simpa using hk'
  case w0 => exact ⟨R.out.drew, M.out.drew, (Touch.refl W1 _).drew⟩
  case we =>
    rintro w' ⟨q1, q2, q3⟩
    have tt := touch_setCells w.heap.size [Value.int .i64 x.hand, .int .i64 x.act, .int .i64 x.at_, .int .u64 x.had, .int .u64 x.put, .bool x.ok] 0 w'
    exact ⟨q1.of_block (tt.block _ q1.lt (by omega)), ⟨q2.head.of_block (tt.block _ q2.head.lt (by omega)), q2.row.of_block (tt.block _ q2.row.lt (by omega)), q2.most, q2.word⟩, q3.trans' tt (fun k _ h => .inr h)⟩
  case kinds =>
    intro i o ho
    have hi : i < 12 := by have := (Array.getElem?_eq_some_iff.1 ho).1; simpa using this
    match i, hi with
    | 0, _ => injection ho with ho; subst ho; exact .inl ⟨9, _, rfl, rfl, fun L a w' hI hd => ex_move rfl (hI.fix 1 (Reg.notD rfl) (by decide))⟩
    | 1, _ => injection ho with ho; subst ho; exact .inl ⟨10, _, rfl, rfl, fun L a w' hI hd => ex_move rfl (hI.fix 0 (Reg.notD rfl) (by decide))⟩
    | 2, _ => injection ho with ho; subst ho; exact .inl ⟨11, _, rfl, rfl, fun L a w' hI hd => ex_nil rfl (hI.pure 1 _ _ rfl (hd ⟨1, .data⟩ (by simp) rfl))⟩
    | 3, _ => injection ho with ho; subst ho; exact .inl ⟨12, _, rfl, rfl, fun L a w' hI hd => ex_field rfl (hI.pure 2 _ _ rfl (hd ⟨2, .data⟩ (by simp) rfl)) (fieldO0 w' _)⟩
    | 4, _ => injection ho with ho; subst ho; exact .inl ⟨13, _, rfl, rfl, fun L a w' hI hd => ex_load rfl (hI.pure 3 _ _ rfl (hd ⟨3, .data⟩ (by simp) rfl)) (aggI w') (hI.world.1.cell (i := 0) (by omega))⟩
    | 5, _ => injection ho with ho; subst ho; exact .inl ⟨14, _, rfl, rfl, fun L a w' hI hd => ex_move rfl (hI.fix 0 (Reg.notD rfl) (by decide))⟩
    | 6, _ => injection ho with ho; subst ho; exact .inl ⟨15, _, rfl, rfl, fun L a w' hI hd => ex_nil rfl (hI.pure 5 _ _ rfl (hd ⟨5, .data⟩ (by simp) rfl))⟩
    | 7, _ => injection ho with ho; subst ho; exact .inl ⟨16, _, rfl, rfl, fun L a w' hI hd => ex_field rfl (hI.pure 6 _ _ rfl (hd ⟨6, .data⟩ (by simp) rfl)) (fieldO3 w' _)⟩
    | 8, _ => injection ho with ho; subst ho; exact .inl ⟨17, _, rfl, rfl, fun L a w' hI hd => ex_load rfl (hI.pure 7 _ _ rfl (hd ⟨7, .data⟩ (by simp) rfl)) (aggI w') (hI.world.1.cell (i := 3) (by omega))⟩
    | 9, _ => injection ho with ho; subst ho; exact .inr (.inl ⟨rfl, rfl, fun L a w' K hI hL hd hk => wp_call (f := 101) (call6 rfl (hI.pure 0 _ _ rfl (hd ⟨0, .data⟩ (by simp) rfl)) (hI.pure 4 _ _ rfl (hd ⟨4, .data⟩ (by simp) rfl)) rfl (hI.pure 8 _ _ rfl (hd ⟨8, .data⟩ (by simp) rfl)) rfl rfl rfl (callDo _ _)) (by
        have hI2 := hI.world
        rw [hL, if_neg (by decide)] at hI2
        refine (do_mem hI2.2.1 ⟨hand, 4, ct, 0, 1, true⟩ HW.out).mono ?_
        rintro e w1 ⟨rfl, hm1, hg1⟩
        rw [HX.out]
        rw [HF.out] at hm1
        have l1 := hI2.2.2.size
        exact ⟨_, rfl, hk w1 ⟨hI2.1.of_block (hg1.block b (by omega) (by simp [h2])), by rw [if_pos rfl]; exact hm1, hI2.2.2.trans' (Touch.of_grown hg1) (fun k _ h => .inl (by simpa using h))⟩ (there_block hI.tE (hg1.block w.heap.size (by omega) (by simp; omega)))⟩)⟩)
    | 10, _ => injection ho with ho; subst ho; exact .inr (.inr ⟨rfl, rfl, _, _, _, rfl, size46, fun L a w' hI hd => ⟨hI.fix 4 (Reg.notD rfl) (by decide), hI.call (hd ⟨9, .data⟩ (by simp) rfl), hd ⟨9, .data⟩ (by simp) rfl⟩⟩)
    | 11, _ => injection ho with ho; subst ho; exact .inl ⟨5, _, rfl, rfl, fun L a w' hI hd => ex_assign rfl rfl⟩
  case fin =>
    intro L a' w' hI hall
    rename_i K2 hK2
    refine hK2 _ _ ?_
    have rE := hI.sE (hall 10 (by decide))
    have pE : a'.eval (.tmp 4) = .pointer (some ⟨w.heap.size, 0, none⟩) := hI.fix 4 (Reg.notD rfl) (by decide)
    have pe : a'.eval (.tmp 5) = .int .i64 0 := hI.pure 11 5 _ rfl (hall 11 (by decide))
    have hw := hI.world
    rw [hall 9 (by decide), if_pos rfl] at hw
    have hdf : a'.defers = [] := hI.df
    have hS := run_loadVar_mid (P := Try.prog) w' w.heap.size 0 _ _ dS rE HD.out.1 HD.out.2 size46
    have hres := results_ct (Q := Try.prog) (fn := Try.f97) (tmps := a'.tmps) (t := 4) (t' := 5) (W := w') (by rfl) pE hS
    rw [show a'.tmps.getD 5 undef = .int .i64 0 from pe] at hres
    go_wp2
    exact bodyPost_ret (v := .tuple #[x.val, .int .i64 0]) hres hdf ⟨rfl, hw.1, hw.2.1, T0.out.trans' hw.2.2 (fun k hk h => by rcases h with h | h; exact .inr h; omega)⟩

set_option maxHeartbeats 4000000 in
theorem finish_ends {w : World} {b bm bw n : Nat} {f f' : Nat → Int} {x : Stp} {hand kind st ct line : Int} {t : Ans} (h : w.rowIs b 137 7 (onC hand kind st ct line t)) (hm : IsMem w bm bw n f) (h1 : b ≠ bm) (h2 : b ≠ bw) 
    (hx : stepOf n f ⟨hand, 2, st, 0, 2, true⟩ = x) (hf' : wordsOf n f ⟨hand, 2, st, 0, 2, true⟩ = f') :
    Calls Try.prog 98 #[.pointer (some ⟨b, 0, none⟩), .pointer (some ⟨bm, 0, none⟩)] w fun e w' => e = .returned (.tuple #[x.val, .int .i64 1]) ∧
      w'.rowIs b 137 7 (onC hand kind st ct line ⟨kind == 1, 1⟩) ∧ IsMem w' bm bw n f' ∧ Touch w w' (fun k => k = b ∨ k = bw) := by
  have c0 : w.cell? ⟨b, 0, none⟩ = some (.int .i64 hand) := h.cell (i := 0) (by omega)
  have c1 : w.cell? ⟨b, 1, none⟩ = some (.int .i64 kind) := h.cell (i := 1) (by omega)
  have c2 : w.cell? ⟨b, 2, none⟩ = some (.int .i64 st) := h.cell (i := 2) (by omega)
  have c5 : w.cell? ⟨b, 5, none⟩ = some (.bool t.ok) := h.cell (i := 5) (by omega)
  have c6 : w.cell? ⟨b, 6, none⟩ = some (.int .u64 t.val) := h.cell (i := 6) (by omega)
  have fz5 := h.frozen 5
  have fz6 := h.frozen 6
  have hl := h.lt
  have lw := hm.row.lt
  have lm := hm.head.lt
  have hn3 : w.heap.size ≠ b := by omega
  have hn4 : w.heap.size ≠ bw := by omega
  have hn5 : w.heap.size ≠ bm := by omega
  obtain ⟨W1, hW1⟩ : ∃ W1, (((w.setCell ⟨b, 5, none⟩ (.bool (kind == 1))).setCell ⟨b, 6, none⟩ (.int .u64 1)).alloc (.cells #[.int .i64 0, .int .i64 0, .int .i64 0, .int .u64 0, .int .u64 0, .bool false] 73)) = W1 := ⟨_, rfl⟩
  have R := hide (show W1.rowIs b 137 7 (onC hand kind st ct line ⟨kind == 1, 1⟩) from by
    rw [← hW1]
    refine World.rowIs.congr ?_ (fun i hi => on_told hand kind st ct line t (kind == 1) 1 i hi)
    repeat (first | (with_reducible refine World.rowIs.set ?_ _ _) | (with_reducible apply World.rowIs.alloc))
    exact h)
  have M := hide (show IsMem W1 bm bw n f from by
    rw [← hW1]
    repeat (first | (with_reducible apply IsMem.alloc) | ((with_reducible refine IsMem.setOther ?_ ?_ ?_ _); rotate_left; (simp; omega); (simp; omega)))
    exact hm)
  have RZ := hide (show W1.rowIs w.heap.size 73 6 zcell from by
    rw [← hW1]
    have := row0 ((w.setCell ⟨b, 5, none⟩ (.bool (kind == 1))).setCell ⟨b, 6, none⟩ (.int .u64 1))
    simpa using this)
  have T0 := hide (show Touch w W1 (fun k => k = b ∨ k = bw) from by
    rw [← hW1]
    repeat (first | (with_reducible apply Touch.alloc) | (with_reducible refine Touch.setCell ?_ _ ?side _; case side => simp))
    exact Touch.refl w _)
  have sz : W1.heap.size = w.heap.size + 1 := by rw [← hW1]; simp
  have HX := hide hx
  have HF := hide hf'
  have HW : Hid (0 ≤ (⟨hand, 2, st, 0, 2, true⟩ : Stp).put ∧ (⟨hand, 2, st, 0, 2, true⟩ : Stp).put ≤ 18446744073709551615) := ⟨by show (0 : Int) ≤ 2; decide, by show (2 : Int) ≤ 18446744073709551615; decide⟩
  clear hm h hx hf'

  have p0 : W1.cell? ⟨b, 0, none⟩ = some (.int .i64 hand) := R.out.cell (i := 0) (by omega)
  have p2 : W1.cell? ⟨b, 2, none⟩ = some (.int .i64 st) := R.out.cell (i := 2) (by omega)
  go_enter Try.func98, Try.ntmps98
  go_wp2_with fail
  clear hW1 c0 c1 c2 c5 c6 fz5 fz6
  obtain ⟨dS, hdS1, hdS2⟩ := row46
  have HD := hide (And.intro hdS1 hdS2)
  have tE : W1.there w.heap.size 0 6 := rowIs.there RZ.out (by omega)
  refine RetC.region (ks := [(0, 15), (1, 16), (2, 17), (3, 18), (4, 19), (5, 20), (6, 21), (7, 22), (8, 23), (11, 5)]) (vals := fun i => match i with
      | 0 => .pointer (some ⟨bm, 0, none⟩)
      | 4 => .int .i64 hand
      | 7 => .pointer (some ⟨b, 2, none⟩)
      | 8 => .int .i64 st
      | 11 => .int .i64 1
      | _ => .pointer (some ⟨b, 0, none⟩)) (kc := 9) (sc := 24) (vc := .agg #[Value.int .i64 x.hand, .int .i64 x.act, .int .i64 x.at_, .int .u64 x.had, .int .u64 x.put, .bool x.ok])
      (WI := fun d w' => w'.rowIs b 137 7 (onC hand kind st ct line ⟨kind == 1, 1⟩) ∧ IsMem w' bm bw n (if d = true then f' else f) ∧ Touch W1 w' (fun k => k = bw ∨ k = w.heap.size))
      (E := w.heap.size) (iE := 10) (ls := [Value.int .i64 x.hand, .int .i64 x.act, .int .i64 x.at_, .int .u64 x.had, .int .u64 x.put, .bool x.ok]) (by kernel_rfl) ?gg ?bk rfl (by decide) ?dd (by simp) (by simp [Value.oneCell']) tE ?w0 ?we ?kinds ?fin
  case gg =>
    intro i o ho
    have hi : i < 12 := by have := (Array.getElem?_eq_some_iff.1 ho).1; simpa using this
    match i, hi with
    | 0, _ | 1, _ | 2, _ | 3, _ | 4, _ | 5, _ | 6, _ | 7, _ | 8, _ | 9, _ | 10, _ | 11, _ => injection ho with ho; subst ho; rfl
  case bk =>
    intro i o ho
    have hi : i < 12 := by have := (Array.getElem?_eq_some_iff.1 ho).1; simpa using this
    match i, hi with
    | 0, _ | 1, _ | 2, _ | 3, _ | 4, _ | 5, _ | 6, _ | 7, _ | 8, _ | 9, _ | 10, _ | 11, _ => injection ho with ho; subst ho; simp [Region.binds]
  case dd =>
    intro k hk
    have hk' : k < 25 := by
      simp [RetN.D] at hk
      omega
    simpa using hk'
  case w0 => exact ⟨R.out.drew, M.out.drew, (Touch.refl W1 _).drew⟩
  case we =>
    rintro w' ⟨q1, q2, q3⟩
    have tt := touch_setCells w.heap.size [Value.int .i64 x.hand, .int .i64 x.act, .int .i64 x.at_, .int .u64 x.had, .int .u64 x.put, .bool x.ok] 0 w'
    exact ⟨q1.of_block (tt.block _ q1.lt (by omega)), ⟨q2.head.of_block (tt.block _ q2.head.lt (by omega)), q2.row.of_block (tt.block _ q2.row.lt (by omega)), q2.most, q2.word⟩, q3.trans' tt (fun k _ h => .inr h)⟩
  case kinds =>
    intro i o ho
    have hi : i < 12 := by have := (Array.getElem?_eq_some_iff.1 ho).1; simpa using this
    match i, hi with
    | 0, _ => injection ho with ho; subst ho; exact .inl ⟨15, _, rfl, rfl, fun L a w' hI hd => ex_move rfl (hI.fix 1 (Reg.notD rfl) (by decide))⟩
    | 1, _ => injection ho with ho; subst ho; exact .inl ⟨16, _, rfl, rfl, fun L a w' hI hd => ex_move rfl (hI.fix 0 (Reg.notD rfl) (by decide))⟩
    | 2, _ => injection ho with ho; subst ho; exact .inl ⟨17, _, rfl, rfl, fun L a w' hI hd => ex_nil rfl (hI.pure 1 _ _ rfl (hd ⟨1, .data⟩ (by simp) rfl))⟩
    | 3, _ => injection ho with ho; subst ho; exact .inl ⟨18, _, rfl, rfl, fun L a w' hI hd => ex_field rfl (hI.pure 2 _ _ rfl (hd ⟨2, .data⟩ (by simp) rfl)) (fieldO0 w' _)⟩
    | 4, _ => injection ho with ho; subst ho; exact .inl ⟨19, _, rfl, rfl, fun L a w' hI hd => ex_load rfl (hI.pure 3 _ _ rfl (hd ⟨3, .data⟩ (by simp) rfl)) (aggI w') (hI.world.1.cell (i := 0) (by omega))⟩
    | 5, _ => injection ho with ho; subst ho; exact .inl ⟨20, _, rfl, rfl, fun L a w' hI hd => ex_move rfl (hI.fix 0 (Reg.notD rfl) (by decide))⟩
    | 6, _ => injection ho with ho; subst ho; exact .inl ⟨21, _, rfl, rfl, fun L a w' hI hd => ex_nil rfl (hI.pure 5 _ _ rfl (hd ⟨5, .data⟩ (by simp) rfl))⟩
    | 7, _ => injection ho with ho; subst ho; exact .inl ⟨22, _, rfl, rfl, fun L a w' hI hd => ex_field rfl (hI.pure 6 _ _ rfl (hd ⟨6, .data⟩ (by simp) rfl)) (fieldO2 w' _)⟩
    | 8, _ => injection ho with ho; subst ho; exact .inl ⟨23, _, rfl, rfl, fun L a w' hI hd => ex_load rfl (hI.pure 7 _ _ rfl (hd ⟨7, .data⟩ (by simp) rfl)) (aggI w') (hI.world.1.cell (i := 2) (by omega))⟩
    | 9, _ => injection ho with ho; subst ho; exact .inr (.inl ⟨rfl, rfl, fun L a w' K hI hL hd hk => wp_call (f := 101) (call6 rfl (hI.pure 0 _ _ rfl (hd ⟨0, .data⟩ (by simp) rfl)) (hI.pure 4 _ _ rfl (hd ⟨4, .data⟩ (by simp) rfl)) rfl (hI.pure 8 _ _ rfl (hd ⟨8, .data⟩ (by simp) rfl)) rfl rfl rfl (callDo _ _)) (by
        have hI2 := hI.world
        rw [hL, if_neg (by decide)] at hI2
        refine (do_mem hI2.2.1 ⟨hand, 2, st, 0, 2, true⟩ HW.out).mono ?_
        rintro e w1 ⟨rfl, hm1, hg1⟩
        rw [HX.out]
        rw [HF.out] at hm1
        have l1 := hI2.2.2.size
        exact ⟨_, rfl, hk w1 ⟨hI2.1.of_block (hg1.block b (by omega) (by simp [h2])), by rw [if_pos rfl]; exact hm1, hI2.2.2.trans' (Touch.of_grown hg1) (fun k _ h => .inl (by simpa using h))⟩ (there_block hI.tE (hg1.block w.heap.size (by omega) (by simp; omega)))⟩)⟩)
    | 10, _ => injection ho with ho; subst ho; exact .inr (.inr ⟨rfl, rfl, _, _, _, rfl, size46, fun L a w' hI hd => ⟨hI.fix 4 (Reg.notD rfl) (by decide), hI.call (hd ⟨9, .data⟩ (by simp) rfl), hd ⟨9, .data⟩ (by simp) rfl⟩⟩)
    | 11, _ => injection ho with ho; subst ho; exact .inl ⟨5, _, rfl, rfl, fun L a w' hI hd => ex_assign rfl rfl⟩
  case fin =>
    intro L a' w' hI hall
    rename_i K2 hK2
    refine hK2 _ _ ?_
    have rE := hI.sE (hall 10 (by decide))
    have pE : a'.eval (.tmp 4) = .pointer (some ⟨w.heap.size, 0, none⟩) := hI.fix 4 (Reg.notD rfl) (by decide)
    have pe : a'.eval (.tmp 5) = .int .i64 1 := hI.pure 11 5 _ rfl (hall 11 (by decide))
    have hw := hI.world
    rw [hall 9 (by decide), if_pos rfl] at hw
    have hdf : a'.defers = [] := hI.df
    have hS := run_loadVar_mid (P := Try.prog) w' w.heap.size 0 _ _ dS rE HD.out.1 HD.out.2 size46
    have hres := results_ct (Q := Try.prog) (fn := Try.f98) (tmps := a'.tmps) (t := 4) (t' := 5) (W := w') (by rfl) pE hS
    rw [show a'.tmps.getD 5 undef = .int .i64 1 from pe] at hres
    go_wp2
    exact bodyPost_ret (v := .tuple #[x.val, .int .i64 1]) hres hdf ⟨rfl, hw.1, hw.2.1, T0.out.trans' hw.2.2 (fun k hk h => by rcases h with h | h; exact .inr h; omega)⟩

end Once
end Go.Proofs.Ytpghfebnggoacaa

/-
  The kind of once's tasks: what each does is what its abstract task says.
-/
namespace Go.Proofs.Ytpghfebnggoacaa
open Go.RowKit
set_option linter.unusedVariables false
set_option linter.unusedSimpArgs false
set_option maxRecDepth 20000
namespace Once

structure OnS where
  hand : Int
  j : Jb
  st : Int
  told : Ans

def oerr (room : Int) (j : Jb) : Int := if j.kind < 1 ∨ 3 < j.kind then 200 else if j.a < 0 ∨ room ≤ j.a then 2 else 0
def oreq (room : Int) (s : OnS) : Stp :=
  if s.j.kind = 3 then ⟨s.hand, 1, s.j.a, 0, 0, true⟩ else if s.st = 0 then ⟨s.hand, 5, s.j.a, 0, 1, true⟩ else if s.st = 1 then ⟨s.hand, 4, room + s.j.a, 0, 1, true⟩ else if s.st = 2 then ⟨s.hand, 2, s.j.a, 0, 2, true⟩ else ⟨s.hand, 1, s.j.a, 0, 0, true⟩
def oends (s : OnS) (x : Stp) : Bool := if s.j.kind = 3 then true else if s.st = 0 then false else if s.st = 1 then false else if s.st = 2 then true else x.had == 2
def onext (s : OnS) (x : Stp) : OnS :=
  if s.j.kind = 3 then { s with told := ⟨x.had == 2, x.had⟩ } else if s.st = 0 then { s with st := if x.ok = true then s.j.kind else 3 } else if s.st = 1 then { s with st := 2 } else if s.st = 2 then { s with told := ⟨s.j.kind == 1, 1⟩ }
  else if x.had = 2 then { s with told := ⟨true, 0⟩ } else s
def ocell (room : Int) (s : OnS) : Nat → Value := onC s.hand s.j.kind s.j.a (room + s.j.a) (if s.j.kind = 3 then 5 else s.st + 1) s.told

def kOnce (room : Int) : Kd where
  σ := OnS
  err := oerr room
  init h j := ⟨h, j, 0, ⟨false, 0⟩⟩
  req := oreq room
  next := onext
  ends := oends
  tell s := s.told
  tid _ := 97
  t _ := 137
  n _ := 7
  fs _ := 95
  fa _ := 94
  cell := ocell room
  wf j s := s.j = j ∧ (0 ≤ s.st ∧ s.st ≤ 3) ∧ 1 ≤ s.j.kind ∧ s.j.kind ≤ 3

theorem fine_cases {room : Int} {j : Jb} (h : (kOnce room).fine j) : (j.kind = 1 ∨ j.kind = 2 ∨ j.kind = 3) ∧ 0 ≤ j.a ∧ j.a < room := by
  have h2 : oerr room j = 0 := h.2
  unfold oerr at h2
  split at h2
  · cases h2
  · split at h2
    · cases h2
    · omega

set_option maxHeartbeats 4000000 in
theorem step_claim {w : World} {b bm bw n : Nat} {f f' : Nat → Int} {x : Stp} {v : Int} {hand kind st ct : Int} {t : Ans} {C' : Nat → Value} (h : w.rowIs b 137 7 (onC hand kind st ct 1 t)) (hm : IsMem w bm bw n f) (h1 : b ≠ bm) (h2 : b ≠ bw)
    (hc : ∀ w1 : World, w1.rowIs b 137 7 (onC hand kind st ct 1 t) → IsMem w1 bm bw n f → Calls Try.prog 96 #[.pointer (some ⟨b, 0, none⟩), .pointer (some ⟨bm, 0, none⟩)] w1 fun e w' => e = .returned (.tuple #[x.val, .int .i64 v]) ∧ w'.rowIs b 137 7 C' ∧ IsMem w' bm bw n f' ∧ Touch w1 w' (fun k => k = b ∨ k = bw)) :
    Calls Try.prog 95 #[.pointer (some ⟨b, 0, none⟩), .pointer (some ⟨bm, 0, none⟩)] w fun e w' => e = .returned (.tuple #[x.val, .int .i64 v]) ∧ w'.rowIs b 137 7 C' ∧ IsMem w' bm bw n f' ∧ Touch w w' (fun k => k = b ∨ k = bw) := by
  have c4 : w.cell? ⟨b, 4, none⟩ = some (.int .i64 1) := h.cell (i := 4) (by omega)
  have hl := h.lt
  have lw := hm.row.lt
  have lm0 := hm.head.lt
  have K0 := hide (hc (w.alloc (.cells #[.int .i64 0, .int .i64 0, .int .i64 0, .int .u64 0, .int .u64 0, .bool false] 73)) (h.alloc _) (hm.alloc _))
  have RW := hide (row0 w)
  clear h hm hc
  go_enter Try.func95, Try.ntmps95
  go_wp2_with fail
  refine K0.out.mono ?_
  rintro e w1 ⟨rfl, row1, mem1, t1⟩
  simp only [Stp.val]
  have s1 := t1.size
  simp only [World.size_alloc] at s1
  have RR := hide (RW.out.of_block (t1.block w.heap.size (by simp) (by omega)))
  have R1 := hide row1
  have M1 := hide mem1
  have T1 := hide (((Touch.refl w (fun k => k = b ∨ k = bw)).alloc (.cells #[.int .i64 0, .int .i64 0, .int .i64 0, .int .u64 0, .int .u64 0, .bool false] 73)).trans t1)
  have l2 : w.heap.size < w1.heap.size := by omega
  have hn3 : w.heap.size ≠ b := by omega
  have hn4 : w.heap.size ≠ bw := by omega
  clear row1 mem1 t1 c4
  have r0 : w1.cell? ⟨w.heap.size, 0, none⟩ = some (.int .i64 0) := RR.out.cell (i := 0) (by omega)
  have rf0 := RR.out.frozen 0
  have r1 : w1.cell? ⟨w.heap.size, 1, none⟩ = some (.int .i64 0) := RR.out.cell (i := 1) (by omega)
  have rf1 := RR.out.frozen 1
  have r2 : w1.cell? ⟨w.heap.size, 2, none⟩ = some (.int .i64 0) := RR.out.cell (i := 2) (by omega)
  have rf2 := RR.out.frozen 2
  have r3 : w1.cell? ⟨w.heap.size, 3, none⟩ = some (.int .u64 0) := RR.out.cell (i := 3) (by omega)
  have rf3 := RR.out.frozen 3
  have r4 : w1.cell? ⟨w.heap.size, 4, none⟩ = some (.int .u64 0) := RR.out.cell (i := 4) (by omega)
  have rf4 := RR.out.frozen 4
  have r5 : w1.cell? ⟨w.heap.size, 5, none⟩ = some (.bool false) := RR.out.cell (i := 5) (by omega)
  have rf5 := RR.out.frozen 5
  go_wp2_with fail
  go_light
  refine bodyPost_ret (v := .tuple #[x.val, .int .i64 v]) ?res rfl ⟨rfl, ?row, ?mem, ?tch⟩
  case row =>
    repeat (first | (with_reducible apply World.rowIs.alloc) | (with_reducible apply World.rowIs.drew) | (with_reducible refine World.rowIs.setOther ?_ ?side _; case side => (simp; omega)))
    with_reducible exact R1.out
  case mem =>
    repeat (first | (with_reducible apply IsMem.alloc) | (with_reducible apply IsMem.drew) | ((with_reducible refine IsMem.setOther ?_ ?_ ?_ _); rotate_left; (simp; omega); (simp; omega)))
    with_reducible exact M1.out
  case tch =>
    repeat (first | (with_reducible apply Touch.alloc) | (with_reducible apply Touch.drew) | (with_reducible refine Touch.setCell ?_ _ ?side _; case side => simp))
    with_reducible exact T1.out
  case res => simp [results, Try.results95, go_sem, Stp.val, *]

set_option maxHeartbeats 4000000 in
theorem step_add {w : World} {b bm bw n : Nat} {f f' : Nat → Int} {x : Stp} {v : Int} {hand kind st ct : Int} {t : Ans} {C' : Nat → Value} (h : w.rowIs b 137 7 (onC hand kind st ct 2 t)) (hm : IsMem w bm bw n f) (h1 : b ≠ bm) (h2 : b ≠ bw)
    (hc : ∀ w1 : World, w1.rowIs b 137 7 (onC hand kind st ct 2 t) → IsMem w1 bm bw n f → Calls Try.prog 97 #[.pointer (some ⟨b, 0, none⟩), .pointer (some ⟨bm, 0, none⟩)] w1 fun e w' => e = .returned (.tuple #[x.val, .int .i64 v]) ∧ w'.rowIs b 137 7 C' ∧ IsMem w' bm bw n f' ∧ Touch w1 w' (fun k => k = b ∨ k = bw)) :
    Calls Try.prog 95 #[.pointer (some ⟨b, 0, none⟩), .pointer (some ⟨bm, 0, none⟩)] w fun e w' => e = .returned (.tuple #[x.val, .int .i64 v]) ∧ w'.rowIs b 137 7 C' ∧ IsMem w' bm bw n f' ∧ Touch w w' (fun k => k = b ∨ k = bw) := by
  have c4 : w.cell? ⟨b, 4, none⟩ = some (.int .i64 2) := h.cell (i := 4) (by omega)
  have hl := h.lt
  have lw := hm.row.lt
  have lm0 := hm.head.lt
  have K0 := hide (hc (w.alloc (.cells #[.int .i64 0, .int .i64 0, .int .i64 0, .int .u64 0, .int .u64 0, .bool false] 73)) (h.alloc _) (hm.alloc _))
  have RW := hide (row0 w)
  clear h hm hc
  go_enter Try.func95, Try.ntmps95
  go_wp2_with fail
  refine K0.out.mono ?_
  rintro e w1 ⟨rfl, row1, mem1, t1⟩
  simp only [Stp.val]
  have s1 := t1.size
  simp only [World.size_alloc] at s1
  have RR := hide (RW.out.of_block (t1.block w.heap.size (by simp) (by omega)))
  have R1 := hide row1
  have M1 := hide mem1
  have T1 := hide (((Touch.refl w (fun k => k = b ∨ k = bw)).alloc (.cells #[.int .i64 0, .int .i64 0, .int .i64 0, .int .u64 0, .int .u64 0, .bool false] 73)).trans t1)
  have l2 : w.heap.size < w1.heap.size := by omega
  have hn3 : w.heap.size ≠ b := by omega
  have hn4 : w.heap.size ≠ bw := by omega
  clear row1 mem1 t1 c4
  have r0 : w1.cell? ⟨w.heap.size, 0, none⟩ = some (.int .i64 0) := RR.out.cell (i := 0) (by omega)
  have rf0 := RR.out.frozen 0
  have r1 : w1.cell? ⟨w.heap.size, 1, none⟩ = some (.int .i64 0) := RR.out.cell (i := 1) (by omega)
  have rf1 := RR.out.frozen 1
  have r2 : w1.cell? ⟨w.heap.size, 2, none⟩ = some (.int .i64 0) := RR.out.cell (i := 2) (by omega)
  have rf2 := RR.out.frozen 2
  have r3 : w1.cell? ⟨w.heap.size, 3, none⟩ = some (.int .u64 0) := RR.out.cell (i := 3) (by omega)
  have rf3 := RR.out.frozen 3
  have r4 : w1.cell? ⟨w.heap.size, 4, none⟩ = some (.int .u64 0) := RR.out.cell (i := 4) (by omega)
  have rf4 := RR.out.frozen 4
  have r5 : w1.cell? ⟨w.heap.size, 5, none⟩ = some (.bool false) := RR.out.cell (i := 5) (by omega)
  have rf5 := RR.out.frozen 5
  go_wp2_with fail
  go_light
  refine bodyPost_ret (v := .tuple #[x.val, .int .i64 v]) ?res rfl ⟨rfl, ?row, ?mem, ?tch⟩
  case row =>
    repeat (first | (with_reducible apply World.rowIs.alloc) | (with_reducible apply World.rowIs.drew) | (with_reducible refine World.rowIs.setOther ?_ ?side _; case side => (simp; omega)))
    with_reducible exact R1.out
  case mem =>
    repeat (first | (with_reducible apply IsMem.alloc) | (with_reducible apply IsMem.drew) | ((with_reducible refine IsMem.setOther ?_ ?_ ?_ _); rotate_left; (simp; omega); (simp; omega)))
    with_reducible exact M1.out
  case tch =>
    repeat (first | (with_reducible apply Touch.alloc) | (with_reducible apply Touch.drew) | (with_reducible refine Touch.setCell ?_ _ ?side _; case side => simp))
    with_reducible exact T1.out
  case res => simp [results, Try.results95, go_sem, Stp.val, *]

set_option maxHeartbeats 4000000 in
theorem step_finish {w : World} {b bm bw n : Nat} {f f' : Nat → Int} {x : Stp} {v : Int} {hand kind st ct : Int} {t : Ans} {C' : Nat → Value} (h : w.rowIs b 137 7 (onC hand kind st ct 3 t)) (hm : IsMem w bm bw n f) (h1 : b ≠ bm) (h2 : b ≠ bw)
    (hc : ∀ w1 : World, w1.rowIs b 137 7 (onC hand kind st ct 3 t) → IsMem w1 bm bw n f → Calls Try.prog 98 #[.pointer (some ⟨b, 0, none⟩), .pointer (some ⟨bm, 0, none⟩)] w1 fun e w' => e = .returned (.tuple #[x.val, .int .i64 v]) ∧ w'.rowIs b 137 7 C' ∧ IsMem w' bm bw n f' ∧ Touch w1 w' (fun k => k = b ∨ k = bw)) :
    Calls Try.prog 95 #[.pointer (some ⟨b, 0, none⟩), .pointer (some ⟨bm, 0, none⟩)] w fun e w' => e = .returned (.tuple #[x.val, .int .i64 v]) ∧ w'.rowIs b 137 7 C' ∧ IsMem w' bm bw n f' ∧ Touch w w' (fun k => k = b ∨ k = bw) := by
  have c4 : w.cell? ⟨b, 4, none⟩ = some (.int .i64 3) := h.cell (i := 4) (by omega)
  have hl := h.lt
  have lw := hm.row.lt
  have lm0 := hm.head.lt
  have K0 := hide (hc (w.alloc (.cells #[.int .i64 0, .int .i64 0, .int .i64 0, .int .u64 0, .int .u64 0, .bool false] 73)) (h.alloc _) (hm.alloc _))
  have RW := hide (row0 w)
  clear h hm hc
  go_enter Try.func95, Try.ntmps95
  go_wp2_with fail
  refine K0.out.mono ?_
  rintro e w1 ⟨rfl, row1, mem1, t1⟩
  simp only [Stp.val]
  have s1 := t1.size
  simp only [World.size_alloc] at s1
  have RR := hide (RW.out.of_block (t1.block w.heap.size (by simp) (by omega)))
  have R1 := hide row1
  have M1 := hide mem1
  have T1 := hide (((Touch.refl w (fun k => k = b ∨ k = bw)).alloc (.cells #[.int .i64 0, .int .i64 0, .int .i64 0, .int .u64 0, .int .u64 0, .bool false] 73)).trans t1)
  have l2 : w.heap.size < w1.heap.size := by omega
  have hn3 : w.heap.size ≠ b := by omega
  have hn4 : w.heap.size ≠ bw := by omega
  clear row1 mem1 t1 c4
  have r0 : w1.cell? ⟨w.heap.size, 0, none⟩ = some (.int .i64 0) := RR.out.cell (i := 0) (by omega)
  have rf0 := RR.out.frozen 0
  have r1 : w1.cell? ⟨w.heap.size, 1, none⟩ = some (.int .i64 0) := RR.out.cell (i := 1) (by omega)
  have rf1 := RR.out.frozen 1
  have r2 : w1.cell? ⟨w.heap.size, 2, none⟩ = some (.int .i64 0) := RR.out.cell (i := 2) (by omega)
  have rf2 := RR.out.frozen 2
  have r3 : w1.cell? ⟨w.heap.size, 3, none⟩ = some (.int .u64 0) := RR.out.cell (i := 3) (by omega)
  have rf3 := RR.out.frozen 3
  have r4 : w1.cell? ⟨w.heap.size, 4, none⟩ = some (.int .u64 0) := RR.out.cell (i := 4) (by omega)
  have rf4 := RR.out.frozen 4
  have r5 : w1.cell? ⟨w.heap.size, 5, none⟩ = some (.bool false) := RR.out.cell (i := 5) (by omega)
  have rf5 := RR.out.frozen 5
  go_wp2_with fail
  go_light
  refine bodyPost_ret (v := .tuple #[x.val, .int .i64 v]) ?res rfl ⟨rfl, ?row, ?mem, ?tch⟩
  case row =>
    repeat (first | (with_reducible apply World.rowIs.alloc) | (with_reducible apply World.rowIs.drew) | (with_reducible refine World.rowIs.setOther ?_ ?side _; case side => (simp; omega)))
    with_reducible exact R1.out
  case mem =>
    repeat (first | (with_reducible apply IsMem.alloc) | (with_reducible apply IsMem.drew) | ((with_reducible refine IsMem.setOther ?_ ?_ ?_ _); rotate_left; (simp; omega); (simp; omega)))
    with_reducible exact M1.out
  case tch =>
    repeat (first | (with_reducible apply Touch.alloc) | (with_reducible apply Touch.drew) | (with_reducible refine Touch.setCell ?_ _ ?side _; case side => simp))
    with_reducible exact T1.out
  case res => simp [results, Try.results95, go_sem, Stp.val, *]

set_option maxHeartbeats 4000000 in
theorem step_await {w : World} {b bm bw n : Nat} {f f' : Nat → Int} {x : Stp} {v : Int} {hand kind st ct : Int} {t : Ans} {C' : Nat → Value} (h : w.rowIs b 137 7 (onC hand kind st ct 4 t)) (hm : IsMem w bm bw n f) (h1 : b ≠ bm) (h2 : b ≠ bw)
    (hc : ∀ w1 : World, w1.rowIs b 137 7 (onC hand kind st ct 4 t) → IsMem w1 bm bw n f → Calls Try.prog 99 #[.pointer (some ⟨b, 0, none⟩), .pointer (some ⟨bm, 0, none⟩)] w1 fun e w' => e = .returned (.tuple #[x.val, .int .i64 v]) ∧ w'.rowIs b 137 7 C' ∧ IsMem w' bm bw n f' ∧ Touch w1 w' (fun k => k = b ∨ k = bw)) :
    Calls Try.prog 95 #[.pointer (some ⟨b, 0, none⟩), .pointer (some ⟨bm, 0, none⟩)] w fun e w' => e = .returned (.tuple #[x.val, .int .i64 v]) ∧ w'.rowIs b 137 7 C' ∧ IsMem w' bm bw n f' ∧ Touch w w' (fun k => k = b ∨ k = bw) := by
  have c4 : w.cell? ⟨b, 4, none⟩ = some (.int .i64 4) := h.cell (i := 4) (by omega)
  have hl := h.lt
  have lw := hm.row.lt
  have lm0 := hm.head.lt
  have K0 := hide (hc (w.alloc (.cells #[.int .i64 0, .int .i64 0, .int .i64 0, .int .u64 0, .int .u64 0, .bool false] 73)) (h.alloc _) (hm.alloc _))
  have RW := hide (row0 w)
  clear h hm hc
  go_enter Try.func95, Try.ntmps95
  go_wp2_with fail
  refine K0.out.mono ?_
  rintro e w1 ⟨rfl, row1, mem1, t1⟩
  simp only [Stp.val]
  have s1 := t1.size
  simp only [World.size_alloc] at s1
  have RR := hide (RW.out.of_block (t1.block w.heap.size (by simp) (by omega)))
  have R1 := hide row1
  have M1 := hide mem1
  have T1 := hide (((Touch.refl w (fun k => k = b ∨ k = bw)).alloc (.cells #[.int .i64 0, .int .i64 0, .int .i64 0, .int .u64 0, .int .u64 0, .bool false] 73)).trans t1)
  have l2 : w.heap.size < w1.heap.size := by omega
  have hn3 : w.heap.size ≠ b := by omega
  have hn4 : w.heap.size ≠ bw := by omega
  clear row1 mem1 t1 c4
  have r0 : w1.cell? ⟨w.heap.size, 0, none⟩ = some (.int .i64 0) := RR.out.cell (i := 0) (by omega)
  have rf0 := RR.out.frozen 0
  have r1 : w1.cell? ⟨w.heap.size, 1, none⟩ = some (.int .i64 0) := RR.out.cell (i := 1) (by omega)
  have rf1 := RR.out.frozen 1
  have r2 : w1.cell? ⟨w.heap.size, 2, none⟩ = some (.int .i64 0) := RR.out.cell (i := 2) (by omega)
  have rf2 := RR.out.frozen 2
  have r3 : w1.cell? ⟨w.heap.size, 3, none⟩ = some (.int .u64 0) := RR.out.cell (i := 3) (by omega)
  have rf3 := RR.out.frozen 3
  have r4 : w1.cell? ⟨w.heap.size, 4, none⟩ = some (.int .u64 0) := RR.out.cell (i := 4) (by omega)
  have rf4 := RR.out.frozen 4
  have r5 : w1.cell? ⟨w.heap.size, 5, none⟩ = some (.bool false) := RR.out.cell (i := 5) (by omega)
  have rf5 := RR.out.frozen 5
  go_wp2_with fail
  go_light
  refine bodyPost_ret (v := .tuple #[x.val, .int .i64 v]) ?res rfl ⟨rfl, ?row, ?mem, ?tch⟩
  case row =>
    repeat (first | (with_reducible apply World.rowIs.alloc) | (with_reducible apply World.rowIs.drew) | (with_reducible refine World.rowIs.setOther ?_ ?side _; case side => (simp; omega)))
    with_reducible exact R1.out
  case mem =>
    repeat (first | (with_reducible apply IsMem.alloc) | (with_reducible apply IsMem.drew) | ((with_reducible refine IsMem.setOther ?_ ?_ ?_ _); rotate_left; (simp; omega); (simp; omega)))
    with_reducible exact M1.out
  case tch =>
    repeat (first | (with_reducible apply Touch.alloc) | (with_reducible apply Touch.drew) | (with_reducible refine Touch.setCell ?_ _ ?side _; case side => simp))
    with_reducible exact T1.out
  case res => simp [results, Try.results95, go_sem, Stp.val, *]

set_option maxHeartbeats 4000000 in
theorem step_look {w : World} {b bm bw n : Nat} {f f' : Nat → Int} {x : Stp} {v : Int} {hand kind st ct : Int} {t : Ans} {C' : Nat → Value} (h : w.rowIs b 137 7 (onC hand kind st ct 5 t)) (hm : IsMem w bm bw n f) (h1 : b ≠ bm) (h2 : b ≠ bw)
    (hc : ∀ w1 : World, w1.rowIs b 137 7 (onC hand kind st ct 5 t) → IsMem w1 bm bw n f → Calls Try.prog 100 #[.pointer (some ⟨b, 0, none⟩), .pointer (some ⟨bm, 0, none⟩)] w1 fun e w' => e = .returned (.tuple #[x.val, .int .i64 v]) ∧ w'.rowIs b 137 7 C' ∧ IsMem w' bm bw n f' ∧ Touch w1 w' (fun k => k = b ∨ k = bw)) :
    Calls Try.prog 95 #[.pointer (some ⟨b, 0, none⟩), .pointer (some ⟨bm, 0, none⟩)] w fun e w' => e = .returned (.tuple #[x.val, .int .i64 v]) ∧ w'.rowIs b 137 7 C' ∧ IsMem w' bm bw n f' ∧ Touch w w' (fun k => k = b ∨ k = bw) := by
  have c4 : w.cell? ⟨b, 4, none⟩ = some (.int .i64 5) := h.cell (i := 4) (by omega)
  have hl := h.lt
  have lw := hm.row.lt
  have lm0 := hm.head.lt
  have K0 := hide (hc (w.alloc (.cells #[.int .i64 0, .int .i64 0, .int .i64 0, .int .u64 0, .int .u64 0, .bool false] 73)) (h.alloc _) (hm.alloc _))
  have RW := hide (row0 w)
  clear h hm hc
  go_enter Try.func95, Try.ntmps95
  go_wp2_with fail
  refine K0.out.mono ?_
  rintro e w1 ⟨rfl, row1, mem1, t1⟩
  simp only [Stp.val]
  have s1 := t1.size
  simp only [World.size_alloc] at s1
  have RR := hide (RW.out.of_block (t1.block w.heap.size (by simp) (by omega)))
  have R1 := hide row1
  have M1 := hide mem1
  have T1 := hide (((Touch.refl w (fun k => k = b ∨ k = bw)).alloc (.cells #[.int .i64 0, .int .i64 0, .int .i64 0, .int .u64 0, .int .u64 0, .bool false] 73)).trans t1)
  have l2 : w.heap.size < w1.heap.size := by omega
  have hn3 : w.heap.size ≠ b := by omega
  have hn4 : w.heap.size ≠ bw := by omega
  clear row1 mem1 t1 c4
  have r0 : w1.cell? ⟨w.heap.size, 0, none⟩ = some (.int .i64 0) := RR.out.cell (i := 0) (by omega)
  have rf0 := RR.out.frozen 0
  have r1 : w1.cell? ⟨w.heap.size, 1, none⟩ = some (.int .i64 0) := RR.out.cell (i := 1) (by omega)
  have rf1 := RR.out.frozen 1
  have r2 : w1.cell? ⟨w.heap.size, 2, none⟩ = some (.int .i64 0) := RR.out.cell (i := 2) (by omega)
  have rf2 := RR.out.frozen 2
  have r3 : w1.cell? ⟨w.heap.size, 3, none⟩ = some (.int .u64 0) := RR.out.cell (i := 3) (by omega)
  have rf3 := RR.out.frozen 3
  have r4 : w1.cell? ⟨w.heap.size, 4, none⟩ = some (.int .u64 0) := RR.out.cell (i := 4) (by omega)
  have rf4 := RR.out.frozen 4
  have r5 : w1.cell? ⟨w.heap.size, 5, none⟩ = some (.bool false) := RR.out.cell (i := 5) (by omega)
  have rf5 := RR.out.frozen 5
  go_wp2_with fail
  go_light
  refine bodyPost_ret (v := .tuple #[x.val, .int .i64 v]) ?res rfl ⟨rfl, ?row, ?mem, ?tch⟩
  case row =>
    repeat (first | (with_reducible apply World.rowIs.alloc) | (with_reducible apply World.rowIs.drew) | (with_reducible refine World.rowIs.setOther ?_ ?side _; case side => (simp; omega)))
    with_reducible exact R1.out
  case mem =>
    repeat (first | (with_reducible apply IsMem.alloc) | (with_reducible apply IsMem.drew) | ((with_reducible refine IsMem.setOther ?_ ?_ ?_ _); rotate_left; (simp; omega); (simp; omega)))
    with_reducible exact M1.out
  case tch =>
    repeat (first | (with_reducible apply Touch.alloc) | (with_reducible apply Touch.drew) | (with_reducible refine Touch.setCell ?_ _ ?side _; case side => simp))
    with_reducible exact T1.out
  case res => simp [results, Try.results95, go_sem, Stp.val, *]


theorem onext_j (s : OnS) (x : Stp) : (onext s x).j = s.j := by
  unfold onext
  split
  · rfl
  · split
    · rfl
    · split
      · rfl
      · split
        · rfl
        · split <;> rfl
theorem onext_k {s : OnS} {x : Stp} (hk : 1 ≤ s.j.kind ∧ s.j.kind ≤ 3) : 1 ≤ (onext s x).j.kind ∧ (onext s x).j.kind ≤ 3 := by rw [onext_j]; exact hk
theorem onext_st {s : OnS} {x : Stp} (hk : 1 ≤ s.j.kind ∧ s.j.kind ≤ 3) (h0 : 0 ≤ s.st) (h3 : s.st ≤ 3) : 0 ≤ (onext s x).st ∧ (onext s x).st ≤ 3 := by
  unfold onext
  split
  · exact ⟨h0, h3⟩
  · split
    · simp only
      split <;> omega
    · split
      · simp only; omega
      · split
        · exact ⟨h0, h3⟩
        · split <;> exact ⟨h0, h3⟩

theorem step_any (room : Int) {w : World} {b bm bw n : Nat} {f : Nat → Int} {s : OnS} {j : Jb} (hf : (kOnce room).fine j) (hj : s.j = j ∧ (0 ≤ s.st ∧ s.st ≤ 3) ∧ 1 ≤ s.j.kind ∧ s.j.kind ≤ 3) (h : w.rowIs b 137 7 (ocell room s)) (hm : IsMem w bm bw n f) (h1 : b ≠ bm) (h2 : b ≠ bw) :
    Calls Try.prog 95 #[.pointer (some ⟨b, 0, none⟩), .pointer (some ⟨bm, 0, none⟩)] w fun e w' => e = .returned (.tuple #[(stepOf n f (oreq room s)).val, .int .i64 (if oends s (stepOf n f (oreq room s)) = true then 1 else 0)]) ∧
      w'.rowIs b 137 7 (ocell room (onext s (stepOf n f (oreq room s)))) ∧ IsMem w' bm bw n (wordsOf n f (oreq room s)) ∧ Touch w w' (fun k => k = b ∨ k = bw) := by
  obtain ⟨rfl, ⟨h0, h3⟩, _⟩ := hj
  obtain ⟨x, hx⟩ : ∃ x, stepOf n f (oreq room s) = x := ⟨_, rfl⟩
  obtain ⟨f', hf'⟩ : ∃ f', wordsOf n f (oreq room s) = f' := ⟨_, rfl⟩
  rw [hx, hf']
  obtain ⟨hk, _, _⟩ := fine_cases hf
  by_cases k3 : s.j.kind = 3
  · have e4 : oreq room s = ⟨s.hand, 1, s.j.a, 0, 0, true⟩ := by simp [oreq, k3]
    have e5 : oends s x = true := by simp [oends, k3]
    have e6 : ocell room s = onC s.hand s.j.kind s.j.a (room + s.j.a) 5 s.told := by simp [ocell, k3]
    have e7 : ocell room (onext s x) = onC s.hand s.j.kind s.j.a (room + s.j.a) 5 ⟨x.had == 2, x.had⟩ := by simp [ocell, onext, k3]
    rw [e6] at h
    rw [e4] at hx hf'
    rw [e5, e7, if_pos rfl]
    exact step_look h hm h1 h2 (fun w1 r1 m1 => look_ends r1 m1 h1 h2 hx hf')
  · by_cases s0 : s.st = 0
    · have e4 : oreq room s = ⟨s.hand, 5, s.j.a, 0, 1, true⟩ := by simp [oreq, k3, s0]
      have e5 : oends s x = false := by simp [oends, k3, s0]
      have e6 : ocell room s = onC s.hand s.j.kind s.j.a (room + s.j.a) 1 s.told := by simp [ocell, k3, s0]
      rw [e6] at h
      rw [e4] at hx hf'
      rw [e5, if_neg (by decide)]
      cases hok : x.ok with
      | false =>
        have e7 : ocell room (onext s x) = onC s.hand s.j.kind s.j.a (room + s.j.a) 4 s.told := by simp [ocell, onext, k3, s0, hok]
        rw [e7]
        exact step_claim h hm h1 h2 (fun w1 r1 m1 => claim_no r1 m1 h1 h2 hok hx hf')
      | true =>
        by_cases k1 : s.j.kind = 1
        · have e7 : ocell room (onext s x) = onC s.hand s.j.kind s.j.a (room + s.j.a) 2 s.told := by simp [ocell, onext, k3, s0, hok, k1]
          rw [e7]
          exact step_claim h hm h1 h2 (fun w1 r1 m1 => claim_do r1 m1 h1 h2 hok k1 hx hf')
        · have k2 : s.j.kind = 2 := by omega
          have e7 : ocell room (onext s x) = onC s.hand s.j.kind s.j.a (room + s.j.a) 3 s.told := by simp [ocell, onext, k3, s0, hok, k2]
          rw [e7]
          exact step_claim h hm h1 h2 (fun w1 r1 m1 => claim_fail r1 m1 h1 h2 hok k1 hx hf')
    · by_cases s1 : s.st = 1
      · have e4 : oreq room s = ⟨s.hand, 4, room + s.j.a, 0, 1, true⟩ := by simp [oreq, k3, s1]
        have e5 : oends s x = false := by simp [oends, k3, s1]
        have e6 : ocell room s = onC s.hand s.j.kind s.j.a (room + s.j.a) 2 s.told := by simp [ocell, k3, s1]
        have e7 : ocell room (onext s x) = onC s.hand s.j.kind s.j.a (room + s.j.a) 3 s.told := by simp [ocell, onext, k3, s1]
        rw [e6] at h
        rw [e4] at hx hf'
        rw [e5, e7, if_neg (by decide)]
        exact step_add h hm h1 h2 (fun w1 r1 m1 => add_goes r1 m1 h1 h2 hx hf')
      · by_cases s2 : s.st = 2
        · have e4 : oreq room s = ⟨s.hand, 2, s.j.a, 0, 2, true⟩ := by simp [oreq, k3, s2]
          have e5 : oends s x = true := by simp [oends, k3, s2]
          have e6 : ocell room s = onC s.hand s.j.kind s.j.a (room + s.j.a) 3 s.told := by simp [ocell, k3, s2]
          have e7 : ocell room (onext s x) = onC s.hand s.j.kind s.j.a (room + s.j.a) 3 ⟨s.j.kind == 1, 1⟩ := by simp [ocell, onext, k3, s2]
          rw [e6] at h
          rw [e4] at hx hf'
          rw [e5, e7, if_pos rfl]
          exact step_finish h hm h1 h2 (fun w1 r1 m1 => finish_ends r1 m1 h1 h2 hx hf')
        · have s3 : s.st = 3 := by omega
          have e4 : oreq room s = ⟨s.hand, 1, s.j.a, 0, 0, true⟩ := by simp [oreq, k3, s3]
          have e6 : ocell room s = onC s.hand s.j.kind s.j.a (room + s.j.a) 4 s.told := by simp [ocell, k3, s3]
          rw [e6] at h
          rw [e4] at hx hf'
          by_cases hd : x.had = 2
          · have e5 : oends s x = true := by simp [oends, k3, s3, hd]
            have e7 : ocell room (onext s x) = onC s.hand s.j.kind s.j.a (room + s.j.a) 4 ⟨true, 0⟩ := by simp [ocell, onext, k3, s3, hd]
            rw [e5, e7, if_pos rfl]
            exact step_await h hm h1 h2 (fun w1 r1 m1 => await_ends r1 m1 h1 h2 hd hx hf')
          · have e5 : oends s x = false := by simp [oends, k3, s3, hd]
            have e7 : ocell room (onext s x) = onC s.hand s.j.kind s.j.a (room + s.j.a) 4 s.told := by simp [ocell, onext, k3, s3, hd]
            rw [e5, e7, if_neg (by decide)]
            exact step_await h hm h1 h2 (fun w1 r1 m1 => await_goes r1 m1 h1 h2 hd hx hf')

theorem ms (b : Nat) (w : World) : (method 283 97 (.pointer (some ⟨b, 0, none⟩)) "Step").run Try.prog w = .ok (95, .pointer (some ⟨b, 0, none⟩)) w := by kernel_rfl
theorem ma (b : Nat) (w : World) : (method 283 97 (.pointer (some ⟨b, 0, none⟩)) "Answer").run Try.prog w = .ok (94, .pointer (some ⟨b, 0, none⟩)) w := by kernel_rfl
theorem cs (args : Array Value) (w : World) : (callFunc 95 args).run Try.prog w = .ok (.enter 95 args) w := by simp [go_sem]
theorem ca (args : Array Value) (w : World) : (callFunc 94 args).run Try.prog w = .ok (.enter 94 args) w := by simp [go_sem]

theorem isKind (room : Int) : IsKind (kOnce room) where
  ok := ⟨fun h j hj => ⟨rfl, ⟨by show (0 : Int) ≤ 0; decide, by show (0 : Int) ≤ 3; decide⟩, by have := (fine_cases hj).1; show 1 ≤ j.kind ∧ j.kind ≤ 3; omega⟩, fun j s n f _ ⟨hs, ⟨h0, h3⟩, hk⟩ => ⟨(onext_j s _).trans hs, onext_st hk h0 h3, onext_k hk⟩⟩
  step := fun hf hj h hm h1 h2 => step_any room hf hj h hm h1 h2
  ans := fun hf hj h => on_ans h
  mstep := fun j hf b w => ms b w
  mans := fun j hf b w => ma b w
  cstep := fun j hf args w => cs args w
  cans := fun j hf args w => ca args w
end Once
end Go.Proofs.Ytpghfebnggoacaa
