/-
  Lemmas: BeltK.
-/
import Derived.Test.YtchhkoalibapiaaTp27
import Derived.Test.YtchhkoalibapiaaTp28
/-
  The kind of a belt's tasks: what each does is what its abstract task says.
-/
namespace Go.Proofs.Ytchhkoalibapiaa
open Go.RowKit
set_option linter.unusedVariables false
set_option linter.unusedSimpArgs false
set_option maxRecDepth 20000
namespace Belt

set_option maxHeartbeats 4000000 in
theorem step_find {w : World} {b bm bw n : Nat} {f f' : Nat → Int} {x : Stp} {v : Int} {hand room kind count num value : Int} {t : Ans} {C' : Nat → Value} (h : w.rowIs b 104 9 (pasC hand room kind count 0 num value t)) (hm : IsMem w bm bw n f) (h1 : b ≠ bm) (h2 : b ≠ bw)
    (hc : ∀ w1 : World, w1.rowIs b 104 9 (pasC hand room kind count 0 num value t) → IsMem w1 bm bw n f → Calls Try.prog 80 #[.pointer (some ⟨b, 0, none⟩), .pointer (some ⟨bm, 0, none⟩)] w1 fun e w' => e = .returned (.tuple #[x.val, .int .i64 v]) ∧ w'.rowIs b 104 9 C' ∧ IsMem w' bm bw n f' ∧ Touch w1 w' (fun k => k = b ∨ k = bw)) :
    Calls Try.prog 78 #[.pointer (some ⟨b, 0, none⟩), .pointer (some ⟨bm, 0, none⟩)] w fun e w' => e = .returned (.tuple #[x.val, .int .i64 v]) ∧ w'.rowIs b 104 9 C' ∧ IsMem w' bm bw n f' ∧ Touch w w' (fun k => k = b ∨ k = bw) := by
  have c4 : w.cell? ⟨b, 4, none⟩ = some (.int .i64 0) := h.cell (i := 4) (by omega)
  have hl := h.lt
  have lw := hm.row.lt
  have lm0 := hm.head.lt
  have K0 := hide (hc (w.alloc (.cells #[.int .i64 0, .int .i64 0, .int .i64 0, .int .u64 0, .int .u64 0, .bool false] 57)) (h.alloc _) (hm.alloc _))
  have RW := hide (row0 w)
  clear h hm hc
  go_enter Try.func78, Try.ntmps78
  go_wp2_with fail
  refine K0.out.mono ?_
  rintro e w1 ⟨rfl, row1, mem1, t1⟩
  simp only [Stp.val]
  have s1 := t1.size
  simp only [World.size_alloc] at s1
  have RR := hide (RW.out.of_block (t1.block w.heap.size (by simp) (by omega)))
  have R1 := hide row1
  have M1 := hide mem1
  have T1 := hide (((Touch.refl w (fun k => k = b ∨ k = bw)).alloc (.cells #[.int .i64 0, .int .i64 0, .int .i64 0, .int .u64 0, .int .u64 0, .bool false] 57)).trans t1)
  have l2 : w.heap.size < w1.heap.size := by omega
  have hn3 : w.heap.size ≠ b := by omega
  have hn4 : w.heap.size ≠ bw := by omega
  clear row1 mem1 t1 c4
  have r0 : w1.cell? ⟨w.heap.size, 0, none⟩ = some (.int .i64 0) := RR.out.cell (i := 0) (by omega)
  have rf0 := RR.out.frozen 0
  have r1 : w1.cell? ⟨w.heap.size, 1, none⟩ = some (.int .i64 0) := RR.out.cell (i := 1) (by omega)
  have rf1 := RR.out.frozen 1
  have r2 : w1.cell? ⟨w.heap.size, 2, none⟩ = some (.int .i64 0) := RR.out.cell (i := 2) (by omega)
  have rf2 := RR.out.frozen 2
  have r3 : w1.cell? ⟨w.heap.size, 3, none⟩ = some (.int .u64 0) := RR.out.cell (i := 3) (by omega)
  have rf3 := RR.out.frozen 3
  have r4 : w1.cell? ⟨w.heap.size, 4, none⟩ = some (.int .u64 0) := RR.out.cell (i := 4) (by omega)
  have rf4 := RR.out.frozen 4
  have r5 : w1.cell? ⟨w.heap.size, 5, none⟩ = some (.bool false) := RR.out.cell (i := 5) (by omega)
  have rf5 := RR.out.frozen 5
  go_wp2_with fail
  go_light
  refine bodyPost_ret (v := .tuple #[x.val, .int .i64 v]) ?res rfl ⟨rfl, ?row, ?mem, ?tch⟩
  case row =>
    repeat (first | (with_reducible apply World.rowIs.alloc) | (with_reducible apply World.rowIs.drew) | (with_reducible refine World.rowIs.setOther ?_ ?side _; case side => (simp; omega)))
    with_reducible exact R1.out
  case mem =>
    repeat (first | (with_reducible apply IsMem.alloc) | (with_reducible apply IsMem.drew) | ((with_reducible refine IsMem.setOther ?_ ?_ ?_ _); rotate_left; (simp; omega); (simp; omega)))
    with_reducible exact M1.out
  case tch =>
    repeat (first | (with_reducible apply Touch.alloc) | (with_reducible apply Touch.drew) | (with_reducible refine Touch.setCell ?_ _ ?side _; case side => simp))
    with_reducible exact T1.out
  case res => simp [results, Try.results78, go_sem, Stp.val, *]

set_option maxHeartbeats 4000000 in
theorem step_look {w : World} {b bm bw n : Nat} {f f' : Nat → Int} {x : Stp} {v : Int} {hand room kind count num value : Int} {t : Ans} {C' : Nat → Value} (h : w.rowIs b 104 9 (pasC hand room kind count 1 num value t)) (hm : IsMem w bm bw n f) (h1 : b ≠ bm) (h2 : b ≠ bw)
    (hc : ∀ w1 : World, w1.rowIs b 104 9 (pasC hand room kind count 1 num value t) → IsMem w1 bm bw n f → Calls Try.prog 81 #[.pointer (some ⟨b, 0, none⟩), .pointer (some ⟨bm, 0, none⟩)] w1 fun e w' => e = .returned (.tuple #[x.val, .int .i64 v]) ∧ w'.rowIs b 104 9 C' ∧ IsMem w' bm bw n f' ∧ Touch w1 w' (fun k => k = b ∨ k = bw)) :
    Calls Try.prog 78 #[.pointer (some ⟨b, 0, none⟩), .pointer (some ⟨bm, 0, none⟩)] w fun e w' => e = .returned (.tuple #[x.val, .int .i64 v]) ∧ w'.rowIs b 104 9 C' ∧ IsMem w' bm bw n f' ∧ Touch w w' (fun k => k = b ∨ k = bw) := by
  have c4 : w.cell? ⟨b, 4, none⟩ = some (.int .i64 1) := h.cell (i := 4) (by omega)
  have hl := h.lt
  have lw := hm.row.lt
  have lm0 := hm.head.lt
  have K0 := hide (hc (w.alloc (.cells #[.int .i64 0, .int .i64 0, .int .i64 0, .int .u64 0, .int .u64 0, .bool false] 57)) (h.alloc _) (hm.alloc _))
  have RW := hide (row0 w)
  clear h hm hc
  go_enter Try.func78, Try.ntmps78
  go_wp2_with fail
  refine K0.out.mono ?_
  rintro e w1 ⟨rfl, row1, mem1, t1⟩
  simp only [Stp.val]
  have s1 := t1.size
  simp only [World.size_alloc] at s1
  have RR := hide (RW.out.of_block (t1.block w.heap.size (by simp) (by omega)))
  have R1 := hide row1
  have M1 := hide mem1
  have T1 := hide (((Touch.refl w (fun k => k = b ∨ k = bw)).alloc (.cells #[.int .i64 0, .int .i64 0, .int .i64 0, .int .u64 0, .int .u64 0, .bool false] 57)).trans t1)
  have l2 : w.heap.size < w1.heap.size := by omega
  have hn3 : w.heap.size ≠ b := by omega
  have hn4 : w.heap.size ≠ bw := by omega
  clear row1 mem1 t1 c4
  have r0 : w1.cell? ⟨w.heap.size, 0, none⟩ = some (.int .i64 0) := RR.out.cell (i := 0) (by omega)
  have rf0 := RR.out.frozen 0
  have r1 : w1.cell? ⟨w.heap.size, 1, none⟩ = some (.int .i64 0) := RR.out.cell (i := 1) (by omega)
  have rf1 := RR.out.frozen 1
  have r2 : w1.cell? ⟨w.heap.size, 2, none⟩ = some (.int .i64 0) := RR.out.cell (i := 2) (by omega)
  have rf2 := RR.out.frozen 2
  have r3 : w1.cell? ⟨w.heap.size, 3, none⟩ = some (.int .u64 0) := RR.out.cell (i := 3) (by omega)
  have rf3 := RR.out.frozen 3
  have r4 : w1.cell? ⟨w.heap.size, 4, none⟩ = some (.int .u64 0) := RR.out.cell (i := 4) (by omega)
  have rf4 := RR.out.frozen 4
  have r5 : w1.cell? ⟨w.heap.size, 5, none⟩ = some (.bool false) := RR.out.cell (i := 5) (by omega)
  have rf5 := RR.out.frozen 5
  go_wp2_with fail
  go_light
  refine bodyPost_ret (v := .tuple #[x.val, .int .i64 v]) ?res rfl ⟨rfl, ?row, ?mem, ?tch⟩
  case row =>
    repeat (first | (with_reducible apply World.rowIs.alloc) | (with_reducible apply World.rowIs.drew) | (with_reducible refine World.rowIs.setOther ?_ ?side _; case side => (simp; omega)))
    with_reducible exact R1.out
  case mem =>
    repeat (first | (with_reducible apply IsMem.alloc) | (with_reducible apply IsMem.drew) | ((with_reducible refine IsMem.setOther ?_ ?_ ?_ _); rotate_left; (simp; omega); (simp; omega)))
    with_reducible exact M1.out
  case tch =>
    repeat (first | (with_reducible apply Touch.alloc) | (with_reducible apply Touch.drew) | (with_reducible refine Touch.setCell ?_ _ ?side _; case side => simp))
    with_reducible exact T1.out
  case res => simp [results, Try.results78, go_sem, Stp.val, *]

set_option maxHeartbeats 4000000 in
theorem step_take {w : World} {b bm bw n : Nat} {f f' : Nat → Int} {x : Stp} {v : Int} {hand room kind count num value : Int} {t : Ans} {C' : Nat → Value} (h : w.rowIs b 104 9 (pasC hand room kind count 2 num value t)) (hm : IsMem w bm bw n f) (h1 : b ≠ bm) (h2 : b ≠ bw)
    (hc : ∀ w1 : World, w1.rowIs b 104 9 (pasC hand room kind count 2 num value t) → IsMem w1 bm bw n f → Calls Try.prog 82 #[.pointer (some ⟨b, 0, none⟩), .pointer (some ⟨bm, 0, none⟩)] w1 fun e w' => e = .returned (.tuple #[x.val, .int .i64 v]) ∧ w'.rowIs b 104 9 C' ∧ IsMem w' bm bw n f' ∧ Touch w1 w' (fun k => k = b ∨ k = bw)) :
    Calls Try.prog 78 #[.pointer (some ⟨b, 0, none⟩), .pointer (some ⟨bm, 0, none⟩)] w fun e w' => e = .returned (.tuple #[x.val, .int .i64 v]) ∧ w'.rowIs b 104 9 C' ∧ IsMem w' bm bw n f' ∧ Touch w w' (fun k => k = b ∨ k = bw) := by
  have c4 : w.cell? ⟨b, 4, none⟩ = some (.int .i64 2) := h.cell (i := 4) (by omega)
  have hl := h.lt
  have lw := hm.row.lt
  have lm0 := hm.head.lt
  have K0 := hide (hc (w.alloc (.cells #[.int .i64 0, .int .i64 0, .int .i64 0, .int .u64 0, .int .u64 0, .bool false] 57)) (h.alloc _) (hm.alloc _))
  have RW := hide (row0 w)
  clear h hm hc
  go_enter Try.func78, Try.ntmps78
  go_wp2_with fail
  refine K0.out.mono ?_
  rintro e w1 ⟨rfl, row1, mem1, t1⟩
  simp only [Stp.val]
  have s1 := t1.size
  simp only [World.size_alloc] at s1
  have RR := hide (RW.out.of_block (t1.block w.heap.size (by simp) (by omega)))
  have R1 := hide row1
  have M1 := hide mem1
  have T1 := hide (((Touch.refl w (fun k => k = b ∨ k = bw)).alloc (.cells #[.int .i64 0, .int .i64 0, .int .i64 0, .int .u64 0, .int .u64 0, .bool false] 57)).trans t1)
  have l2 : w.heap.size < w1.heap.size := by omega
  have hn3 : w.heap.size ≠ b := by omega
  have hn4 : w.heap.size ≠ bw := by omega
  clear row1 mem1 t1 c4
  have r0 : w1.cell? ⟨w.heap.size, 0, none⟩ = some (.int .i64 0) := RR.out.cell (i := 0) (by omega)
  have rf0 := RR.out.frozen 0
  have r1 : w1.cell? ⟨w.heap.size, 1, none⟩ = some (.int .i64 0) := RR.out.cell (i := 1) (by omega)
  have rf1 := RR.out.frozen 1
  have r2 : w1.cell? ⟨w.heap.size, 2, none⟩ = some (.int .i64 0) := RR.out.cell (i := 2) (by omega)
  have rf2 := RR.out.frozen 2
  have r3 : w1.cell? ⟨w.heap.size, 3, none⟩ = some (.int .u64 0) := RR.out.cell (i := 3) (by omega)
  have rf3 := RR.out.frozen 3
  have r4 : w1.cell? ⟨w.heap.size, 4, none⟩ = some (.int .u64 0) := RR.out.cell (i := 4) (by omega)
  have rf4 := RR.out.frozen 4
  have r5 : w1.cell? ⟨w.heap.size, 5, none⟩ = some (.bool false) := RR.out.cell (i := 5) (by omega)
  have rf5 := RR.out.frozen 5
  go_wp2_with fail
  go_light
  refine bodyPost_ret (v := .tuple #[x.val, .int .i64 v]) ?res rfl ⟨rfl, ?row, ?mem, ?tch⟩
  case row =>
    repeat (first | (with_reducible apply World.rowIs.alloc) | (with_reducible apply World.rowIs.drew) | (with_reducible refine World.rowIs.setOther ?_ ?side _; case side => (simp; omega)))
    with_reducible exact R1.out
  case mem =>
    repeat (first | (with_reducible apply IsMem.alloc) | (with_reducible apply IsMem.drew) | ((with_reducible refine IsMem.setOther ?_ ?_ ?_ _); rotate_left; (simp; omega); (simp; omega)))
    with_reducible exact M1.out
  case tch =>
    repeat (first | (with_reducible apply Touch.alloc) | (with_reducible apply Touch.drew) | (with_reducible refine Touch.setCell ?_ _ ?side _; case side => simp))
    with_reducible exact T1.out
  case res => simp [results, Try.results78, go_sem, Stp.val, *]

set_option maxHeartbeats 4000000 in
theorem step_touch {w : World} {b bm bw n : Nat} {f f' : Nat → Int} {x : Stp} {v : Int} {hand room kind count num value : Int} {t : Ans} {C' : Nat → Value} (h : w.rowIs b 104 9 (pasC hand room kind count 3 num value t)) (hm : IsMem w bm bw n f) (h1 : b ≠ bm) (h2 : b ≠ bw)
    (hc : ∀ w1 : World, w1.rowIs b 104 9 (pasC hand room kind count 3 num value t) → IsMem w1 bm bw n f → Calls Try.prog 83 #[.pointer (some ⟨b, 0, none⟩), .pointer (some ⟨bm, 0, none⟩)] w1 fun e w' => e = .returned (.tuple #[x.val, .int .i64 v]) ∧ w'.rowIs b 104 9 C' ∧ IsMem w' bm bw n f' ∧ Touch w1 w' (fun k => k = b ∨ k = bw)) :
    Calls Try.prog 78 #[.pointer (some ⟨b, 0, none⟩), .pointer (some ⟨bm, 0, none⟩)] w fun e w' => e = .returned (.tuple #[x.val, .int .i64 v]) ∧ w'.rowIs b 104 9 C' ∧ IsMem w' bm bw n f' ∧ Touch w w' (fun k => k = b ∨ k = bw) := by
  have c4 : w.cell? ⟨b, 4, none⟩ = some (.int .i64 3) := h.cell (i := 4) (by omega)
  have hl := h.lt
  have lw := hm.row.lt
  have lm0 := hm.head.lt
  have K0 := hide (hc (w.alloc (.cells #[.int .i64 0, .int .i64 0, .int .i64 0, .int .u64 0, .int .u64 0, .bool false] 57)) (h.alloc _) (hm.alloc _))
  have RW := hide (row0 w)
  clear h hm hc
  go_enter Try.func78, Try.ntmps78
  go_wp2_with fail
  refine K0.out.mono ?_
  rintro e w1 ⟨rfl, row1, mem1, t1⟩
  simp only [Stp.val]
  have s1 := t1.size
  simp only [World.size_alloc] at s1
  have RR := hide (RW.out.of_block (t1.block w.heap.size (by simp) (by omega)))
  have R1 := hide row1
  have M1 := hide mem1
  have T1 := hide (((Touch.refl w (fun k => k = b ∨ k = bw)).alloc (.cells #[.int .i64 0, .int .i64 0, .int .i64 0, .int .u64 0, .int .u64 0, .bool false] 57)).trans t1)
  have l2 : w.heap.size < w1.heap.size := by omega
  have hn3 : w.heap.size ≠ b := by omega
  have hn4 : w.heap.size ≠ bw := by omega
  clear row1 mem1 t1 c4
  have r0 : w1.cell? ⟨w.heap.size, 0, none⟩ = some (.int .i64 0) := RR.out.cell (i := 0) (by omega)
  have rf0 := RR.out.frozen 0
  have r1 : w1.cell? ⟨w.heap.size, 1, none⟩ = some (.int .i64 0) := RR.out.cell (i := 1) (by omega)
  have rf1 := RR.out.frozen 1
  have r2 : w1.cell? ⟨w.heap.size, 2, none⟩ = some (.int .i64 0) := RR.out.cell (i := 2) (by omega)
  have rf2 := RR.out.frozen 2
  have r3 : w1.cell? ⟨w.heap.size, 3, none⟩ = some (.int .u64 0) := RR.out.cell (i := 3) (by omega)
  have rf3 := RR.out.frozen 3
  have r4 : w1.cell? ⟨w.heap.size, 4, none⟩ = some (.int .u64 0) := RR.out.cell (i := 4) (by omega)
  have rf4 := RR.out.frozen 4
  have r5 : w1.cell? ⟨w.heap.size, 5, none⟩ = some (.bool false) := RR.out.cell (i := 5) (by omega)
  have rf5 := RR.out.frozen 5
  go_wp2_with fail
  go_light
  refine bodyPost_ret (v := .tuple #[x.val, .int .i64 v]) ?res rfl ⟨rfl, ?row, ?mem, ?tch⟩
  case row =>
    repeat (first | (with_reducible apply World.rowIs.alloc) | (with_reducible apply World.rowIs.drew) | (with_reducible refine World.rowIs.setOther ?_ ?side _; case side => (simp; omega)))
    with_reducible exact R1.out
  case mem =>
    repeat (first | (with_reducible apply IsMem.alloc) | (with_reducible apply IsMem.drew) | ((with_reducible refine IsMem.setOther ?_ ?_ ?_ _); rotate_left; (simp; omega); (simp; omega)))
    with_reducible exact M1.out
  case tch =>
    repeat (first | (with_reducible apply Touch.alloc) | (with_reducible apply Touch.drew) | (with_reducible refine Touch.setCell ?_ _ ?side _; case side => simp))
    with_reducible exact T1.out
  case res => simp [results, Try.results78, go_sem, Stp.val, *]

set_option maxHeartbeats 4000000 in
theorem step_leave {w : World} {b bm bw n : Nat} {f f' : Nat → Int} {x : Stp} {v : Int} {hand room kind count num value : Int} {t : Ans} {C' : Nat → Value} (h : w.rowIs b 104 9 (pasC hand room kind count 4 num value t)) (hm : IsMem w bm bw n f) (h1 : b ≠ bm) (h2 : b ≠ bw)
    (hc : ∀ w1 : World, w1.rowIs b 104 9 (pasC hand room kind count 4 num value t) → IsMem w1 bm bw n f → Calls Try.prog 84 #[.pointer (some ⟨b, 0, none⟩), .pointer (some ⟨bm, 0, none⟩)] w1 fun e w' => e = .returned (.tuple #[x.val, .int .i64 v]) ∧ w'.rowIs b 104 9 C' ∧ IsMem w' bm bw n f' ∧ Touch w1 w' (fun k => k = b ∨ k = bw)) :
    Calls Try.prog 78 #[.pointer (some ⟨b, 0, none⟩), .pointer (some ⟨bm, 0, none⟩)] w fun e w' => e = .returned (.tuple #[x.val, .int .i64 v]) ∧ w'.rowIs b 104 9 C' ∧ IsMem w' bm bw n f' ∧ Touch w w' (fun k => k = b ∨ k = bw) := by
  have c4 : w.cell? ⟨b, 4, none⟩ = some (.int .i64 4) := h.cell (i := 4) (by omega)
  have hl := h.lt
  have lw := hm.row.lt
  have lm0 := hm.head.lt
  have K0 := hide (hc (w.alloc (.cells #[.int .i64 0, .int .i64 0, .int .i64 0, .int .u64 0, .int .u64 0, .bool false] 57)) (h.alloc _) (hm.alloc _))
  have RW := hide (row0 w)
  clear h hm hc
  go_enter Try.func78, Try.ntmps78
  go_wp2_with fail
  refine K0.out.mono ?_
  rintro e w1 ⟨rfl, row1, mem1, t1⟩
  simp only [Stp.val]
  have s1 := t1.size
  simp only [World.size_alloc] at s1
  have RR := hide (RW.out.of_block (t1.block w.heap.size (by simp) (by omega)))
  have R1 := hide row1
  have M1 := hide mem1
  have T1 := hide (((Touch.refl w (fun k => k = b ∨ k = bw)).alloc (.cells #[.int .i64 0, .int .i64 0, .int .i64 0, .int .u64 0, .int .u64 0, .bool false] 57)).trans t1)
  have l2 : w.heap.size < w1.heap.size := by omega
  have hn3 : w.heap.size ≠ b := by omega
  have hn4 : w.heap.size ≠ bw := by omega
  clear row1 mem1 t1 c4
  have r0 : w1.cell? ⟨w.heap.size, 0, none⟩ = some (.int .i64 0) := RR.out.cell (i := 0) (by omega)
  have rf0 := RR.out.frozen 0
  have r1 : w1.cell? ⟨w.heap.size, 1, none⟩ = some (.int .i64 0) := RR.out.cell (i := 1) (by omega)
  have rf1 := RR.out.frozen 1
  have r2 : w1.cell? ⟨w.heap.size, 2, none⟩ = some (.int .i64 0) := RR.out.cell (i := 2) (by omega)
  have rf2 := RR.out.frozen 2
  have r3 : w1.cell? ⟨w.heap.size, 3, none⟩ = some (.int .u64 0) := RR.out.cell (i := 3) (by omega)
  have rf3 := RR.out.frozen 3
  have r4 : w1.cell? ⟨w.heap.size, 4, none⟩ = some (.int .u64 0) := RR.out.cell (i := 4) (by omega)
  have rf4 := RR.out.frozen 4
  have r5 : w1.cell? ⟨w.heap.size, 5, none⟩ = some (.bool false) := RR.out.cell (i := 5) (by omega)
  have rf5 := RR.out.frozen 5
  go_wp2_with fail
  go_light
  refine bodyPost_ret (v := .tuple #[x.val, .int .i64 v]) ?res rfl ⟨rfl, ?row, ?mem, ?tch⟩
  case row =>
    repeat (first | (with_reducible apply World.rowIs.alloc) | (with_reducible apply World.rowIs.drew) | (with_reducible refine World.rowIs.setOther ?_ ?side _; case side => (simp; omega)))
    with_reducible exact R1.out
  case mem =>
    repeat (first | (with_reducible apply IsMem.alloc) | (with_reducible apply IsMem.drew) | ((with_reducible refine IsMem.setOther ?_ ?_ ?_ _); rotate_left; (simp; omega); (simp; omega)))
    with_reducible exact M1.out
  case tch =>
    repeat (first | (with_reducible apply Touch.alloc) | (with_reducible apply Touch.drew) | (with_reducible refine Touch.setCell ?_ _ ?side _; case side => simp))
    with_reducible exact T1.out
  case res => simp [results, Try.results78, go_sem, Stp.val, *]

set_option maxHeartbeats 1000000 in
theorem step_any {r : Int} (hr : 1 ≤ r ∧ r ≤ 64) {w : World} {b bm bw n : Nat} {f : Nat → Int} {s : BeS} {j : Jb} (hj : s.j = j ∧ Wf s) (h : w.rowIs b 104 9 (bcell r s)) (hm : IsMem w bm bw n f) (h1 : b ≠ bm) (h2 : b ≠ bw) :
    Calls Try.prog 78 #[.pointer (some ⟨b, 0, none⟩), .pointer (some ⟨bm, 0, none⟩)] w fun e w' => e = .returned (.tuple #[(stepOf n f (breq r s)).val, .int .i64 (if bends s (stepOf n f (breq r s)) = true then 1 else 0)]) ∧
      w'.rowIs b 104 9 (bcell r (bnext s (stepOf n f (breq r s)))) ∧ IsMem w' bm bw n (wordsOf n f (breq r s)) ∧ Touch w w' (fun k => k = b ∨ k = bw) := by
  obtain ⟨rfl, H⟩ := hj
  have hxh := had_bounds hm.word (breq r s)
  obtain ⟨x, hx⟩ : ∃ x, stepOf n f (breq r s) = x := ⟨_, rfl⟩
  obtain ⟨f', hf'⟩ : ∃ f', wordsOf n f (breq r s) = f' := ⟨_, rfl⟩
  rw [hx] at hxh
  rw [hx, hf']
  obtain ⟨st0, st4, hk, hh, hnum, hval⟩ := H
  obtain ⟨hand, ⟨kind, ja, jb, jc, jh⟩, st, num, val, ⟨ok, tv⟩⟩ := s
  simp only at st0 st4 hk hh hnum hval hx hf' h ⊢
  have hv : 0 ≤ (if kind = 1 then jh else val) ∧ (if kind = 1 then jh else val) ≤ 18446744073709551615 := by
    split
    · exact hh
    · exact hval
  have ec : bcell r ⟨hand, ⟨kind, ja, jb, jc, jh⟩, st, num, val, ⟨ok, tv⟩⟩ = pasC hand r kind (cnt kind) st num (if kind = 1 then jh else val) ⟨ok, tv⟩ := rfl
  rw [ec] at h
  obtain rfl | rfl | rfl | rfl | rfl : st = 0 ∨ st = 1 ∨ st = 2 ∨ st = 3 ∨ st = 4 := by omega
  · have e4 : breq r ⟨hand, ⟨kind, ja, jb, jc, jh⟩, 0, num, val, ⟨ok, tv⟩⟩ = ⟨hand, 1, cnt kind, 0, 0, true⟩ := by simp [breq]
    rw [e4] at hx hf'
    have e5 : bends ⟨hand, ⟨kind, ja, jb, jc, jh⟩, 0, num, val, ⟨ok, tv⟩⟩ x = false := by simp [bends]
    have e7 : bcell r (bnext ⟨hand, ⟨kind, ja, jb, jc, jh⟩, 0, num, val, ⟨ok, tv⟩⟩ x) = pasC hand r kind (cnt kind) 1 x.had (if kind = 1 then jh else val) ⟨ok, tv⟩ := by simp [bcell, bnext]
    rw [e5, e7, if_neg (by decide)]
    exact step_find h hm h1 h2 (fun w1 r1 m1 => find_goes r1 m1 h1 h2 hx hf')
  · have e4 : breq r ⟨hand, ⟨kind, ja, jb, jc, jh⟩, 1, num, val, ⟨ok, tv⟩⟩ = ⟨hand, 1, mrk r num, 0, 0, true⟩ := by simp [breq]
    rw [e4] at hx hf'
    have e5 : bends ⟨hand, ⟨kind, ja, jb, jc, jh⟩, 1, num, val, ⟨ok, tv⟩⟩ x = decide (ahd x.had (rdy kind num) < 0) := by simp [bends]
    rw [e5]
    by_cases a1 : ahd x.had (rdy kind num) < 0
    · have e7 : bcell r (bnext ⟨hand, ⟨kind, ja, jb, jc, jh⟩, 1, num, val, ⟨ok, tv⟩⟩ x) = pasC hand r kind (cnt kind) 1 num (if kind = 1 then jh else val) ⟨ok, tv⟩ := by simp [bcell, bnext, a1]
      rw [e7, if_pos (by simpa using a1)]
      exact step_look h hm h1 h2 (fun w1 r1 m1 => look_behind r1 m1 h1 h2 hr hnum hxh rfl rfl a1 hx hf')
    · rw [if_neg (by simpa using a1)]
      by_cases a2 : 0 < ahd x.had (rdy kind num)
      · have e7 : bcell r (bnext ⟨hand, ⟨kind, ja, jb, jc, jh⟩, 1, num, val, ⟨ok, tv⟩⟩ x) = pasC hand r kind (cnt kind) 0 num (if kind = 1 then jh else val) ⟨ok, tv⟩ := by simp [bcell, bnext, a1, a2]
        rw [e7]
        exact step_look h hm h1 h2 (fun w1 r1 m1 => look_ahead r1 m1 h1 h2 hr hnum hxh rfl rfl a1 a2 hx hf')
      · have e7 : bcell r (bnext ⟨hand, ⟨kind, ja, jb, jc, jh⟩, 1, num, val, ⟨ok, tv⟩⟩ x) = pasC hand r kind (cnt kind) 2 num (if kind = 1 then jh else val) ⟨ok, tv⟩ := by simp [bcell, bnext, a1, a2]
        rw [e7]
        exact step_look h hm h1 h2 (fun w1 r1 m1 => look_goes r1 m1 h1 h2 hr hnum hxh rfl rfl a1 a2 hx hf')
  · have e4 : breq r ⟨hand, ⟨kind, ja, jb, jc, jh⟩, 2, num, val, ⟨ok, tv⟩⟩ = ⟨hand, 5, cnt kind, num, u64 (num + 1), true⟩ := by simp [breq]
    rw [e4] at hx hf'
    have e5 : bends ⟨hand, ⟨kind, ja, jb, jc, jh⟩, 2, num, val, ⟨ok, tv⟩⟩ x = false := by simp [bends]
    rw [e5, if_neg (by decide)]
    cases hok : x.ok with
    | true =>
      have e7 : bcell r (bnext ⟨hand, ⟨kind, ja, jb, jc, jh⟩, 2, num, val, ⟨ok, tv⟩⟩ x) = pasC hand r kind (cnt kind) 3 num (if kind = 1 then jh else val) ⟨ok, tv⟩ := by simp [bcell, bnext, hok]
      rw [e7]
      exact step_take h hm h1 h2 (fun w1 r1 m1 => take_goes r1 m1 h1 h2 hok hx hf')
    | false =>
      have e7 : bcell r (bnext ⟨hand, ⟨kind, ja, jb, jc, jh⟩, 2, num, val, ⟨ok, tv⟩⟩ x) = pasC hand r kind (cnt kind) 0 num (if kind = 1 then jh else val) ⟨ok, tv⟩ := by simp [bcell, bnext, hok]
      rw [e7]
      exact step_take h hm h1 h2 (fun w1 r1 m1 => take_fails r1 m1 h1 h2 hok hx hf')
  · have e5 : bends ⟨hand, ⟨kind, ja, jb, jc, jh⟩, 3, num, val, ⟨ok, tv⟩⟩ x = false := by simp [bends]
    rw [e5, if_neg (by decide)]
    by_cases k1 : kind = 1
    · have e4 : breq r ⟨hand, ⟨kind, ja, jb, jc, jh⟩, 3, num, val, ⟨ok, tv⟩⟩ = ⟨hand, 2, mrk r num + r, 0, if kind = 1 then jh else val, true⟩ := by simp [breq, k1]
      have e7 : bcell r (bnext ⟨hand, ⟨kind, ja, jb, jc, jh⟩, 3, num, val, ⟨ok, tv⟩⟩ x) = pasC hand r kind (cnt kind) 4 num (if kind = 1 then jh else val) ⟨ok, tv⟩ := by simp [bcell, bnext, k1]
      rw [e4] at hx hf'
      rw [e7]
      exact step_touch h hm h1 h2 (fun w1 r1 m1 => touch_give r1 m1 h1 h2 hr hnum rfl hv k1 hx hf')
    · have e4 : breq r ⟨hand, ⟨kind, ja, jb, jc, jh⟩, 3, num, val, ⟨ok, tv⟩⟩ = ⟨hand, 1, mrk r num + r, 0, 0, true⟩ := by simp [breq, k1]
      have e7 : bcell r (bnext ⟨hand, ⟨kind, ja, jb, jc, jh⟩, 3, num, val, ⟨ok, tv⟩⟩ x) = pasC hand r kind (cnt kind) 4 num x.had ⟨ok, tv⟩ := by simp [bcell, bnext, k1]
      rw [e4] at hx hf'
      rw [e7]
      exact step_touch h hm h1 h2 (fun w1 r1 m1 => touch_fetch r1 m1 h1 h2 hr hnum rfl k1 hx hf')
  · have e4 : breq r ⟨hand, ⟨kind, ja, jb, jc, jh⟩, 4, num, val, ⟨ok, tv⟩⟩ = ⟨hand, 2, mrk r num, 0, dne kind r num, true⟩ := by simp [breq]
    rw [e4] at hx hf'
    have e5 : bends ⟨hand, ⟨kind, ja, jb, jc, jh⟩, 4, num, val, ⟨ok, tv⟩⟩ x = true := by simp [bends]
    rw [e5, if_pos rfl]
    by_cases k1 : kind = 1
    · have e7 : bcell r (bnext ⟨hand, ⟨kind, ja, jb, jc, jh⟩, 4, num, val, ⟨ok, tv⟩⟩ x) = pasC hand r kind (cnt kind) 4 num (if kind = 1 then jh else val) ⟨true, num⟩ := by simp [bcell, bnext, k1]
      rw [e7]
      exact step_leave h hm h1 h2 (fun w1 r1 m1 => leave_give r1 m1 h1 h2 hr hnum rfl rfl k1 hx hf')
    · have e7 : bcell r (bnext ⟨hand, ⟨kind, ja, jb, jc, jh⟩, 4, num, val, ⟨ok, tv⟩⟩ x) = pasC hand r kind (cnt kind) 4 num (if kind = 1 then jh else val) ⟨true, if kind = 1 then jh else val⟩ := by simp [bcell, bnext, k1]
      rw [e7]
      exact step_leave h hm h1 h2 (fun w1 r1 m1 => leave_fetch r1 m1 h1 h2 hr hnum rfl rfl k1 hx hf')

theorem pas_ans {w : World} {b : Nat} {hand room kind count st num value : Int} {t : Ans} (h : w.rowIs b 104 9 (pasC hand room kind count st num value t)) :
    Calls Try.prog 77 #[.pointer (some ⟨b, 0, none⟩)] w fun e w' => e = .returned t.value ∧ w.grownBy w' none := by
  obtain ⟨ok, val⟩ := t
  have h6 : w.cell? ⟨b, 7, none⟩ = some (.bool ok) := h.cell (i := 7) (by omega)
  have h7 : w.cell? ⟨b, 8, none⟩ = some (.int .u64 val) := h.cell (i := 8) (by omega)
  have hl := h.lt
  go_enter Try.func77, Try.ntmps77
  go_wp2
  go_light
  refine bodyPost_ret (v := Ans.value ⟨ok, val⟩) ?_ rfl ⟨rfl, grown_alloc (grown_refl _ _) _⟩
  simp [results, Try.results77, go_sem, Ans.value]

theorem ms (b : Nat) (w : World) : (method 269 102 (.pointer (some ⟨b, 0, none⟩)) "Step").run Try.prog w = .ok (78, .pointer (some ⟨b, 0, none⟩)) w := by kernel_rfl
theorem ma (b : Nat) (w : World) : (method 269 102 (.pointer (some ⟨b, 0, none⟩)) "Answer").run Try.prog w = .ok (77, .pointer (some ⟨b, 0, none⟩)) w := by kernel_rfl
theorem cs (args : Array Value) (w : World) : (callFunc 78 args).run Try.prog w = .ok (.enter 78 args) w := by simp [go_sem]
theorem ca (args : Array Value) (w : World) : (callFunc 77 args).run Try.prog w = .ok (.enter 77 args) w := by simp [go_sem]

theorem isKindO (r : Int) (hr1 : 1 ≤ r) (hr2 : r ≤ 64) : IsKindO (kBelt r) where
  ok := ⟨fun h j hj => ⟨rfl, wf_init r h hj⟩, fun j s n f hf ⟨hs, H⟩ => ⟨(bnext_j s _).trans hs, bnext_wf H (had_bounds hf _)⟩⟩
  step := fun hf hj h hm h1 h2 => step_any ⟨hr1, hr2⟩ hj h hm h1 h2
  ans := fun hf hj h => pas_ans h
  mstep := fun j hf b w => ms b w
  mans := fun j hf b w => ma b w
  cstep := fun j hf args w => cs args w
  cans := fun j hf args w => ca args w
theorem isKind (r : Int) (hr1 : 1 ≤ r) (hr2 : r ≤ 64) : IsKind (kBelt r) := (isKindO r hr1 hr2).to
end Belt
end Go.Proofs.Ytchhkoalibapiaa
