/-
  Lemmas: PileK.
-/
import Derived.Test.YtbjlpmahomjgjaaTx03
import Derived.Test.YtbjlpmahomjgjaaTx04
import Derived.Test.YtbjlpmahomjgjaaTx05
set_option linter.unusedVariables false
set_option linter.unusedSimpArgs false
set_option maxRecDepth 20000
namespace Go.Proofs.Ytbjlpmahomjgjaa
open Go.RowKit
namespace Pile

set_option maxHeartbeats 4000000 in
theorem step_find {w : World} {b bm bw n : Nat} {f f' : Nat → Int} {x : Stp} {v : Int} {hand kind fr on head place below value : Int} {t : Ans} {C' : Nat → Value} (h : w.rowIs b 130 11 (carC hand kind fr on 0 head place below value t)) (hm : IsMem w bm bw n f) (h1 : b ≠ bm) (h2 : b ≠ bw)
    (hc : ∀ w1 : World, w1.rowIs b 130 11 (carC hand kind fr on 0 head place below value t) → IsMem w1 bm bw n f → Calls Try.prog 160 #[.pointer (some ⟨b, 0, none⟩), .pointer (some ⟨bm, 0, none⟩)] w1 fun e w' => e = .returned (.tuple #[x.val, .int .i64 v]) ∧ w'.rowIs b 130 11 C' ∧ IsMem w' bm bw n f' ∧ Touch w1 w' (fun k => k = b ∨ k = bw)) :
    Calls Try.prog 159 #[.pointer (some ⟨b, 0, none⟩), .pointer (some ⟨bm, 0, none⟩)] w fun e w' => e = .returned (.tuple #[x.val, .int .i64 v]) ∧ w'.rowIs b 130 11 C' ∧ IsMem w' bm bw n f' ∧ Touch w w' (fun k => k = b ∨ k = bw) := by
  have c4 : w.cell? ⟨b, 4, none⟩ = some (.int .i64 0) := h.cell (i := 4) (by omega)
  have hl := h.lt
  have lw := hm.row.lt
  have lm0 := hm.head.lt
  have K0 := hide (hc (w.alloc (.cells #[.int .i64 0, .int .i64 0, .int .i64 0, .int .u64 0, .int .u64 0, .bool false] 63)) (h.alloc _) (hm.alloc _))
  have RW := hide (row0 w)
  clear h hm hc
  go_enter Try.func159, Try.ntmps159
  go_wp2_with fail
  refine K0.out.mono ?_
  rintro e w1 ⟨rfl, row1, mem1, t1⟩
  simp only [Stp.val]
  have s1 := t1.size
  simp only [World.size_alloc] at s1
  have RR := hide (RW.out.of_block (t1.block w.heap.size (by simp) (by omega)))
  have R1 := hide row1
  have M1 := hide mem1
  have T1 := hide (((Touch.refl w (fun k => k = b ∨ k = bw)).alloc (.cells #[.int .i64 0, .int .i64 0, .int .i64 0, .int .u64 0, .int .u64 0, .bool false] 63)).trans t1)
  have l2 : w.heap.size < w1.heap.size := by omega
  have hn3 : w.heap.size ≠ b := by omega
  have hn4 : w.heap.size ≠ bw := by omega
  clear row1 mem1 t1 c4
  have r0 : w1.cell? ⟨w.heap.size, 0, none⟩ = some (.int .i64 0) := RR.out.cell (i := 0) (by omega)
  have rf0 := RR.out.frozen 0
  have r1 : w1.cell? ⟨w.heap.size, 1, none⟩ = some (.int .i64 0) := RR.out.cell (i := 1) (by omega)
  have rf1 := RR.out.frozen 1
  have r2 : w1.cell? ⟨w.heap.size, 2, none⟩ = some (.int .i64 0) := RR.out.cell (i := 2) (by omega)
  have rf2 := RR.out.frozen 2
  have r3 : w1.cell? ⟨w.heap.size, 3, none⟩ = some (.int .u64 0) := RR.out.cell (i := 3) (by omega)
  have rf3 := RR.out.frozen 3
  have r4 : w1.cell? ⟨w.heap.size, 4, none⟩ = some (.int .u64 0) := RR.out.cell (i := 4) (by omega)
  have rf4 := RR.out.frozen 4
  have r5 : w1.cell? ⟨w.heap.size, 5, none⟩ = some (.bool false) := RR.out.cell (i := 5) (by omega)
  have rf5 := RR.out.frozen 5
  go_wp2_with fail
  go_light
  refine bodyPost_ret (v := .tuple #[x.val, .int .i64 v]) ?res rfl ⟨rfl, ?row, ?mem, ?tch⟩
  case row =>
    repeat (first | (with_reducible apply World.rowIs.alloc) | (with_reducible apply World.rowIs.drew) | (with_reducible refine World.rowIs.setOther ?_ ?side _; case side => (simp; omega)))
    with_reducible exact R1.out
  case mem =>
    repeat (first | (with_reducible apply IsMem.alloc) | (with_reducible apply IsMem.drew) | ((with_reducible refine IsMem.setOther ?_ ?_ ?_ _); rotate_left; (simp; omega); (simp; omega)))
    with_reducible exact M1.out
  case tch =>
    repeat (first | (with_reducible apply Touch.alloc) | (with_reducible apply Touch.drew) | (with_reducible refine Touch.setCell ?_ _ ?side _; case side => simp))
    with_reducible exact T1.out
  case res => simp [results, Try.results159, go_sem, Stp.val, *]

set_option maxHeartbeats 4000000 in
theorem step_look {w : World} {b bm bw n : Nat} {f f' : Nat → Int} {x : Stp} {v : Int} {hand kind fr on head place below value : Int} {t : Ans} {C' : Nat → Value} (h : w.rowIs b 130 11 (carC hand kind fr on 1 head place below value t)) (hm : IsMem w bm bw n f) (h1 : b ≠ bm) (h2 : b ≠ bw)
    (hc : ∀ w1 : World, w1.rowIs b 130 11 (carC hand kind fr on 1 head place below value t) → IsMem w1 bm bw n f → Calls Try.prog 161 #[.pointer (some ⟨b, 0, none⟩), .pointer (some ⟨bm, 0, none⟩)] w1 fun e w' => e = .returned (.tuple #[x.val, .int .i64 v]) ∧ w'.rowIs b 130 11 C' ∧ IsMem w' bm bw n f' ∧ Touch w1 w' (fun k => k = b ∨ k = bw)) :
    Calls Try.prog 159 #[.pointer (some ⟨b, 0, none⟩), .pointer (some ⟨bm, 0, none⟩)] w fun e w' => e = .returned (.tuple #[x.val, .int .i64 v]) ∧ w'.rowIs b 130 11 C' ∧ IsMem w' bm bw n f' ∧ Touch w w' (fun k => k = b ∨ k = bw) := by
  have c4 : w.cell? ⟨b, 4, none⟩ = some (.int .i64 1) := h.cell (i := 4) (by omega)
  have hl := h.lt
  have lw := hm.row.lt
  have lm0 := hm.head.lt
  have K0 := hide (hc (w.alloc (.cells #[.int .i64 0, .int .i64 0, .int .i64 0, .int .u64 0, .int .u64 0, .bool false] 63)) (h.alloc _) (hm.alloc _))
  have RW := hide (row0 w)
  clear h hm hc
  go_enter Try.func159, Try.ntmps159
  go_wp2_with fail
  refine K0.out.mono ?_
  rintro e w1 ⟨rfl, row1, mem1, t1⟩
  simp only [Stp.val]
  have s1 := t1.size
  simp only [World.size_alloc] at s1
  have RR := hide (RW.out.of_block (t1.block w.heap.size (by simp) (by omega)))
  have R1 := hide row1
  have M1 := hide mem1
  have T1 := hide (((Touch.refl w (fun k => k = b ∨ k = bw)).alloc (.cells #[.int .i64 0, .int .i64 0, .int .i64 0, .int .u64 0, .int .u64 0, .bool false] 63)).trans t1)
  have l2 : w.heap.size < w1.heap.size := by omega
  have hn3 : w.heap.size ≠ b := by omega
  have hn4 : w.heap.size ≠ bw := by omega
  clear row1 mem1 t1 c4
  have r0 : w1.cell? ⟨w.heap.size, 0, none⟩ = some (.int .i64 0) := RR.out.cell (i := 0) (by omega)
  have rf0 := RR.out.frozen 0
  have r1 : w1.cell? ⟨w.heap.size, 1, none⟩ = some (.int .i64 0) := RR.out.cell (i := 1) (by omega)
  have rf1 := RR.out.frozen 1
  have r2 : w1.cell? ⟨w.heap.size, 2, none⟩ = some (.int .i64 0) := RR.out.cell (i := 2) (by omega)
  have rf2 := RR.out.frozen 2
  have r3 : w1.cell? ⟨w.heap.size, 3, none⟩ = some (.int .u64 0) := RR.out.cell (i := 3) (by omega)
  have rf3 := RR.out.frozen 3
  have r4 : w1.cell? ⟨w.heap.size, 4, none⟩ = some (.int .u64 0) := RR.out.cell (i := 4) (by omega)
  have rf4 := RR.out.frozen 4
  have r5 : w1.cell? ⟨w.heap.size, 5, none⟩ = some (.bool false) := RR.out.cell (i := 5) (by omega)
  have rf5 := RR.out.frozen 5
  go_wp2_with fail
  go_light
  refine bodyPost_ret (v := .tuple #[x.val, .int .i64 v]) ?res rfl ⟨rfl, ?row, ?mem, ?tch⟩
  case row =>
    repeat (first | (with_reducible apply World.rowIs.alloc) | (with_reducible apply World.rowIs.drew) | (with_reducible refine World.rowIs.setOther ?_ ?side _; case side => (simp; omega)))
    with_reducible exact R1.out
  case mem =>
    repeat (first | (with_reducible apply IsMem.alloc) | (with_reducible apply IsMem.drew) | ((with_reducible refine IsMem.setOther ?_ ?_ ?_ _); rotate_left; (simp; omega); (simp; omega)))
    with_reducible exact M1.out
  case tch =>
    repeat (first | (with_reducible apply Touch.alloc) | (with_reducible apply Touch.drew) | (with_reducible refine Touch.setCell ?_ _ ?side _; case side => simp))
    with_reducible exact T1.out
  case res => simp [results, Try.results159, go_sem, Stp.val, *]

set_option maxHeartbeats 4000000 in
theorem step_take {w : World} {b bm bw n : Nat} {f f' : Nat → Int} {x : Stp} {v : Int} {hand kind fr on head place below value : Int} {t : Ans} {C' : Nat → Value} (h : w.rowIs b 130 11 (carC hand kind fr on 2 head place below value t)) (hm : IsMem w bm bw n f) (h1 : b ≠ bm) (h2 : b ≠ bw)
    (hc : ∀ w1 : World, w1.rowIs b 130 11 (carC hand kind fr on 2 head place below value t) → IsMem w1 bm bw n f → Calls Try.prog 162 #[.pointer (some ⟨b, 0, none⟩), .pointer (some ⟨bm, 0, none⟩)] w1 fun e w' => e = .returned (.tuple #[x.val, .int .i64 v]) ∧ w'.rowIs b 130 11 C' ∧ IsMem w' bm bw n f' ∧ Touch w1 w' (fun k => k = b ∨ k = bw)) :
    Calls Try.prog 159 #[.pointer (some ⟨b, 0, none⟩), .pointer (some ⟨bm, 0, none⟩)] w fun e w' => e = .returned (.tuple #[x.val, .int .i64 v]) ∧ w'.rowIs b 130 11 C' ∧ IsMem w' bm bw n f' ∧ Touch w w' (fun k => k = b ∨ k = bw) := by
  have c4 : w.cell? ⟨b, 4, none⟩ = some (.int .i64 2) := h.cell (i := 4) (by omega)
  have hl := h.lt
  have lw := hm.row.lt
  have lm0 := hm.head.lt
  have K0 := hide (hc (w.alloc (.cells #[.int .i64 0, .int .i64 0, .int .i64 0, .int .u64 0, .int .u64 0, .bool false] 63)) (h.alloc _) (hm.alloc _))
  have RW := hide (row0 w)
  clear h hm hc
  go_enter Try.func159, Try.ntmps159
  go_wp2_with fail
  refine K0.out.mono ?_
  rintro e w1 ⟨rfl, row1, mem1, t1⟩
  simp only [Stp.val]
  have s1 := t1.size
  simp only [World.size_alloc] at s1
  have RR := hide (RW.out.of_block (t1.block w.heap.size (by simp) (by omega)))
  have R1 := hide row1
  have M1 := hide mem1
  have T1 := hide (((Touch.refl w (fun k => k = b ∨ k = bw)).alloc (.cells #[.int .i64 0, .int .i64 0, .int .i64 0, .int .u64 0, .int .u64 0, .bool false] 63)).trans t1)
  have l2 : w.heap.size < w1.heap.size := by omega
  have hn3 : w.heap.size ≠ b := by omega
  have hn4 : w.heap.size ≠ bw := by omega
  clear row1 mem1 t1 c4
  have r0 : w1.cell? ⟨w.heap.size, 0, none⟩ = some (.int .i64 0) := RR.out.cell (i := 0) (by omega)
  have rf0 := RR.out.frozen 0
  have r1 : w1.cell? ⟨w.heap.size, 1, none⟩ = some (.int .i64 0) := RR.out.cell (i := 1) (by omega)
  have rf1 := RR.out.frozen 1
  have r2 : w1.cell? ⟨w.heap.size, 2, none⟩ = some (.int .i64 0) := RR.out.cell (i := 2) (by omega)
  have rf2 := RR.out.frozen 2
  have r3 : w1.cell? ⟨w.heap.size, 3, none⟩ = some (.int .u64 0) := RR.out.cell (i := 3) (by omega)
  have rf3 := RR.out.frozen 3
  have r4 : w1.cell? ⟨w.heap.size, 4, none⟩ = some (.int .u64 0) := RR.out.cell (i := 4) (by omega)
  have rf4 := RR.out.frozen 4
  have r5 : w1.cell? ⟨w.heap.size, 5, none⟩ = some (.bool false) := RR.out.cell (i := 5) (by omega)
  have rf5 := RR.out.frozen 5
  go_wp2_with fail
  go_light
  refine bodyPost_ret (v := .tuple #[x.val, .int .i64 v]) ?res rfl ⟨rfl, ?row, ?mem, ?tch⟩
  case row =>
    repeat (first | (with_reducible apply World.rowIs.alloc) | (with_reducible apply World.rowIs.drew) | (with_reducible refine World.rowIs.setOther ?_ ?side _; case side => (simp; omega)))
    with_reducible exact R1.out
  case mem =>
    repeat (first | (with_reducible apply IsMem.alloc) | (with_reducible apply IsMem.drew) | ((with_reducible refine IsMem.setOther ?_ ?_ ?_ _); rotate_left; (simp; omega); (simp; omega)))
    with_reducible exact M1.out
  case tch =>
    repeat (first | (with_reducible apply Touch.alloc) | (with_reducible apply Touch.drew) | (with_reducible refine Touch.setCell ?_ _ ?side _; case side => simp))
    with_reducible exact T1.out
  case res => simp [results, Try.results159, go_sem, Stp.val, *]

set_option maxHeartbeats 4000000 in
theorem step_touch {w : World} {b bm bw n : Nat} {f f' : Nat → Int} {x : Stp} {v : Int} {hand kind fr on head place below value : Int} {t : Ans} {C' : Nat → Value} (h : w.rowIs b 130 11 (carC hand kind fr on 3 head place below value t)) (hm : IsMem w bm bw n f) (h1 : b ≠ bm) (h2 : b ≠ bw)
    (hc : ∀ w1 : World, w1.rowIs b 130 11 (carC hand kind fr on 3 head place below value t) → IsMem w1 bm bw n f → Calls Try.prog 163 #[.pointer (some ⟨b, 0, none⟩), .pointer (some ⟨bm, 0, none⟩)] w1 fun e w' => e = .returned (.tuple #[x.val, .int .i64 v]) ∧ w'.rowIs b 130 11 C' ∧ IsMem w' bm bw n f' ∧ Touch w1 w' (fun k => k = b ∨ k = bw)) :
    Calls Try.prog 159 #[.pointer (some ⟨b, 0, none⟩), .pointer (some ⟨bm, 0, none⟩)] w fun e w' => e = .returned (.tuple #[x.val, .int .i64 v]) ∧ w'.rowIs b 130 11 C' ∧ IsMem w' bm bw n f' ∧ Touch w w' (fun k => k = b ∨ k = bw) := by
  have c4 : w.cell? ⟨b, 4, none⟩ = some (.int .i64 3) := h.cell (i := 4) (by omega)
  have hl := h.lt
  have lw := hm.row.lt
  have lm0 := hm.head.lt
  have K0 := hide (hc (w.alloc (.cells #[.int .i64 0, .int .i64 0, .int .i64 0, .int .u64 0, .int .u64 0, .bool false] 63)) (h.alloc _) (hm.alloc _))
  have RW := hide (row0 w)
  clear h hm hc
  go_enter Try.func159, Try.ntmps159
  go_wp2_with fail
  refine K0.out.mono ?_
  rintro e w1 ⟨rfl, row1, mem1, t1⟩
  simp only [Stp.val]
  have s1 := t1.size
  simp only [World.size_alloc] at s1
  have RR := hide (RW.out.of_block (t1.block w.heap.size (by simp) (by omega)))
  have R1 := hide row1
  have M1 := hide mem1
  have T1 := hide (((Touch.refl w (fun k => k = b ∨ k = bw)).alloc (.cells #[.int .i64 0, .int .i64 0, .int .i64 0, .int .u64 0, .int .u64 0, .bool false] 63)).trans t1)
  have l2 : w.heap.size < w1.heap.size := by omega
  have hn3 : w.heap.size ≠ b := by omega
  have hn4 : w.heap.size ≠ bw := by omega
  clear row1 mem1 t1 c4
  have r0 : w1.cell? ⟨w.heap.size, 0, none⟩ = some (.int .i64 0) := RR.out.cell (i := 0) (by omega)
  have rf0 := RR.out.frozen 0
  have r1 : w1.cell? ⟨w.heap.size, 1, none⟩ = some (.int .i64 0) := RR.out.cell (i := 1) (by omega)
  have rf1 := RR.out.frozen 1
  have r2 : w1.cell? ⟨w.heap.size, 2, none⟩ = some (.int .i64 0) := RR.out.cell (i := 2) (by omega)
  have rf2 := RR.out.frozen 2
  have r3 : w1.cell? ⟨w.heap.size, 3, none⟩ = some (.int .u64 0) := RR.out.cell (i := 3) (by omega)
  have rf3 := RR.out.frozen 3
  have r4 : w1.cell? ⟨w.heap.size, 4, none⟩ = some (.int .u64 0) := RR.out.cell (i := 4) (by omega)
  have rf4 := RR.out.frozen 4
  have r5 : w1.cell? ⟨w.heap.size, 5, none⟩ = some (.bool false) := RR.out.cell (i := 5) (by omega)
  have rf5 := RR.out.frozen 5
  go_wp2_with fail
  go_light
  refine bodyPost_ret (v := .tuple #[x.val, .int .i64 v]) ?res rfl ⟨rfl, ?row, ?mem, ?tch⟩
  case row =>
    repeat (first | (with_reducible apply World.rowIs.alloc) | (with_reducible apply World.rowIs.drew) | (with_reducible refine World.rowIs.setOther ?_ ?side _; case side => (simp; omega)))
    with_reducible exact R1.out
  case mem =>
    repeat (first | (with_reducible apply IsMem.alloc) | (with_reducible apply IsMem.drew) | ((with_reducible refine IsMem.setOther ?_ ?_ ?_ _); rotate_left; (simp; omega); (simp; omega)))
    with_reducible exact M1.out
  case tch =>
    repeat (first | (with_reducible apply Touch.alloc) | (with_reducible apply Touch.drew) | (with_reducible refine Touch.setCell ?_ _ ?side _; case side => simp))
    with_reducible exact T1.out
  case res => simp [results, Try.results159, go_sem, Stp.val, *]

set_option maxHeartbeats 4000000 in
theorem step_meet {w : World} {b bm bw n : Nat} {f f' : Nat → Int} {x : Stp} {v : Int} {hand kind fr on head place below value : Int} {t : Ans} {C' : Nat → Value} (h : w.rowIs b 130 11 (carC hand kind fr on 4 head place below value t)) (hm : IsMem w bm bw n f) (h1 : b ≠ bm) (h2 : b ≠ bw)
    (hc : ∀ w1 : World, w1.rowIs b 130 11 (carC hand kind fr on 4 head place below value t) → IsMem w1 bm bw n f → Calls Try.prog 164 #[.pointer (some ⟨b, 0, none⟩), .pointer (some ⟨bm, 0, none⟩)] w1 fun e w' => e = .returned (.tuple #[x.val, .int .i64 v]) ∧ w'.rowIs b 130 11 C' ∧ IsMem w' bm bw n f' ∧ Touch w1 w' (fun k => k = b ∨ k = bw)) :
    Calls Try.prog 159 #[.pointer (some ⟨b, 0, none⟩), .pointer (some ⟨bm, 0, none⟩)] w fun e w' => e = .returned (.tuple #[x.val, .int .i64 v]) ∧ w'.rowIs b 130 11 C' ∧ IsMem w' bm bw n f' ∧ Touch w w' (fun k => k = b ∨ k = bw) := by
  have c4 : w.cell? ⟨b, 4, none⟩ = some (.int .i64 4) := h.cell (i := 4) (by omega)
  have hl := h.lt
  have lw := hm.row.lt
  have lm0 := hm.head.lt
  have K0 := hide (hc (w.alloc (.cells #[.int .i64 0, .int .i64 0, .int .i64 0, .int .u64 0, .int .u64 0, .bool false] 63)) (h.alloc _) (hm.alloc _))
  have RW := hide (row0 w)
  clear h hm hc
  go_enter Try.func159, Try.ntmps159
  go_wp2_with fail
  refine K0.out.mono ?_
  rintro e w1 ⟨rfl, row1, mem1, t1⟩
  simp only [Stp.val]
  have s1 := t1.size
  simp only [World.size_alloc] at s1
  have RR := hide (RW.out.of_block (t1.block w.heap.size (by simp) (by omega)))
  have R1 := hide row1
  have M1 := hide mem1
  have T1 := hide (((Touch.refl w (fun k => k = b ∨ k = bw)).alloc (.cells #[.int .i64 0, .int .i64 0, .int .i64 0, .int .u64 0, .int .u64 0, .bool false] 63)).trans t1)
  have l2 : w.heap.size < w1.heap.size := by omega
  have hn3 : w.heap.size ≠ b := by omega
  have hn4 : w.heap.size ≠ bw := by omega
  clear row1 mem1 t1 c4
  have r0 : w1.cell? ⟨w.heap.size, 0, none⟩ = some (.int .i64 0) := RR.out.cell (i := 0) (by omega)
  have rf0 := RR.out.frozen 0
  have r1 : w1.cell? ⟨w.heap.size, 1, none⟩ = some (.int .i64 0) := RR.out.cell (i := 1) (by omega)
  have rf1 := RR.out.frozen 1
  have r2 : w1.cell? ⟨w.heap.size, 2, none⟩ = some (.int .i64 0) := RR.out.cell (i := 2) (by omega)
  have rf2 := RR.out.frozen 2
  have r3 : w1.cell? ⟨w.heap.size, 3, none⟩ = some (.int .u64 0) := RR.out.cell (i := 3) (by omega)
  have rf3 := RR.out.frozen 3
  have r4 : w1.cell? ⟨w.heap.size, 4, none⟩ = some (.int .u64 0) := RR.out.cell (i := 4) (by omega)
  have rf4 := RR.out.frozen 4
  have r5 : w1.cell? ⟨w.heap.size, 5, none⟩ = some (.bool false) := RR.out.cell (i := 5) (by omega)
  have rf5 := RR.out.frozen 5
  go_wp2_with fail
  go_light
  refine bodyPost_ret (v := .tuple #[x.val, .int .i64 v]) ?res rfl ⟨rfl, ?row, ?mem, ?tch⟩
  case row =>
    repeat (first | (with_reducible apply World.rowIs.alloc) | (with_reducible apply World.rowIs.drew) | (with_reducible refine World.rowIs.setOther ?_ ?side _; case side => (simp; omega)))
    with_reducible exact R1.out
  case mem =>
    repeat (first | (with_reducible apply IsMem.alloc) | (with_reducible apply IsMem.drew) | ((with_reducible refine IsMem.setOther ?_ ?_ ?_ _); rotate_left; (simp; omega); (simp; omega)))
    with_reducible exact M1.out
  case tch =>
    repeat (first | (with_reducible apply Touch.alloc) | (with_reducible apply Touch.drew) | (with_reducible refine Touch.setCell ?_ _ ?side _; case side => simp))
    with_reducible exact T1.out
  case res => simp [results, Try.results159, go_sem, Stp.val, *]

set_option maxHeartbeats 4000000 in
theorem step_link {w : World} {b bm bw n : Nat} {f f' : Nat → Int} {x : Stp} {v : Int} {hand kind fr on head place below value : Int} {t : Ans} {C' : Nat → Value} (h : w.rowIs b 130 11 (carC hand kind fr on 5 head place below value t)) (hm : IsMem w bm bw n f) (h1 : b ≠ bm) (h2 : b ≠ bw)
    (hc : ∀ w1 : World, w1.rowIs b 130 11 (carC hand kind fr on 5 head place below value t) → IsMem w1 bm bw n f → Calls Try.prog 165 #[.pointer (some ⟨b, 0, none⟩), .pointer (some ⟨bm, 0, none⟩)] w1 fun e w' => e = .returned (.tuple #[x.val, .int .i64 v]) ∧ w'.rowIs b 130 11 C' ∧ IsMem w' bm bw n f' ∧ Touch w1 w' (fun k => k = b ∨ k = bw)) :
    Calls Try.prog 159 #[.pointer (some ⟨b, 0, none⟩), .pointer (some ⟨bm, 0, none⟩)] w fun e w' => e = .returned (.tuple #[x.val, .int .i64 v]) ∧ w'.rowIs b 130 11 C' ∧ IsMem w' bm bw n f' ∧ Touch w w' (fun k => k = b ∨ k = bw) := by
  have c4 : w.cell? ⟨b, 4, none⟩ = some (.int .i64 5) := h.cell (i := 4) (by omega)
  have hl := h.lt
  have lw := hm.row.lt
  have lm0 := hm.head.lt
  have K0 := hide (hc (w.alloc (.cells #[.int .i64 0, .int .i64 0, .int .i64 0, .int .u64 0, .int .u64 0, .bool false] 63)) (h.alloc _) (hm.alloc _))
  have RW := hide (row0 w)
  clear h hm hc
  go_enter Try.func159, Try.ntmps159
  go_wp2_with fail
  refine K0.out.mono ?_
  rintro e w1 ⟨rfl, row1, mem1, t1⟩
  simp only [Stp.val]
  have s1 := t1.size
  simp only [World.size_alloc] at s1
  have RR := hide (RW.out.of_block (t1.block w.heap.size (by simp) (by omega)))
  have R1 := hide row1
  have M1 := hide mem1
  have T1 := hide (((Touch.refl w (fun k => k = b ∨ k = bw)).alloc (.cells #[.int .i64 0, .int .i64 0, .int .i64 0, .int .u64 0, .int .u64 0, .bool false] 63)).trans t1)
  have l2 : w.heap.size < w1.heap.size := by omega
  have hn3 : w.heap.size ≠ b := by omega
  have hn4 : w.heap.size ≠ bw := by omega
  clear row1 mem1 t1 c4
  have r0 : w1.cell? ⟨w.heap.size, 0, none⟩ = some (.int .i64 0) := RR.out.cell (i := 0) (by omega)
  have rf0 := RR.out.frozen 0
  have r1 : w1.cell? ⟨w.heap.size, 1, none⟩ = some (.int .i64 0) := RR.out.cell (i := 1) (by omega)
  have rf1 := RR.out.frozen 1
  have r2 : w1.cell? ⟨w.heap.size, 2, none⟩ = some (.int .i64 0) := RR.out.cell (i := 2) (by omega)
  have rf2 := RR.out.frozen 2
  have r3 : w1.cell? ⟨w.heap.size, 3, none⟩ = some (.int .u64 0) := RR.out.cell (i := 3) (by omega)
  have rf3 := RR.out.frozen 3
  have r4 : w1.cell? ⟨w.heap.size, 4, none⟩ = some (.int .u64 0) := RR.out.cell (i := 4) (by omega)
  have rf4 := RR.out.frozen 4
  have r5 : w1.cell? ⟨w.heap.size, 5, none⟩ = some (.bool false) := RR.out.cell (i := 5) (by omega)
  have rf5 := RR.out.frozen 5
  go_wp2_with fail
  go_light
  refine bodyPost_ret (v := .tuple #[x.val, .int .i64 v]) ?res rfl ⟨rfl, ?row, ?mem, ?tch⟩
  case row =>
    repeat (first | (with_reducible apply World.rowIs.alloc) | (with_reducible apply World.rowIs.drew) | (with_reducible refine World.rowIs.setOther ?_ ?side _; case side => (simp; omega)))
    with_reducible exact R1.out
  case mem =>
    repeat (first | (with_reducible apply IsMem.alloc) | (with_reducible apply IsMem.drew) | ((with_reducible refine IsMem.setOther ?_ ?_ ?_ _); rotate_left; (simp; omega); (simp; omega)))
    with_reducible exact M1.out
  case tch =>
    repeat (first | (with_reducible apply Touch.alloc) | (with_reducible apply Touch.drew) | (with_reducible refine Touch.setCell ?_ _ ?side _; case side => simp))
    with_reducible exact T1.out
  case res => simp [results, Try.results159, go_sem, Stp.val, *]

set_option maxHeartbeats 4000000 in
theorem step_lay {w : World} {b bm bw n : Nat} {f f' : Nat → Int} {x : Stp} {v : Int} {hand kind fr on head place below value : Int} {t : Ans} {C' : Nat → Value} (h : w.rowIs b 130 11 (carC hand kind fr on 6 head place below value t)) (hm : IsMem w bm bw n f) (h1 : b ≠ bm) (h2 : b ≠ bw)
    (hc : ∀ w1 : World, w1.rowIs b 130 11 (carC hand kind fr on 6 head place below value t) → IsMem w1 bm bw n f → Calls Try.prog 166 #[.pointer (some ⟨b, 0, none⟩), .pointer (some ⟨bm, 0, none⟩)] w1 fun e w' => e = .returned (.tuple #[x.val, .int .i64 v]) ∧ w'.rowIs b 130 11 C' ∧ IsMem w' bm bw n f' ∧ Touch w1 w' (fun k => k = b ∨ k = bw)) :
    Calls Try.prog 159 #[.pointer (some ⟨b, 0, none⟩), .pointer (some ⟨bm, 0, none⟩)] w fun e w' => e = .returned (.tuple #[x.val, .int .i64 v]) ∧ w'.rowIs b 130 11 C' ∧ IsMem w' bm bw n f' ∧ Touch w w' (fun k => k = b ∨ k = bw) := by
  have c4 : w.cell? ⟨b, 4, none⟩ = some (.int .i64 6) := h.cell (i := 4) (by omega)
  have hl := h.lt
  have lw := hm.row.lt
  have lm0 := hm.head.lt
  have K0 := hide (hc (w.alloc (.cells #[.int .i64 0, .int .i64 0, .int .i64 0, .int .u64 0, .int .u64 0, .bool false] 63)) (h.alloc _) (hm.alloc _))
  have RW := hide (row0 w)
  clear h hm hc
  go_enter Try.func159, Try.ntmps159
  go_wp2_with fail
  refine K0.out.mono ?_
  rintro e w1 ⟨rfl, row1, mem1, t1⟩
  simp only [Stp.val]
  have s1 := t1.size
  simp only [World.size_alloc] at s1
  have RR := hide (RW.out.of_block (t1.block w.heap.size (by simp) (by omega)))
  have R1 := hide row1
  have M1 := hide mem1
  have T1 := hide (((Touch.refl w (fun k => k = b ∨ k = bw)).alloc (.cells #[.int .i64 0, .int .i64 0, .int .i64 0, .int .u64 0, .int .u64 0, .bool false] 63)).trans t1)
  have l2 : w.heap.size < w1.heap.size := by omega
  have hn3 : w.heap.size ≠ b := by omega
  have hn4 : w.heap.size ≠ bw := by omega
  clear row1 mem1 t1 c4
  have r0 : w1.cell? ⟨w.heap.size, 0, none⟩ = some (.int .i64 0) := RR.out.cell (i := 0) (by omega)
  have rf0 := RR.out.frozen 0
  have r1 : w1.cell? ⟨w.heap.size, 1, none⟩ = some (.int .i64 0) := RR.out.cell (i := 1) (by omega)
  have rf1 := RR.out.frozen 1
  have r2 : w1.cell? ⟨w.heap.size, 2, none⟩ = some (.int .i64 0) := RR.out.cell (i := 2) (by omega)
  have rf2 := RR.out.frozen 2
  have r3 : w1.cell? ⟨w.heap.size, 3, none⟩ = some (.int .u64 0) := RR.out.cell (i := 3) (by omega)
  have rf3 := RR.out.frozen 3
  have r4 : w1.cell? ⟨w.heap.size, 4, none⟩ = some (.int .u64 0) := RR.out.cell (i := 4) (by omega)
  have rf4 := RR.out.frozen 4
  have r5 : w1.cell? ⟨w.heap.size, 5, none⟩ = some (.bool false) := RR.out.cell (i := 5) (by omega)
  have rf5 := RR.out.frozen 5
  go_wp2_with fail
  go_light
  refine bodyPost_ret (v := .tuple #[x.val, .int .i64 v]) ?res rfl ⟨rfl, ?row, ?mem, ?tch⟩
  case row =>
    repeat (first | (with_reducible apply World.rowIs.alloc) | (with_reducible apply World.rowIs.drew) | (with_reducible refine World.rowIs.setOther ?_ ?side _; case side => (simp; omega)))
    with_reducible exact R1.out
  case mem =>
    repeat (first | (with_reducible apply IsMem.alloc) | (with_reducible apply IsMem.drew) | ((with_reducible refine IsMem.setOther ?_ ?_ ?_ _); rotate_left; (simp; omega); (simp; omega)))
    with_reducible exact M1.out
  case tch =>
    repeat (first | (with_reducible apply Touch.alloc) | (with_reducible apply Touch.drew) | (with_reducible refine Touch.setCell ?_ _ ?side _; case side => simp))
    with_reducible exact T1.out
  case res => simp [results, Try.results159, go_sem, Stp.val, *]

set_option maxHeartbeats 1000000 in
theorem step_any {w : World} {b bm bw n : Nat} {f : Nat → Int} {s : PiS} {j : Jb} (hj : s.j = j ∧ Wf s) (h : w.rowIs b 130 11 (pcell s)) (hm : IsMem w bm bw n f) (h1 : b ≠ bm) (h2 : b ≠ bw) :
    Calls Try.prog 159 #[.pointer (some ⟨b, 0, none⟩), .pointer (some ⟨bm, 0, none⟩)] w fun e w' => e = .returned (.tuple #[(stepOf n f (preq s)).val, .int .i64 (if pends s (stepOf n f (preq s)) = true then 1 else 0)]) ∧
      w'.rowIs b 130 11 (pcell (pnext s (stepOf n f (preq s)))) ∧ IsMem w' bm bw n (wordsOf n f (preq s)) ∧ Touch w w' (fun k => k = b ∨ k = bw) := by
  obtain ⟨rfl, H⟩ := hj
  have hxh := had_bounds hm.word (preq s)
  obtain ⟨x, hx⟩ : ∃ x, stepOf n f (preq s) = x := ⟨_, rfl⟩
  obtain ⟨f', hf'⟩ : ∃ f', wordsOf n f (preq s) = f' := ⟨_, rfl⟩
  rw [hx] at hxh
  rw [hx, hf']
  obtain ⟨st0, st6, hk, hh, hhd, hp, hlow, hval⟩ := H
  obtain ⟨hand, ⟨kind, ja, jb, jc, jh⟩, st, head, place, low, val, ⟨ok, tv⟩⟩ := s
  simp only at st0 st6 hk hh hhd hp hlow hval hx hf' h ⊢
  have hv : 0 ≤ (if kind = 1 then jh else val) ∧ (if kind = 1 then jh else val) ≤ 18446744073709551615 := by
    split
    · exact hh
    · exact hval
  have ec : pcell ⟨hand, ⟨kind, ja, jb, jc, jh⟩, st, head, place, low, val, ⟨ok, tv⟩⟩ = carC hand kind (frm kind) (ont kind) st head place (idx low) (if kind = 1 then jh else val) ⟨ok, tv⟩ := rfl
  rw [ec] at h
  obtain rfl | rfl | rfl | rfl | rfl | rfl | rfl : st = 0 ∨ st = 1 ∨ st = 2 ∨ st = 3 ∨ st = 4 ∨ st = 5 ∨ st = 6 := by omega
  · have e4 : preq ⟨hand, ⟨kind, ja, jb, jc, jh⟩, 0, head, place, low, val, ⟨ok, tv⟩⟩ = ⟨hand, 1, frm kind, 0, 0, true⟩ := by simp [preq]
    rw [e4] at hx hf'
    by_cases hz : idx x.had = 0
    · have e5 : pends ⟨hand, ⟨kind, ja, jb, jc, jh⟩, 0, head, place, low, val, ⟨ok, tv⟩⟩ x = true := by simp [pends, hz]
      have e7 : pcell (pnext ⟨hand, ⟨kind, ja, jb, jc, jh⟩, 0, head, place, low, val, ⟨ok, tv⟩⟩ x) = carC hand kind (frm kind) (ont kind) 0 x.had (idx x.had) (idx low) (if kind = 1 then jh else val) ⟨ok, tv⟩ := by simp [pcell, pnext, hz]
      rw [e5, e7, if_pos rfl]
      exact step_find h hm h1 h2 (fun w1 r1 m1 => find_ends r1 m1 h1 h2 hxh rfl hz hx hf')
    · have e5 : pends ⟨hand, ⟨kind, ja, jb, jc, jh⟩, 0, head, place, low, val, ⟨ok, tv⟩⟩ x = false := by simp [pends, hz]
      have e7 : pcell (pnext ⟨hand, ⟨kind, ja, jb, jc, jh⟩, 0, head, place, low, val, ⟨ok, tv⟩⟩ x) = carC hand kind (frm kind) (ont kind) 1 x.had (idx x.had) (idx low) (if kind = 1 then jh else val) ⟨ok, tv⟩ := by simp [pcell, pnext, hz]
      rw [e5, e7, if_neg (by decide)]
      exact step_find h hm h1 h2 (fun w1 r1 m1 => find_goes r1 m1 h1 h2 hxh rfl hz hx hf')
  · have e4 : preq ⟨hand, ⟨kind, ja, jb, jc, jh⟩, 1, head, place, low, val, ⟨ok, tv⟩⟩ = ⟨hand, 1, 2 * place, 0, 0, true⟩ := by simp [preq]
    have e5 : pends ⟨hand, ⟨kind, ja, jb, jc, jh⟩, 1, head, place, low, val, ⟨ok, tv⟩⟩ x = false := by simp [pends]
    have e7 : pcell (pnext ⟨hand, ⟨kind, ja, jb, jc, jh⟩, 1, head, place, low, val, ⟨ok, tv⟩⟩ x) = carC hand kind (frm kind) (ont kind) 2 head place (idx x.had) (if kind = 1 then jh else val) ⟨ok, tv⟩ := by simp [pcell, pnext]
    rw [e4] at hx hf'
    rw [e5, e7, if_neg (by decide)]
    exact step_look h hm h1 h2 (fun w1 r1 m1 => look_goes r1 m1 h1 h2 hp hxh rfl hx hf')
  · have e4 : preq ⟨hand, ⟨kind, ja, jb, jc, jh⟩, 2, head, place, low, val, ⟨ok, tv⟩⟩ = ⟨hand, 5, frm kind, head, bump head (idx low), true⟩ := by simp [preq]
    have e5 : pends ⟨hand, ⟨kind, ja, jb, jc, jh⟩, 2, head, place, low, val, ⟨ok, tv⟩⟩ x = false := by simp [pends]
    rw [e4] at hx hf'
    rw [e5, if_neg (by decide)]
    cases hok : x.ok with
    | true =>
      have e7 : pcell (pnext ⟨hand, ⟨kind, ja, jb, jc, jh⟩, 2, head, place, low, val, ⟨ok, tv⟩⟩ x) = carC hand kind (frm kind) (ont kind) 3 head place (idx low) (if kind = 1 then jh else val) ⟨ok, tv⟩ := by simp [pcell, pnext, hok]
      rw [e7]
      exact step_take h hm h1 h2 (fun w1 r1 m1 => take_goes r1 m1 h1 h2 hhd rfl hok hx hf')
    | false =>
      have e7 : pcell (pnext ⟨hand, ⟨kind, ja, jb, jc, jh⟩, 2, head, place, low, val, ⟨ok, tv⟩⟩ x) = carC hand kind (frm kind) (ont kind) 0 head place (idx low) (if kind = 1 then jh else val) ⟨ok, tv⟩ := by simp [pcell, pnext, hok]
      rw [e7]
      exact step_take h hm h1 h2 (fun w1 r1 m1 => take_fails r1 m1 h1 h2 hhd rfl hok hx hf')
  · have e5 : pends ⟨hand, ⟨kind, ja, jb, jc, jh⟩, 3, head, place, low, val, ⟨ok, tv⟩⟩ x = false := by simp [pends]
    rw [e5, if_neg (by decide)]
    by_cases k1 : kind = 1
    · have e4 : preq ⟨hand, ⟨kind, ja, jb, jc, jh⟩, 3, head, place, low, val, ⟨ok, tv⟩⟩ = ⟨hand, 2, 2 * place + 1, 0, if kind = 1 then jh else val, true⟩ := by simp [preq, k1]
      have e7 : pcell (pnext ⟨hand, ⟨kind, ja, jb, jc, jh⟩, 3, head, place, low, val, ⟨ok, tv⟩⟩ x) = carC hand kind (frm kind) (ont kind) 4 head place (idx low) (if kind = 1 then jh else val) ⟨ok, tv⟩ := by simp [pcell, pnext, k1]
      rw [e4] at hx hf'
      rw [e7]
      exact step_touch h hm h1 h2 (fun w1 r1 m1 => touch_push r1 m1 h1 h2 hp hv k1 hx hf')
    · have e4 : preq ⟨hand, ⟨kind, ja, jb, jc, jh⟩, 3, head, place, low, val, ⟨ok, tv⟩⟩ = ⟨hand, 1, 2 * place + 1, 0, 0, true⟩ := by simp [preq, k1]
      have e7 : pcell (pnext ⟨hand, ⟨kind, ja, jb, jc, jh⟩, 3, head, place, low, val, ⟨ok, tv⟩⟩ x) = carC hand kind (frm kind) (ont kind) 4 head place (idx low) x.had ⟨ok, tv⟩ := by simp [pcell, pnext, k1]
      rw [e4] at hx hf'
      rw [e7]
      exact step_touch h hm h1 h2 (fun w1 r1 m1 => touch_pop r1 m1 h1 h2 hp k1 hx hf')
  · have e4 : preq ⟨hand, ⟨kind, ja, jb, jc, jh⟩, 4, head, place, low, val, ⟨ok, tv⟩⟩ = ⟨hand, 1, ont kind, 0, 0, true⟩ := by simp [preq]
    have e5 : pends ⟨hand, ⟨kind, ja, jb, jc, jh⟩, 4, head, place, low, val, ⟨ok, tv⟩⟩ x = false := by simp [pends]
    have e7 : pcell (pnext ⟨hand, ⟨kind, ja, jb, jc, jh⟩, 4, head, place, low, val, ⟨ok, tv⟩⟩ x) = carC hand kind (frm kind) (ont kind) 5 x.had place (idx low) (if kind = 1 then jh else val) ⟨ok, tv⟩ := by simp [pcell, pnext]
    rw [e4] at hx hf'
    rw [e5, e7, if_neg (by decide)]
    exact step_meet h hm h1 h2 (fun w1 r1 m1 => meet_goes r1 m1 h1 h2 hx hf')
  · have e4 : preq ⟨hand, ⟨kind, ja, jb, jc, jh⟩, 5, head, place, low, val, ⟨ok, tv⟩⟩ = ⟨hand, 2, 2 * place, 0, idx head, true⟩ := by simp [preq]
    have e5 : pends ⟨hand, ⟨kind, ja, jb, jc, jh⟩, 5, head, place, low, val, ⟨ok, tv⟩⟩ x = false := by simp [pends]
    have e7 : pcell (pnext ⟨hand, ⟨kind, ja, jb, jc, jh⟩, 5, head, place, low, val, ⟨ok, tv⟩⟩ x) = carC hand kind (frm kind) (ont kind) 6 head place (idx low) (if kind = 1 then jh else val) ⟨ok, tv⟩ := by simp [pcell, pnext]
    rw [e4] at hx hf'
    rw [e5, e7, if_neg (by decide)]
    exact step_link h hm h1 h2 (fun w1 r1 m1 => link_goes r1 m1 h1 h2 hp hhd rfl hx hf')
  · have e4 : preq ⟨hand, ⟨kind, ja, jb, jc, jh⟩, 6, head, place, low, val, ⟨ok, tv⟩⟩ = ⟨hand, 5, ont kind, head, bump head place, true⟩ := by simp [preq]
    have e5 : pends ⟨hand, ⟨kind, ja, jb, jc, jh⟩, 6, head, place, low, val, ⟨ok, tv⟩⟩ x = x.ok := by simp [pends]
    rw [e4] at hx hf'
    rw [e5]
    cases hok : x.ok with
    | false =>
      have e7 : pcell (pnext ⟨hand, ⟨kind, ja, jb, jc, jh⟩, 6, head, place, low, val, ⟨ok, tv⟩⟩ x) = carC hand kind (frm kind) (ont kind) 4 head place (idx low) (if kind = 1 then jh else val) ⟨ok, tv⟩ := by simp [pcell, pnext, hok]
      rw [e7, if_neg (by decide)]
      exact step_lay h hm h1 h2 (fun w1 r1 m1 => lay_goes r1 m1 h1 h2 hhd rfl hok hx hf')
    | true =>
      rw [if_pos rfl]
      by_cases k1 : kind = 1
      · have e7 : pcell (pnext ⟨hand, ⟨kind, ja, jb, jc, jh⟩, 6, head, place, low, val, ⟨ok, tv⟩⟩ x) = carC hand kind (frm kind) (ont kind) 6 head place (idx low) (if kind = 1 then jh else val) ⟨true, place⟩ := by simp [pcell, pnext, hok, k1]
        rw [e7]
        exact step_lay h hm h1 h2 (fun w1 r1 m1 => lay_push r1 m1 h1 h2 hhd rfl hp hok k1 hx hf')
      · have e7 : pcell (pnext ⟨hand, ⟨kind, ja, jb, jc, jh⟩, 6, head, place, low, val, ⟨ok, tv⟩⟩ x) = carC hand kind (frm kind) (ont kind) 6 head place (idx low) (if kind = 1 then jh else val) ⟨true, if kind = 1 then jh else val⟩ := by simp [pcell, pnext, hok, k1]
        rw [e7]
        exact step_lay h hm h1 h2 (fun w1 r1 m1 => lay_pop r1 m1 h1 h2 hhd rfl hok k1 hx hf')

theorem car_ans {w : World} {b : Nat} {hand kind fr on st head place below value : Int} {t : Ans} (h : w.rowIs b 130 11 (carC hand kind fr on st head place below value t)) :
    Calls Try.prog 158 #[.pointer (some ⟨b, 0, none⟩)] w fun e w' => e = .returned t.value ∧ w.grownBy w' none := by
  obtain ⟨ok, val⟩ := t
  have h6 : w.cell? ⟨b, 9, none⟩ = some (.bool ok) := h.cell (i := 9) (by omega)
  have h7 : w.cell? ⟨b, 10, none⟩ = some (.int .u64 val) := h.cell (i := 10) (by omega)
  have hl := h.lt
  go_enter Try.func158, Try.ntmps158
  go_wp2
  go_light
  refine bodyPost_ret (v := Ans.value ⟨ok, val⟩) ?_ rfl ⟨rfl, grown_alloc (grown_refl _ _) _⟩
  simp [results, Try.results158, go_sem, Ans.value]

theorem ms (b : Nat) (w : World) : (method 305 128 (.pointer (some ⟨b, 0, none⟩)) "Step").run Try.prog w = .ok (159, .pointer (some ⟨b, 0, none⟩)) w := by kernel_rfl
theorem ma (b : Nat) (w : World) : (method 305 128 (.pointer (some ⟨b, 0, none⟩)) "Answer").run Try.prog w = .ok (158, .pointer (some ⟨b, 0, none⟩)) w := by kernel_rfl
theorem cs (args : Array Value) (w : World) : (callFunc 159 args).run Try.prog w = .ok (.enter 159 args) w := by simp [go_sem]
theorem ca (args : Array Value) (w : World) : (callFunc 158 args).run Try.prog w = .ok (.enter 158 args) w := by simp [go_sem]

theorem isKind : IsKind kPile where
  ok := ⟨fun h j hj => ⟨rfl, wf_init h hj⟩, fun j s n f hf ⟨hs, H⟩ => ⟨(pnext_j s _).trans hs, pnext_wf H (had_bounds hf _)⟩⟩
  step := fun hf hj h hm h1 h2 => step_any hj h hm h1 h2
  ans := fun hf hj h => car_ans h
  mstep := fun j hf b w => ms b w
  mans := fun j hf b w => ma b w
  cstep := fun j hf args w => cs args w
  cans := fun j hf args w => ca args w
end Pile
end Go.Proofs.Ytbjlpmahomjgjaa
