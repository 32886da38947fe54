/-
  Lemmas: OnceK.
-/
import Derived.Test.YtdflicgjkleonaaTs01
import Derived.Test.YtdflicgjkleonaaTs03
import Derived.Test.YtdflicgjkleonaaTs04
set_option linter.unusedVariables false
set_option linter.unusedSimpArgs false
set_option maxRecDepth 20000
namespace Go.Proofs.Ytdflicgjkleonaa
open Go.RowKit
namespace Once

def ocell (room : Int) (s : OnS) : Nat → Value := onC s.hand s.j.kind s.j.a (room + s.j.a) (if s.j.kind = 3 then 5 else s.st + 1) s.told

def kOnce (room : Int) : Kd where
  σ := OnS
  err _ := oerr room
  init h j := ⟨h, j, 0, ⟨false, 0⟩⟩
  req := oreq room
  next := onext
  ends := oends
  tell s := s.told
  tid _ := 143
  t _ := 159
  n _ := 7
  fs _ := 114
  fa _ := 113
  cell := ocell room
  wf j s := s.j = j ∧ (0 ≤ s.st ∧ s.st ≤ 3) ∧ 1 ≤ s.j.kind ∧ s.j.kind ≤ 3

theorem fine_cases {room : Int} {j : Jb} (h : (kOnce room).fine j) : (j.kind = 1 ∨ j.kind = 2 ∨ j.kind = 3) ∧ 0 ≤ j.a ∧ j.a < room := by
  have h2 : oerr room j = 0 := h.2.choose_spec
  unfold oerr at h2
  split at h2
  · cases h2
  · split at h2
    · cases h2
    · omega

set_option maxHeartbeats 4000000 in
theorem step_claim {w : World} {b bm bw n : Nat} {f f' : Nat → Int} {x : Stp} {v : Int} {hand kind st ct : Int} {t : Ans} {C' : Nat → Value} (h : w.rowIs b 159 7 (onC hand kind st ct 1 t)) (hm : IsMem w bm bw n f) (h1 : b ≠ bm) (h2 : b ≠ bw)
    (hc : ∀ w1 : World, w1.rowIs b 159 7 (onC hand kind st ct 1 t) → IsMem w1 bm bw n f → Calls Try.prog 115 #[.pointer (some ⟨b, 0, none⟩), .pointer (some ⟨bm, 0, none⟩)] w1 fun e w' => e = .returned (.tuple #[x.val, .int .i64 v]) ∧ w'.rowIs b 159 7 C' ∧ IsMem w' bm bw n f' ∧ Touch w1 w' (fun k => k = b ∨ k = bw)) :
    Calls Try.prog 114 #[.pointer (some ⟨b, 0, none⟩), .pointer (some ⟨bm, 0, none⟩)] w fun e w' => e = .returned (.tuple #[x.val, .int .i64 v]) ∧ w'.rowIs b 159 7 C' ∧ IsMem w' bm bw n f' ∧ Touch w w' (fun k => k = b ∨ k = bw) := by
  have c4 : w.cell? ⟨b, 4, none⟩ = some (.int .i64 1) := h.cell (i := 4) (by omega)
  have hl := h.lt
  have lw := hm.row.lt
  have lm0 := hm.head.lt
  have K0 := hide (hc (w.alloc (.cells #[.int .i64 0, .int .i64 0, .int .i64 0, .int .u64 0, .int .u64 0, .bool false] 71)) (h.alloc _) (hm.alloc _))
  have RW := hide (row0 w)
  clear h hm hc
  go_enter Try.func114, Try.ntmps114
  go_wp2_with fail
  refine K0.out.mono ?_
  rintro e w1 ⟨rfl, row1, mem1, t1⟩
  simp only [Stp.val]
  have s1 := t1.size
  simp only [World.size_alloc] at s1
  have RR := hide (RW.out.of_block (t1.block w.heap.size (by simp) (by omega)))
  have R1 := hide row1
  have M1 := hide mem1
  have T1 := hide (((Touch.refl w (fun k => k = b ∨ k = bw)).alloc (.cells #[.int .i64 0, .int .i64 0, .int .i64 0, .int .u64 0, .int .u64 0, .bool false] 71)).trans t1)
  have l2 : w.heap.size < w1.heap.size := by omega
  have hn3 : w.heap.size ≠ b := by omega
  have hn4 : w.heap.size ≠ bw := by omega
  clear row1 mem1 t1 c4
  have r0 : w1.cell? ⟨w.heap.size, 0, none⟩ = some (.int .i64 0) := RR.out.cell (i := 0) (by omega)
  have rf0 := RR.out.frozen 0
  have r1 : w1.cell? ⟨w.heap.size, 1, none⟩ = some (.int .i64 0) := RR.out.cell (i := 1) (by omega)
  have rf1 := RR.out.frozen 1
  have r2 : w1.cell? ⟨w.heap.size, 2, none⟩ = some (.int .i64 0) := RR.out.cell (i := 2) (by omega)
  have rf2 := RR.out.frozen 2
  have r3 : w1.cell? ⟨w.heap.size, 3, none⟩ = some (.int .u64 0) := RR.out.cell (i := 3) (by omega)
  have rf3 := RR.out.frozen 3
  have r4 : w1.cell? ⟨w.heap.size, 4, none⟩ = some (.int .u64 0) := RR.out.cell (i := 4) (by omega)
  have rf4 := RR.out.frozen 4
  have r5 : w1.cell? ⟨w.heap.size, 5, none⟩ = some (.bool false) := RR.out.cell (i := 5) (by omega)
  have rf5 := RR.out.frozen 5
  go_wp2_with fail
  go_light
  refine bodyPost_ret (v := .tuple #[x.val, .int .i64 v]) ?res rfl ⟨rfl, ?row, ?mem, ?tch⟩
  case row =>
    repeat (first | (with_reducible apply World.rowIs.alloc) | (with_reducible apply World.rowIs.drew) | (with_reducible refine World.rowIs.setOther ?_ ?side _; case side => (simp; omega)))
    with_reducible exact R1.out
  case mem =>
    repeat (first | (with_reducible apply IsMem.alloc) | (with_reducible apply IsMem.drew) | ((with_reducible refine IsMem.setOther ?_ ?_ ?_ _); rotate_left; (simp; omega); (simp; omega)))
    with_reducible exact M1.out
  case tch =>
    repeat (first | (with_reducible apply Touch.alloc) | (with_reducible apply Touch.drew) | (with_reducible refine Touch.setCell ?_ _ ?side _; case side => simp))
    with_reducible exact T1.out
  case res => simp [results, Try.results114, go_sem, Stp.val, *]

set_option maxHeartbeats 4000000 in
theorem step_add {w : World} {b bm bw n : Nat} {f f' : Nat → Int} {x : Stp} {v : Int} {hand kind st ct : Int} {t : Ans} {C' : Nat → Value} (h : w.rowIs b 159 7 (onC hand kind st ct 2 t)) (hm : IsMem w bm bw n f) (h1 : b ≠ bm) (h2 : b ≠ bw)
    (hc : ∀ w1 : World, w1.rowIs b 159 7 (onC hand kind st ct 2 t) → IsMem w1 bm bw n f → Calls Try.prog 116 #[.pointer (some ⟨b, 0, none⟩), .pointer (some ⟨bm, 0, none⟩)] w1 fun e w' => e = .returned (.tuple #[x.val, .int .i64 v]) ∧ w'.rowIs b 159 7 C' ∧ IsMem w' bm bw n f' ∧ Touch w1 w' (fun k => k = b ∨ k = bw)) :
    Calls Try.prog 114 #[.pointer (some ⟨b, 0, none⟩), .pointer (some ⟨bm, 0, none⟩)] w fun e w' => e = .returned (.tuple #[x.val, .int .i64 v]) ∧ w'.rowIs b 159 7 C' ∧ IsMem w' bm bw n f' ∧ Touch w w' (fun k => k = b ∨ k = bw) := by
  have c4 : w.cell? ⟨b, 4, none⟩ = some (.int .i64 2) := h.cell (i := 4) (by omega)
  have hl := h.lt
  have lw := hm.row.lt
  have lm0 := hm.head.lt
  have K0 := hide (hc (w.alloc (.cells #[.int .i64 0, .int .i64 0, .int .i64 0, .int .u64 0, .int .u64 0, .bool false] 71)) (h.alloc _) (hm.alloc _))
  have RW := hide (row0 w)
  clear h hm hc
  go_enter Try.func114, Try.ntmps114
  go_wp2_with fail
  refine K0.out.mono ?_
  rintro e w1 ⟨rfl, row1, mem1, t1⟩
  simp only [Stp.val]
  have s1 := t1.size
  simp only [World.size_alloc] at s1
  have RR := hide (RW.out.of_block (t1.block w.heap.size (by simp) (by omega)))
  have R1 := hide row1
  have M1 := hide mem1
  have T1 := hide (((Touch.refl w (fun k => k = b ∨ k = bw)).alloc (.cells #[.int .i64 0, .int .i64 0, .int .i64 0, .int .u64 0, .int .u64 0, .bool false] 71)).trans t1)
  have l2 : w.heap.size < w1.heap.size := by omega
  have hn3 : w.heap.size ≠ b := by omega
  have hn4 : w.heap.size ≠ bw := by omega
  clear row1 mem1 t1 c4
  have r0 : w1.cell? ⟨w.heap.size, 0, none⟩ = some (.int .i64 0) := RR.out.cell (i := 0) (by omega)
  have rf0 := RR.out.frozen 0
  have r1 : w1.cell? ⟨w.heap.size, 1, none⟩ = some (.int .i64 0) := RR.out.cell (i := 1) (by omega)
  have rf1 := RR.out.frozen 1
  have r2 : w1.cell? ⟨w.heap.size, 2, none⟩ = some (.int .i64 0) := RR.out.cell (i := 2) (by omega)
  have rf2 := RR.out.frozen 2
  have r3 : w1.cell? ⟨w.heap.size, 3, none⟩ = some (.int .u64 0) := RR.out.cell (i := 3) (by omega)
  have rf3 := RR.out.frozen 3
  have r4 : w1.cell? ⟨w.heap.size, 4, none⟩ = some (.int .u64 0) := RR.out.cell (i := 4) (by omega)
  have rf4 := RR.out.frozen 4
  have r5 : w1.cell? ⟨w.heap.size, 5, none⟩ = some (.bool false) := RR.out.cell (i := 5) (by omega)
  have rf5 := RR.out.frozen 5
  go_wp2_with fail
  go_light
  refine bodyPost_ret (v := .tuple #[x.val, .int .i64 v]) ?res rfl ⟨rfl, ?row, ?mem, ?tch⟩
  case row =>
    repeat (first | (with_reducible apply World.rowIs.alloc) | (with_reducible apply World.rowIs.drew) | (with_reducible refine World.rowIs.setOther ?_ ?side _; case side => (simp; omega)))
    with_reducible exact R1.out
  case mem =>
    repeat (first | (with_reducible apply IsMem.alloc) | (with_reducible apply IsMem.drew) | ((with_reducible refine IsMem.setOther ?_ ?_ ?_ _); rotate_left; (simp; omega); (simp; omega)))
    with_reducible exact M1.out
  case tch =>
    repeat (first | (with_reducible apply Touch.alloc) | (with_reducible apply Touch.drew) | (with_reducible refine Touch.setCell ?_ _ ?side _; case side => simp))
    with_reducible exact T1.out
  case res => simp [results, Try.results114, go_sem, Stp.val, *]

set_option maxHeartbeats 4000000 in
theorem step_finish {w : World} {b bm bw n : Nat} {f f' : Nat → Int} {x : Stp} {v : Int} {hand kind st ct : Int} {t : Ans} {C' : Nat → Value} (h : w.rowIs b 159 7 (onC hand kind st ct 3 t)) (hm : IsMem w bm bw n f) (h1 : b ≠ bm) (h2 : b ≠ bw)
    (hc : ∀ w1 : World, w1.rowIs b 159 7 (onC hand kind st ct 3 t) → IsMem w1 bm bw n f → Calls Try.prog 117 #[.pointer (some ⟨b, 0, none⟩), .pointer (some ⟨bm, 0, none⟩)] w1 fun e w' => e = .returned (.tuple #[x.val, .int .i64 v]) ∧ w'.rowIs b 159 7 C' ∧ IsMem w' bm bw n f' ∧ Touch w1 w' (fun k => k = b ∨ k = bw)) :
    Calls Try.prog 114 #[.pointer (some ⟨b, 0, none⟩), .pointer (some ⟨bm, 0, none⟩)] w fun e w' => e = .returned (.tuple #[x.val, .int .i64 v]) ∧ w'.rowIs b 159 7 C' ∧ IsMem w' bm bw n f' ∧ Touch w w' (fun k => k = b ∨ k = bw) := by
  have c4 : w.cell? ⟨b, 4, none⟩ = some (.int .i64 3) := h.cell (i := 4) (by omega)
  have hl := h.lt
  have lw := hm.row.lt
  have lm0 := hm.head.lt
  have K0 := hide (hc (w.alloc (.cells #[.int .i64 0, .int .i64 0, .int .i64 0, .int .u64 0, .int .u64 0, .bool false] 71)) (h.alloc _) (hm.alloc _))
  have RW := hide (row0 w)
  clear h hm hc
  go_enter Try.func114, Try.ntmps114
  go_wp2_with fail
  refine K0.out.mono ?_
  rintro e w1 ⟨rfl, row1, mem1, t1⟩
  simp only [Stp.val]
  have s1 := t1.size
  simp only [World.size_alloc] at s1
  have RR := hide (RW.out.of_block (t1.block w.heap.size (by simp) (by omega)))
  have R1 := hide row1
  have M1 := hide mem1
  have T1 := hide (((Touch.refl w (fun k => k = b ∨ k = bw)).alloc (.cells #[.int .i64 0, .int .i64 0, .int .i64 0, .int .u64 0, .int .u64 0, .bool false] 71)).trans t1)
  have l2 : w.heap.size < w1.heap.size := by omega
  have hn3 : w.heap.size ≠ b := by omega
  have hn4 : w.heap.size ≠ bw := by omega
  clear row1 mem1 t1 c4
  have r0 : w1.cell? ⟨w.heap.size, 0, none⟩ = some (.int .i64 0) := RR.out.cell (i := 0) (by omega)
  have rf0 := RR.out.frozen 0
  have r1 : w1.cell? ⟨w.heap.size, 1, none⟩ = some (.int .i64 0) := RR.out.cell (i := 1) (by omega)
  have rf1 := RR.out.frozen 1
  have r2 : w1.cell? ⟨w.heap.size, 2, none⟩ = some (.int .i64 0) := RR.out.cell (i := 2) (by omega)
  have rf2 := RR.out.frozen 2
  have r3 : w1.cell? ⟨w.heap.size, 3, none⟩ = some (.int .u64 0) := RR.out.cell (i := 3) (by omega)
  have rf3 := RR.out.frozen 3
  have r4 : w1.cell? ⟨w.heap.size, 4, none⟩ = some (.int .u64 0) := RR.out.cell (i := 4) (by omega)
  have rf4 := RR.out.frozen 4
  have r5 : w1.cell? ⟨w.heap.size, 5, none⟩ = some (.bool false) := RR.out.cell (i := 5) (by omega)
  have rf5 := RR.out.frozen 5
  go_wp2_with fail
  go_light
  refine bodyPost_ret (v := .tuple #[x.val, .int .i64 v]) ?res rfl ⟨rfl, ?row, ?mem, ?tch⟩
  case row =>
    repeat (first | (with_reducible apply World.rowIs.alloc) | (with_reducible apply World.rowIs.drew) | (with_reducible refine World.rowIs.setOther ?_ ?side _; case side => (simp; omega)))
    with_reducible exact R1.out
  case mem =>
    repeat (first | (with_reducible apply IsMem.alloc) | (with_reducible apply IsMem.drew) | ((with_reducible refine IsMem.setOther ?_ ?_ ?_ _); rotate_left; (simp; omega); (simp; omega)))
    with_reducible exact M1.out
  case tch =>
    repeat (first | (with_reducible apply Touch.alloc) | (with_reducible apply Touch.drew) | (with_reducible refine Touch.setCell ?_ _ ?side _; case side => simp))
    with_reducible exact T1.out
  case res => simp [results, Try.results114, go_sem, Stp.val, *]

set_option maxHeartbeats 4000000 in
theorem step_await {w : World} {b bm bw n : Nat} {f f' : Nat → Int} {x : Stp} {v : Int} {hand kind st ct : Int} {t : Ans} {C' : Nat → Value} (h : w.rowIs b 159 7 (onC hand kind st ct 4 t)) (hm : IsMem w bm bw n f) (h1 : b ≠ bm) (h2 : b ≠ bw)
    (hc : ∀ w1 : World, w1.rowIs b 159 7 (onC hand kind st ct 4 t) → IsMem w1 bm bw n f → Calls Try.prog 118 #[.pointer (some ⟨b, 0, none⟩), .pointer (some ⟨bm, 0, none⟩)] w1 fun e w' => e = .returned (.tuple #[x.val, .int .i64 v]) ∧ w'.rowIs b 159 7 C' ∧ IsMem w' bm bw n f' ∧ Touch w1 w' (fun k => k = b ∨ k = bw)) :
    Calls Try.prog 114 #[.pointer (some ⟨b, 0, none⟩), .pointer (some ⟨bm, 0, none⟩)] w fun e w' => e = .returned (.tuple #[x.val, .int .i64 v]) ∧ w'.rowIs b 159 7 C' ∧ IsMem w' bm bw n f' ∧ Touch w w' (fun k => k = b ∨ k = bw) := by
  have c4 : w.cell? ⟨b, 4, none⟩ = some (.int .i64 4) := h.cell (i := 4) (by omega)
  have hl := h.lt
  have lw := hm.row.lt
  have lm0 := hm.head.lt
  have K0 := hide (hc (w.alloc (.cells #[.int .i64 0, .int .i64 0, .int .i64 0, .int .u64 0, .int .u64 0, .bool false] 71)) (h.alloc _) (hm.alloc _))
  have RW := hide (row0 w)
  clear h hm hc
  go_enter Try.func114, Try.ntmps114
  go_wp2_with fail
  refine K0.out.mono ?_
  rintro e w1 ⟨rfl, row1, mem1, t1⟩
  simp only [Stp.val]
  have s1 := t1.size
  simp only [World.size_alloc] at s1
  have RR := hide (RW.out.of_block (t1.block w.heap.size (by simp) (by omega)))
  have R1 := hide row1
  have M1 := hide mem1
  have T1 := hide (((Touch.refl w (fun k => k = b ∨ k = bw)).alloc (.cells #[.int .i64 0, .int .i64 0, .int .i64 0, .int .u64 0, .int .u64 0, .bool false] 71)).trans t1)
  have l2 : w.heap.size < w1.heap.size := by omega
  have hn3 : w.heap.size ≠ b := by omega
  have hn4 : w.heap.size ≠ bw := by omega
  clear row1 mem1 t1 c4
  have r0 : w1.cell? ⟨w.heap.size, 0, none⟩ = some (.int .i64 0) := RR.out.cell (i := 0) (by omega)
  have rf0 := RR.out.frozen 0
  have r1 : w1.cell? ⟨w.heap.size, 1, none⟩ = some (.int .i64 0) := RR.out.cell (i := 1) (by omega)
  have rf1 := RR.out.frozen 1
  have r2 : w1.cell? ⟨w.heap.size, 2, none⟩ = some (.int .i64 0) := RR.out.cell (i := 2) (by omega)
  have rf2 := RR.out.frozen 2
  have r3 : w1.cell? ⟨w.heap.size, 3, none⟩ = some (.int .u64 0) := RR.out.cell (i := 3) (by omega)
  have rf3 := RR.out.frozen 3
  have r4 : w1.cell? ⟨w.heap.size, 4, none⟩ = some (.int .u64 0) := RR.out.cell (i := 4) (by omega)
  have rf4 := RR.out.frozen 4
  have r5 : w1.cell? ⟨w.heap.size, 5, none⟩ = some (.bool false) := RR.out.cell (i := 5) (by omega)
  have rf5 := RR.out.frozen 5
  go_wp2_with fail
  go_light
  refine bodyPost_ret (v := .tuple #[x.val, .int .i64 v]) ?res rfl ⟨rfl, ?row, ?mem, ?tch⟩
  case row =>
    repeat (first | (with_reducible apply World.rowIs.alloc) | (with_reducible apply World.rowIs.drew) | (with_reducible refine World.rowIs.setOther ?_ ?side _; case side => (simp; omega)))
    with_reducible exact R1.out
  case mem =>
    repeat (first | (with_reducible apply IsMem.alloc) | (with_reducible apply IsMem.drew) | ((with_reducible refine IsMem.setOther ?_ ?_ ?_ _); rotate_left; (simp; omega); (simp; omega)))
    with_reducible exact M1.out
  case tch =>
    repeat (first | (with_reducible apply Touch.alloc) | (with_reducible apply Touch.drew) | (with_reducible refine Touch.setCell ?_ _ ?side _; case side => simp))
    with_reducible exact T1.out
  case res => simp [results, Try.results114, go_sem, Stp.val, *]

set_option maxHeartbeats 4000000 in
theorem step_look {w : World} {b bm bw n : Nat} {f f' : Nat → Int} {x : Stp} {v : Int} {hand kind st ct : Int} {t : Ans} {C' : Nat → Value} (h : w.rowIs b 159 7 (onC hand kind st ct 5 t)) (hm : IsMem w bm bw n f) (h1 : b ≠ bm) (h2 : b ≠ bw)
    (hc : ∀ w1 : World, w1.rowIs b 159 7 (onC hand kind st ct 5 t) → IsMem w1 bm bw n f → Calls Try.prog 119 #[.pointer (some ⟨b, 0, none⟩), .pointer (some ⟨bm, 0, none⟩)] w1 fun e w' => e = .returned (.tuple #[x.val, .int .i64 v]) ∧ w'.rowIs b 159 7 C' ∧ IsMem w' bm bw n f' ∧ Touch w1 w' (fun k => k = b ∨ k = bw)) :
    Calls Try.prog 114 #[.pointer (some ⟨b, 0, none⟩), .pointer (some ⟨bm, 0, none⟩)] w fun e w' => e = .returned (.tuple #[x.val, .int .i64 v]) ∧ w'.rowIs b 159 7 C' ∧ IsMem w' bm bw n f' ∧ Touch w w' (fun k => k = b ∨ k = bw) := by
  have c4 : w.cell? ⟨b, 4, none⟩ = some (.int .i64 5) := h.cell (i := 4) (by omega)
  have hl := h.lt
  have lw := hm.row.lt
  have lm0 := hm.head.lt
  have K0 := hide (hc (w.alloc (.cells #[.int .i64 0, .int .i64 0, .int .i64 0, .int .u64 0, .int .u64 0, .bool false] 71)) (h.alloc _) (hm.alloc _))
  have RW := hide (row0 w)
  clear h hm hc
  go_enter Try.func114, Try.ntmps114
  go_wp2_with fail
  refine K0.out.mono ?_
  rintro e w1 ⟨rfl, row1, mem1, t1⟩
  simp only [Stp.val]
  have s1 := t1.size
  simp only [World.size_alloc] at s1
  have RR := hide (RW.out.of_block (t1.block w.heap.size (by simp) (by omega)))
  have R1 := hide row1
  have M1 := hide mem1
  have T1 := hide (((Touch.refl w (fun k => k = b ∨ k = bw)).alloc (.cells #[.int .i64 0, .int .i64 0, .int .i64 0, .int .u64 0, .int .u64 0, .bool false] 71)).trans t1)
  have l2 : w.heap.size < w1.heap.size := by omega
  have hn3 : w.heap.size ≠ b := by omega
  have hn4 : w.heap.size ≠ bw := by omega
  clear row1 mem1 t1 c4
  have r0 : w1.cell? ⟨w.heap.size, 0, none⟩ = some (.int .i64 0) := RR.out.cell (i := 0) (by omega)
  have rf0 := RR.out.frozen 0
  have r1 : w1.cell? ⟨w.heap.size, 1, none⟩ = some (.int .i64 0) := RR.out.cell (i := 1) (by omega)
  have rf1 := RR.out.frozen 1
  have r2 : w1.cell? ⟨w.heap.size, 2, none⟩ = some (.int .i64 0) := RR.out.cell (i := 2) (by omega)
  have rf2 := RR.out.frozen 2
  have r3 : w1.cell? ⟨w.heap.size, 3, none⟩ = some (.int .u64 0) := RR.out.cell (i := 3) (by omega)
  have rf3 := RR.out.frozen 3
  have r4 : w1.cell? ⟨w.heap.size, 4, none⟩ = some (.int .u64 0) := RR.out.cell (i := 4) (by omega)
  have rf4 := RR.out.frozen 4
  have r5 : w1.cell? ⟨w.heap.size, 5, none⟩ = some (.bool false) := RR.out.cell (i := 5) (by omega)
  have rf5 := RR.out.frozen 5
  go_wp2_with fail
  go_light
  refine bodyPost_ret (v := .tuple #[x.val, .int .i64 v]) ?res rfl ⟨rfl, ?row, ?mem, ?tch⟩
  case row =>
    repeat (first | (with_reducible apply World.rowIs.alloc) | (with_reducible apply World.rowIs.drew) | (with_reducible refine World.rowIs.setOther ?_ ?side _; case side => (simp; omega)))
    with_reducible exact R1.out
  case mem =>
    repeat (first | (with_reducible apply IsMem.alloc) | (with_reducible apply IsMem.drew) | ((with_reducible refine IsMem.setOther ?_ ?_ ?_ _); rotate_left; (simp; omega); (simp; omega)))
    with_reducible exact M1.out
  case tch =>
    repeat (first | (with_reducible apply Touch.alloc) | (with_reducible apply Touch.drew) | (with_reducible refine Touch.setCell ?_ _ ?side _; case side => simp))
    with_reducible exact T1.out
  case res => simp [results, Try.results114, go_sem, Stp.val, *]


theorem onext_j (s : OnS) (x : Stp) : (onext s x).j = s.j := by
  unfold onext
  split
  · rfl
  · split
    · rfl
    · split
      · rfl
      · split
        · rfl
        · split <;> rfl
theorem onext_k {s : OnS} {x : Stp} (hk : 1 ≤ s.j.kind ∧ s.j.kind ≤ 3) : 1 ≤ (onext s x).j.kind ∧ (onext s x).j.kind ≤ 3 := by rw [onext_j]; exact hk
theorem onext_st {s : OnS} {x : Stp} (hk : 1 ≤ s.j.kind ∧ s.j.kind ≤ 3) (h0 : 0 ≤ s.st) (h3 : s.st ≤ 3) : 0 ≤ (onext s x).st ∧ (onext s x).st ≤ 3 := by
  unfold onext
  split
  · exact ⟨h0, h3⟩
  · split
    · simp only
      split <;> omega
    · split
      · simp only; omega
      · split
        · exact ⟨h0, h3⟩
        · split <;> exact ⟨h0, h3⟩

theorem step_any (room : Int) {w : World} {b bm bw n : Nat} {f : Nat → Int} {s : OnS} {j : Jb} (hf : (kOnce room).fine j) (hj : s.j = j ∧ (0 ≤ s.st ∧ s.st ≤ 3) ∧ 1 ≤ s.j.kind ∧ s.j.kind ≤ 3) (h : w.rowIs b 159 7 (ocell room s)) (hm : IsMem w bm bw n f) (h1 : b ≠ bm) (h2 : b ≠ bw) :
    Calls Try.prog 114 #[.pointer (some ⟨b, 0, none⟩), .pointer (some ⟨bm, 0, none⟩)] w fun e w' => e = .returned (.tuple #[(stepOf n f (oreq room s)).val, .int .i64 (if oends s (stepOf n f (oreq room s)) = true then 1 else 0)]) ∧
      w'.rowIs b 159 7 (ocell room (onext s (stepOf n f (oreq room s)))) ∧ IsMem w' bm bw n (wordsOf n f (oreq room s)) ∧ Touch w w' (fun k => k = b ∨ k = bw) := by
  obtain ⟨rfl, ⟨h0, h3⟩, _⟩ := hj
  obtain ⟨x, hx⟩ : ∃ x, stepOf n f (oreq room s) = x := ⟨_, rfl⟩
  obtain ⟨f', hf'⟩ : ∃ f', wordsOf n f (oreq room s) = f' := ⟨_, rfl⟩
  rw [hx, hf']
  obtain ⟨hk, _, _⟩ := fine_cases hf
  by_cases k3 : s.j.kind = 3
  · have e4 : oreq room s = ⟨s.hand, 1, s.j.a, 0, 0, true⟩ := by simp [oreq, k3]
    have e5 : oends s x = true := by simp [oends, k3]
    have e6 : ocell room s = onC s.hand s.j.kind s.j.a (room + s.j.a) 5 s.told := by simp [ocell, k3]
    have e7 : ocell room (onext s x) = onC s.hand s.j.kind s.j.a (room + s.j.a) 5 ⟨x.had == 2, x.had⟩ := by simp [ocell, onext, k3]
    rw [e6] at h
    rw [e4] at hx hf'
    rw [e5, e7, if_pos rfl]
    exact step_look h hm h1 h2 (fun w1 r1 m1 => look_ends r1 m1 h1 h2 hx hf')
  · by_cases s0 : s.st = 0
    · have e4 : oreq room s = ⟨s.hand, 5, s.j.a, 0, 1, true⟩ := by simp [oreq, k3, s0]
      have e5 : oends s x = false := by simp [oends, k3, s0]
      have e6 : ocell room s = onC s.hand s.j.kind s.j.a (room + s.j.a) 1 s.told := by simp [ocell, k3, s0]
      rw [e6] at h
      rw [e4] at hx hf'
      rw [e5, if_neg (by decide)]
      cases hok : x.ok with
      | false =>
        have e7 : ocell room (onext s x) = onC s.hand s.j.kind s.j.a (room + s.j.a) 4 s.told := by simp [ocell, onext, k3, s0, hok]
        rw [e7]
        exact step_claim h hm h1 h2 (fun w1 r1 m1 => claim_no r1 m1 h1 h2 hok hx hf')
      | true =>
        by_cases k1 : s.j.kind = 1
        · have e7 : ocell room (onext s x) = onC s.hand s.j.kind s.j.a (room + s.j.a) 2 s.told := by simp [ocell, onext, k3, s0, hok, k1]
          rw [e7]
          exact step_claim h hm h1 h2 (fun w1 r1 m1 => claim_do r1 m1 h1 h2 hok k1 hx hf')
        · have k2 : s.j.kind = 2 := by omega
          have e7 : ocell room (onext s x) = onC s.hand s.j.kind s.j.a (room + s.j.a) 3 s.told := by simp [ocell, onext, k3, s0, hok, k2]
          rw [e7]
          exact step_claim h hm h1 h2 (fun w1 r1 m1 => claim_fail r1 m1 h1 h2 hok k1 hx hf')
    · by_cases s1 : s.st = 1
      · have e4 : oreq room s = ⟨s.hand, 4, room + s.j.a, 0, 1, true⟩ := by simp [oreq, k3, s1]
        have e5 : oends s x = false := by simp [oends, k3, s1]
        have e6 : ocell room s = onC s.hand s.j.kind s.j.a (room + s.j.a) 2 s.told := by simp [ocell, k3, s1]
        have e7 : ocell room (onext s x) = onC s.hand s.j.kind s.j.a (room + s.j.a) 3 s.told := by simp [ocell, onext, k3, s1]
        rw [e6] at h
        rw [e4] at hx hf'
        rw [e5, e7, if_neg (by decide)]
        exact step_add h hm h1 h2 (fun w1 r1 m1 => add_goes r1 m1 h1 h2 hx hf')
      · by_cases s2 : s.st = 2
        · have e4 : oreq room s = ⟨s.hand, 2, s.j.a, 0, 2, true⟩ := by simp [oreq, k3, s2]
          have e5 : oends s x = true := by simp [oends, k3, s2]
          have e6 : ocell room s = onC s.hand s.j.kind s.j.a (room + s.j.a) 3 s.told := by simp [ocell, k3, s2]
          have e7 : ocell room (onext s x) = onC s.hand s.j.kind s.j.a (room + s.j.a) 3 ⟨s.j.kind == 1, 1⟩ := by simp [ocell, onext, k3, s2]
          rw [e6] at h
          rw [e4] at hx hf'
          rw [e5, e7, if_pos rfl]
          exact step_finish h hm h1 h2 (fun w1 r1 m1 => finish_ends r1 m1 h1 h2 hx hf')
        · have s3 : s.st = 3 := by omega
          have e4 : oreq room s = ⟨s.hand, 1, s.j.a, 0, 0, true⟩ := by simp [oreq, k3, s3]
          have e6 : ocell room s = onC s.hand s.j.kind s.j.a (room + s.j.a) 4 s.told := by simp [ocell, k3, s3]
          rw [e6] at h
          rw [e4] at hx hf'
          by_cases hd : x.had = 2
          · have e5 : oends s x = true := by simp [oends, k3, s3, hd]
            have e7 : ocell room (onext s x) = onC s.hand s.j.kind s.j.a (room + s.j.a) 4 ⟨true, 0⟩ := by simp [ocell, onext, k3, s3, hd]
            rw [e5, e7, if_pos rfl]
            exact step_await h hm h1 h2 (fun w1 r1 m1 => await_ends r1 m1 h1 h2 hd hx hf')
          · have e5 : oends s x = false := by simp [oends, k3, s3, hd]
            have e7 : ocell room (onext s x) = onC s.hand s.j.kind s.j.a (room + s.j.a) 4 s.told := by simp [ocell, onext, k3, s3, hd]
            rw [e5, e7, if_neg (by decide)]
            exact step_await h hm h1 h2 (fun w1 r1 m1 => await_goes r1 m1 h1 h2 hd hx hf')

theorem ms (b : Nat) (w : World) : (method 293 143 (.pointer (some ⟨b, 0, none⟩)) "Step").run Try.prog w = .ok (114, .pointer (some ⟨b, 0, none⟩)) w := by kernel_rfl
theorem ma (b : Nat) (w : World) : (method 293 143 (.pointer (some ⟨b, 0, none⟩)) "Answer").run Try.prog w = .ok (113, .pointer (some ⟨b, 0, none⟩)) w := by kernel_rfl
theorem cs (args : Array Value) (w : World) : (callFunc 114 args).run Try.prog w = .ok (.enter 114 args) w := by simp [go_sem]
theorem ca (args : Array Value) (w : World) : (callFunc 113 args).run Try.prog w = .ok (.enter 113 args) w := by simp [go_sem]

theorem isKindO (room : Int) : IsKindO (kOnce room) where
  ok := ⟨fun h j hj => ⟨rfl, ⟨by show (0 : Int) ≤ 0; decide, by show (0 : Int) ≤ 3; decide⟩, by have := (fine_cases hj).1; show 1 ≤ j.kind ∧ j.kind ≤ 3; omega⟩, fun j s n f _ ⟨hs, ⟨h0, h3⟩, hk⟩ => ⟨(onext_j s _).trans hs, onext_st hk h0 h3, onext_k hk⟩⟩
  step := fun hf hj h hm h1 h2 => step_any room hf hj h hm h1 h2
  ans := fun hf hj h => on_ans h
  mstep := fun j hf b w => ms b w
  mans := fun j hf b w => ma b w
  cstep := fun j hf args w => cs args w
  cans := fun j hf args w => ca args w
theorem isKind (room : Int) : IsKind (kOnce room) := (isKindO room).to
end Once
end Go.Proofs.Ytdflicgjkleonaa
