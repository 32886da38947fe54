/-
  Lemmas: SeqD.
-/
import Derived.Test.YtkiojiibppdjjaaTp24
/-
  The tasks of a record with a version: a Write, its Step.
-/
namespace Go.Proofs.Ytkiojiibppdjjaa
open Go.RowKit
set_option linter.unusedVariables false
set_option linter.unusedSimpArgs false
set_option maxRecDepth 20000
namespace Seq

set_option maxHeartbeats 4000000 in
theorem ws0 {w : World} {b bm bw n : Nat} {f f' : Nat → Int} {x : Stp} {last at_ was value : Int} {t : Ans} (h : w.rowIs b 100 7 (wrC last 0 at_ was value t)) (hm : IsMem w bm bw n f) (h1 : b ≠ bm) (h2 : b ≠ bw) 
    (hx : stepOf n f ⟨0, 1, 0, 0, 0, true⟩ = x) (hf' : wordsOf n f ⟨0, 1, 0, 0, 0, true⟩ = f') :
    Calls Try.prog 92 #[.pointer (some ⟨b, 0, none⟩), .pointer (some ⟨bm, 0, none⟩)] w fun e w' => e = .returned (.tuple #[x.val, .int .i64 0]) ∧
      w'.rowIs b 100 7 (wrC last 1 at_ x.had value t) ∧ IsMem w' bm bw n f' ∧ Touch w w' (fun k => k = b ∨ k = bw) := by
  obtain ⟨⟨c0, fz0⟩, ⟨c1, fz1⟩, ⟨c2, fz2⟩, ⟨c3, fz3⟩, ⟨c4, fz4⟩, ⟨c5, fz5⟩, c6, fz6⟩ := w_facts h
  have hl := h.lt
  have lw := hm.row.lt
  have lm := hm.head.lt
  have hn3 : w.heap.size ≠ b := by omega
  have hn4 : w.heap.size ≠ bw := by omega
  have hn5 : w.heap.size ≠ bm := by omega
  obtain ⟨W1, hW1⟩ : ∃ W1, (w.alloc (.cells #[.int .i64 0, .int .i64 0, .int .i64 0, .int .u64 0, .int .u64 0, .bool false] 77)) = W1 := ⟨_, rfl⟩
  have R := hide (show W1.rowIs b 100 7 (wrC last 0 at_ was value t) from by
    rw [← hW1]
    skip
    repeat (first | (with_reducible refine World.rowIs.set ?_ _ _) | (with_reducible apply World.rowIs.alloc))
    exact h)
  have M := hide (show IsMem W1 bm bw n f from by
    rw [← hW1]
    repeat (first | (with_reducible apply IsMem.alloc) | ((with_reducible refine IsMem.setOther ?_ ?_ ?_ _); rotate_left; (simp; omega); (simp; omega)))
    exact hm)
  have RZ := hide (show W1.rowIs w.heap.size 77 6 zcell from by
    rw [← hW1]
    have := row0 w
    simpa using this)
  have T0 := hide (show Touch w W1 (fun k => k = b ∨ k = bw) from by
    rw [← hW1]
    repeat (first | (with_reducible apply Touch.alloc) | (with_reducible refine Touch.setCell ?_ _ ?side _; case side => simp))
    exact Touch.refl w _)
  have sz : W1.heap.size = w.heap.size + 1 := by rw [← hW1]; simp
  have lW1 : b < W1.heap.size := by omega
  obtain ⟨⟨e0, ef0⟩, ⟨e1, ef1⟩, ⟨e2, ef2⟩, ⟨e3, ef3⟩, ⟨e4, ef4⟩, ⟨e5, ef5⟩, e6, ef6⟩ := w_facts R.out
  have HX := hide hx
  have HF := hide hf'
  have HW : Hid (0 ≤ (⟨0, 1, 0, 0, 0, true⟩ : Stp).put ∧ (⟨0, 1, 0, 0, 0, true⟩ : Stp).put ≤ 18446744073709551615) := ⟨by show (0 : Int) ≤ 0; omega, by show (0 : Int) ≤ 18446744073709551615; omega⟩
  clear hm h hx hf' 
  go_enter Try.func92, Try.ntmps92
  go_wp2_with fail
  clear hW1 c0 fz0 e0 ef0 c1 fz1 e1 ef1 c2 fz2 e2 ef2 c3 fz3 e3 ef3 c4 fz4 e4 ef4 c5 fz5 e5 ef5 c6 fz6 e6 ef6
  refine (do_mem M.out ⟨0, 1, 0, 0, 0, true⟩ HW.out).mono ?_
  rintro e w1 ⟨rfl, hm1, hg1⟩
  rw [HX.out]
  rw [HF.out] at hm1
  simp only [Stp.val]
  have lw1 := hg1.size
  have R1 := hide (show w1.rowIs b 100 7 (wrC last 0 at_ was value t) from R.out.of_block (hg1.block b (by omega) (by simpa using h2)))
  have RR := hide (show w1.rowIs w.heap.size 77 6 zcell from RZ.out.of_block (hg1.block w.heap.size (by omega) (by simpa using hn4)))
  have M1 := hide hm1
  have T1 := hide (T0.out.trans' (Touch.of_grown hg1) (fun k _ e => .inr (by simpa using e)))
  have l1 : b < w1.heap.size := by omega
  have l2 : w.heap.size < w1.heap.size := by omega
  have l3 : bw < w1.heap.size := by omega
  have l4 : bm < w1.heap.size := by omega
  clear hm1 hg1
  obtain ⟨⟨d0, df0⟩, ⟨d1, df1⟩, ⟨d2, df2⟩, ⟨d3, df3⟩, ⟨d4, df4⟩, ⟨d5, df5⟩, d6, df6⟩ := w_facts R1.out
  obtain ⟨⟨r0, rf0⟩, ⟨r1, rf1⟩, ⟨r2, rf2⟩, ⟨r3, rf3⟩, ⟨r4, rf4⟩, r5, rf5⟩ := res_facts RR.out
  go_wp2_with fail
  go_light
  refine bodyPost_ret (v := .tuple #[x.val, .int .i64 0]) ?res rfl ⟨rfl, ?row, ?mem, ?tch⟩
  case row =>
    refine World.rowIs.congr ?_ (fun i hi => w_look last 0 at_ was value t x.had i hi)
    repeat (first | (with_reducible apply World.rowIs.alloc) | (with_reducible apply World.rowIs.drew) | (with_reducible refine World.rowIs.setOther ?_ ?side _; case side => (simp; omega)))
    with_reducible refine World.rowIs.set ?_ 1 _
    repeat (first | (with_reducible apply World.rowIs.alloc) | (with_reducible apply World.rowIs.drew) | (with_reducible refine World.rowIs.setOther ?_ ?side _; case side => (simp; omega)))
    with_reducible refine World.rowIs.set ?_ 3 _
    repeat (first | (with_reducible apply World.rowIs.alloc) | (with_reducible apply World.rowIs.drew) | (with_reducible refine World.rowIs.setOther ?_ ?side _; case side => (simp; omega)))
    with_reducible exact R1.out
  case mem =>
    repeat (first | (with_reducible apply IsMem.alloc) | (with_reducible apply IsMem.drew) | ((with_reducible refine IsMem.setOther ?_ ?_ ?_ _); rotate_left; (simp; omega); (simp; omega)))
    with_reducible exact M1.out
  case tch =>
    repeat (first | (with_reducible apply Touch.alloc) | (with_reducible apply Touch.drew) | (with_reducible refine Touch.setCell ?_ _ ?side _; case side => (first | (simp; done) | (simp; omega))))
    with_reducible exact T1.out
  case res => simp [results, Try.results92, go_sem, Stp.val, *]

set_option maxHeartbeats 4000000 in
theorem ws1 {w : World} {b bm bw n : Nat} {f f' : Nat → Int} {x : Stp} {last at_ was value : Int} {t : Ans} (h : w.rowIs b 100 7 (wrC last 1 at_ was value t)) (hm : IsMem w bm bw n f) (h1 : b ≠ bm) (h2 : b ≠ bw) {nv : Int} (hnv : u64 (was + 1) = nv) 
    (hx : stepOf n f ⟨0, 2, 0, 0, nv, true⟩ = x) (hf' : wordsOf n f ⟨0, 2, 0, 0, nv, true⟩ = f') :
    Calls Try.prog 92 #[.pointer (some ⟨b, 0, none⟩), .pointer (some ⟨bm, 0, none⟩)] w fun e w' => e = .returned (.tuple #[x.val, .int .i64 0]) ∧
      w'.rowIs b 100 7 (wrC last 2 1 was value t) ∧ IsMem w' bm bw n f' ∧ Touch w w' (fun k => k = b ∨ k = bw) := by
  obtain ⟨⟨c0, fz0⟩, ⟨c1, fz1⟩, ⟨c2, fz2⟩, ⟨c3, fz3⟩, ⟨c4, fz4⟩, ⟨c5, fz5⟩, c6, fz6⟩ := w_facts h
  have hl := h.lt
  have lw := hm.row.lt
  have lm := hm.head.lt
  have hn3 : w.heap.size ≠ b := by omega
  have hn4 : w.heap.size ≠ bw := by omega
  have hn5 : w.heap.size ≠ bm := by omega
  obtain ⟨W1, hW1⟩ : ∃ W1, (((w.setCell ⟨b, 2, none⟩ (.int .i64 1)).setCell ⟨b, 1, none⟩ (.int .i64 2)).alloc (.cells #[.int .i64 0, .int .i64 0, .int .i64 0, .int .u64 0, .int .u64 0, .bool false] 77)) = W1 := ⟨_, rfl⟩
  have R := hide (show W1.rowIs b 100 7 (wrC last 2 1 was value t) from by
    rw [← hW1]
    refine World.rowIs.congr ?_ (fun i hi => w_open last 1 at_ was value t i hi)
    repeat (first | (with_reducible refine World.rowIs.set ?_ _ _) | (with_reducible apply World.rowIs.alloc))
    exact h)
  have M := hide (show IsMem W1 bm bw n f from by
    rw [← hW1]
    repeat (first | (with_reducible apply IsMem.alloc) | ((with_reducible refine IsMem.setOther ?_ ?_ ?_ _); rotate_left; (simp; omega); (simp; omega)))
    exact hm)
  have RZ := hide (show W1.rowIs w.heap.size 77 6 zcell from by
    rw [← hW1]
    have := row0 ((w.setCell ⟨b, 2, none⟩ (.int .i64 1)).setCell ⟨b, 1, none⟩ (.int .i64 2))
    simpa using this)
  have T0 := hide (show Touch w W1 (fun k => k = b ∨ k = bw) from by
    rw [← hW1]
    repeat (first | (with_reducible apply Touch.alloc) | (with_reducible refine Touch.setCell ?_ _ ?side _; case side => simp))
    exact Touch.refl w _)
  have sz : W1.heap.size = w.heap.size + 1 := by rw [← hW1]; simp
  have lW1 : b < W1.heap.size := by omega
  obtain ⟨⟨e0, ef0⟩, ⟨e1, ef1⟩, ⟨e2, ef2⟩, ⟨e3, ef3⟩, ⟨e4, ef4⟩, ⟨e5, ef5⟩, e6, ef6⟩ := w_facts R.out
  have HX := hide hx
  have HF := hide hf'
  have HW : Hid (0 ≤ (⟨0, 2, 0, 0, nv, true⟩ : Stp).put ∧ (⟨0, 2, 0, 0, nv, true⟩ : Stp).put ≤ 18446744073709551615) := (by rw [← hnv]; exact hide ⟨u64_lo _, u64_hi _⟩)
  have g1 := wrap_u64' (was + 1)
  rw [hnv] at g1
  clear hm h hx hf' hnv
  go_enter Try.func92, Try.ntmps92
  go_wp2_with fail
  clear hW1 c0 fz0 e0 ef0 c1 fz1 e1 ef1 c2 fz2 e2 ef2 c3 fz3 e3 ef3 c4 fz4 e4 ef4 c5 fz5 e5 ef5 c6 fz6 e6 ef6
  refine (store_any (b := b) M.out HW.out HX.out HF.out).mono ?_
  rintro e w1 ⟨rfl, hm1, hg1⟩
  simp only [Stp.val]
  have lw1 := hg1.size
  have R1 := hide (show w1.rowIs b 100 7 (wrC last 2 1 was value t) from R.out.of_block (hg1.block b (by omega) (by simpa using h2)))
  have RR := hide (show w1.rowIs w.heap.size 77 6 zcell from RZ.out.of_block (hg1.block w.heap.size (by omega) (by simpa using hn4)))
  have M1 := hide hm1
  have T1 := hide (T0.out.trans' (Touch.of_grown hg1) (fun k _ e => .inr (by simpa using e)))
  have l1 : b < w1.heap.size := by omega
  have l2 : w.heap.size < w1.heap.size := by omega
  have l3 : bw < w1.heap.size := by omega
  have l4 : bm < w1.heap.size := by omega
  clear hm1 hg1
  obtain ⟨⟨d0, df0⟩, ⟨d1, df1⟩, ⟨d2, df2⟩, ⟨d3, df3⟩, ⟨d4, df4⟩, ⟨d5, df5⟩, d6, df6⟩ := w_facts R1.out
  obtain ⟨⟨r0, rf0⟩, ⟨r1, rf1⟩, ⟨r2, rf2⟩, ⟨r3, rf3⟩, ⟨r4, rf4⟩, r5, rf5⟩ := res_facts RR.out
  go_wp2_with fail
  go_light
  refine bodyPost_ret (v := .tuple #[x.val, .int .i64 0]) ?res rfl ⟨rfl, ?row, ?mem, ?tch⟩
  case row =>
    repeat (first | (with_reducible apply World.rowIs.alloc) | (with_reducible apply World.rowIs.drew) | (with_reducible refine World.rowIs.setOther ?_ ?side _; case side => (simp; omega)))
    with_reducible exact R1.out
  case mem =>
    repeat (first | (with_reducible apply IsMem.alloc) | (with_reducible apply IsMem.drew) | ((with_reducible refine IsMem.setOther ?_ ?_ ?_ _); rotate_left; (simp; omega); (simp; omega)))
    with_reducible exact M1.out
  case tch =>
    repeat (first | (with_reducible apply Touch.alloc) | (with_reducible apply Touch.drew) | (with_reducible refine Touch.setCell ?_ _ ?side _; case side => (first | (simp; done) | (simp; omega))))
    with_reducible exact T1.out
  case res => simp [results, Try.results92, go_sem, Stp.val, *]

set_option maxHeartbeats 4000000 in
theorem ws3 {w : World} {b bm bw n : Nat} {f f' : Nat → Int} {x : Stp} {last at_ was value : Int} {t : Ans} (h : w.rowIs b 100 7 (wrC last 3 at_ was value t)) (hm : IsMem w bm bw n f) (h1 : b ≠ bm) (h2 : b ≠ bw) {nv : Int} (hnv : u64 (was + 2) = nv) 
    (hx : stepOf n f ⟨0, 2, 0, 0, nv, true⟩ = x) (hf' : wordsOf n f ⟨0, 2, 0, 0, nv, true⟩ = f') :
    Calls Try.prog 92 #[.pointer (some ⟨b, 0, none⟩), .pointer (some ⟨bm, 0, none⟩)] w fun e w' => e = .returned (.tuple #[x.val, .int .i64 1]) ∧
      w'.rowIs b 100 7 (wrC last 3 at_ was value ⟨true, nv⟩) ∧ IsMem w' bm bw n f' ∧ Touch w w' (fun k => k = b ∨ k = bw) := by
  obtain ⟨⟨c0, fz0⟩, ⟨c1, fz1⟩, ⟨c2, fz2⟩, ⟨c3, fz3⟩, ⟨c4, fz4⟩, ⟨c5, fz5⟩, c6, fz6⟩ := w_facts h
  have hl := h.lt
  have lw := hm.row.lt
  have lm := hm.head.lt
  have hn3 : w.heap.size ≠ b := by omega
  have hn4 : w.heap.size ≠ bw := by omega
  have hn5 : w.heap.size ≠ bm := by omega
  obtain ⟨W1, hW1⟩ : ∃ W1, (((w.setCell ⟨b, 5, none⟩ (.bool true)).setCell ⟨b, 6, none⟩ (.int .u64 nv)).alloc (.cells #[.int .i64 0, .int .i64 0, .int .i64 0, .int .u64 0, .int .u64 0, .bool false] 77)) = W1 := ⟨_, rfl⟩
  have R := hide (show W1.rowIs b 100 7 (wrC last 3 at_ was value ⟨true, nv⟩) from by
    rw [← hW1]
    refine World.rowIs.congr ?_ (fun i hi => w_told last 3 at_ was value t nv i hi)
    repeat (first | (with_reducible refine World.rowIs.set ?_ _ _) | (with_reducible apply World.rowIs.alloc))
    exact h)
  have M := hide (show IsMem W1 bm bw n f from by
    rw [← hW1]
    repeat (first | (with_reducible apply IsMem.alloc) | ((with_reducible refine IsMem.setOther ?_ ?_ ?_ _); rotate_left; (simp; omega); (simp; omega)))
    exact hm)
  have RZ := hide (show W1.rowIs w.heap.size 77 6 zcell from by
    rw [← hW1]
    have := row0 ((w.setCell ⟨b, 5, none⟩ (.bool true)).setCell ⟨b, 6, none⟩ (.int .u64 nv))
    simpa using this)
  have T0 := hide (show Touch w W1 (fun k => k = b ∨ k = bw) from by
    rw [← hW1]
    repeat (first | (with_reducible apply Touch.alloc) | (with_reducible refine Touch.setCell ?_ _ ?side _; case side => simp))
    exact Touch.refl w _)
  have sz : W1.heap.size = w.heap.size + 1 := by rw [← hW1]; simp
  have lW1 : b < W1.heap.size := by omega
  obtain ⟨⟨e0, ef0⟩, ⟨e1, ef1⟩, ⟨e2, ef2⟩, ⟨e3, ef3⟩, ⟨e4, ef4⟩, ⟨e5, ef5⟩, e6, ef6⟩ := w_facts R.out
  have HX := hide hx
  have HF := hide hf'
  have HW : Hid (0 ≤ (⟨0, 2, 0, 0, nv, true⟩ : Stp).put ∧ (⟨0, 2, 0, 0, nv, true⟩ : Stp).put ≤ 18446744073709551615) := (by rw [← hnv]; exact hide ⟨u64_lo _, u64_hi _⟩)
  have g1 := wrap_u64' (was + 2)
  rw [hnv] at g1
  clear hm h hx hf' hnv
  go_enter Try.func92, Try.ntmps92
  go_wp2_with fail
  clear hW1 c0 fz0 e0 ef0 c1 fz1 e1 ef1 c2 fz2 e2 ef2 c3 fz3 e3 ef3 c4 fz4 e4 ef4 c5 fz5 e5 ef5 c6 fz6 e6 ef6
  refine (store_any (b := b) M.out HW.out HX.out HF.out).mono ?_
  rintro e w1 ⟨rfl, hm1, hg1⟩
  simp only [Stp.val]
  have lw1 := hg1.size
  have R1 := hide (show w1.rowIs b 100 7 (wrC last 3 at_ was value ⟨true, nv⟩) from R.out.of_block (hg1.block b (by omega) (by simpa using h2)))
  have RR := hide (show w1.rowIs w.heap.size 77 6 zcell from RZ.out.of_block (hg1.block w.heap.size (by omega) (by simpa using hn4)))
  have M1 := hide hm1
  have T1 := hide (T0.out.trans' (Touch.of_grown hg1) (fun k _ e => .inr (by simpa using e)))
  have l1 : b < w1.heap.size := by omega
  have l2 : w.heap.size < w1.heap.size := by omega
  have l3 : bw < w1.heap.size := by omega
  have l4 : bm < w1.heap.size := by omega
  clear hm1 hg1
  obtain ⟨⟨d0, df0⟩, ⟨d1, df1⟩, ⟨d2, df2⟩, ⟨d3, df3⟩, ⟨d4, df4⟩, ⟨d5, df5⟩, d6, df6⟩ := w_facts R1.out
  obtain ⟨⟨r0, rf0⟩, ⟨r1, rf1⟩, ⟨r2, rf2⟩, ⟨r3, rf3⟩, ⟨r4, rf4⟩, r5, rf5⟩ := res_facts RR.out
  go_wp2_with fail
  go_light
  refine bodyPost_ret (v := .tuple #[x.val, .int .i64 1]) ?res rfl ⟨rfl, ?row, ?mem, ?tch⟩
  case row =>
    repeat (first | (with_reducible apply World.rowIs.alloc) | (with_reducible apply World.rowIs.drew) | (with_reducible refine World.rowIs.setOther ?_ ?side _; case side => (simp; omega)))
    with_reducible exact R1.out
  case mem =>
    repeat (first | (with_reducible apply IsMem.alloc) | (with_reducible apply IsMem.drew) | ((with_reducible refine IsMem.setOther ?_ ?_ ?_ _); rotate_left; (simp; omega); (simp; omega)))
    with_reducible exact M1.out
  case tch =>
    repeat (first | (with_reducible apply Touch.alloc) | (with_reducible apply Touch.drew) | (with_reducible refine Touch.setCell ?_ _ ?side _; case side => (first | (simp; done) | (simp; omega))))
    with_reducible exact T1.out
  case res => simp [results, Try.results92, go_sem, Stp.val, *]

set_option maxHeartbeats 4000000 in
theorem ws2 {w : World} {b bm bw n : Nat} {f f' : Nat → Int} {x : Stp} {last at_ was value : Int} {t : Ans} {C' : Nat → Value} (h : w.rowIs b 100 7 (wrC last 2 at_ was value t)) (hm : IsMem w bm bw n f) (h1 : b ≠ bm) (h2 : b ≠ bw)
    (hc : ∀ w1 : World, w1.rowIs b 100 7 (wrC last 2 at_ was value t) → IsMem w1 bm bw n f → Calls Try.prog 95 #[.pointer (some ⟨b, 0, none⟩), .pointer (some ⟨bm, 0, none⟩)] w1 fun e w' => e = .returned (x.val) ∧ w'.rowIs b 100 7 C' ∧ IsMem w' bm bw n f' ∧ Touch w1 w' (fun k => k = b ∨ k = bw)) :
    Calls Try.prog 92 #[.pointer (some ⟨b, 0, none⟩), .pointer (some ⟨bm, 0, none⟩)] w fun e w' => e = .returned (.tuple #[x.val, .int .i64 0]) ∧ w'.rowIs b 100 7 C' ∧ IsMem w' bm bw n f' ∧ Touch w w' (fun k => k = b ∨ k = bw) := by
  have c1 : w.cell? ⟨b, 1, none⟩ = some (.int .i64 2) := h.cell (i := 1) (by omega)
  have hl := h.lt
  have lw := hm.row.lt
  have lm0 := hm.head.lt
  have K0 := hide (hc (w.alloc (.cells #[.int .i64 0, .int .i64 0, .int .i64 0, .int .u64 0, .int .u64 0, .bool false] 77)) (h.alloc _) (hm.alloc _))
  have RW := hide (row0 w)
  clear h hm hc
  go_enter Try.func92, Try.ntmps92
  go_wp2_with fail
  refine K0.out.mono ?_
  rintro e w1 ⟨rfl, row1, mem1, t1⟩
  simp only [Stp.val]
  have s1 := t1.size
  simp only [World.size_alloc] at s1
  have RR := hide (RW.out.of_block (t1.block w.heap.size (by simp) (by omega)))
  have R1 := hide row1
  have M1 := hide mem1
  have T1 := hide (((Touch.refl w (fun k => k = b ∨ k = bw)).alloc (.cells #[.int .i64 0, .int .i64 0, .int .i64 0, .int .u64 0, .int .u64 0, .bool false] 77)).trans t1)
  have l2 : w.heap.size < w1.heap.size := by omega
  have hn3 : w.heap.size ≠ b := by omega
  have hn4 : w.heap.size ≠ bw := by omega
  clear row1 mem1 t1 c1
  obtain ⟨⟨r0, rf0⟩, ⟨r1, rf1⟩, ⟨r2, rf2⟩, ⟨r3, rf3⟩, ⟨r4, rf4⟩, r5, rf5⟩ := res_facts RR.out
  go_wp2_with fail
  go_light
  refine bodyPost_ret (v := .tuple #[x.val, .int .i64 0]) ?res rfl ⟨rfl, ?row, ?mem, ?tch⟩
  case row =>
    repeat (first | (with_reducible apply World.rowIs.alloc) | (with_reducible apply World.rowIs.drew) | (with_reducible refine World.rowIs.setOther ?_ ?side _; case side => (simp; omega)))
    with_reducible exact R1.out
  case mem =>
    repeat (first | (with_reducible apply IsMem.alloc) | (with_reducible apply IsMem.drew) | ((with_reducible refine IsMem.setOther ?_ ?_ ?_ _); rotate_left; (simp; omega); (simp; omega)))
    with_reducible exact M1.out
  case tch =>
    repeat (first | (with_reducible apply Touch.alloc) | (with_reducible apply Touch.drew) | (with_reducible refine Touch.setCell ?_ _ ?side _; case side => (first | (simp; done) | (simp; omega))))
    with_reducible exact T1.out
  case res => simp [results, Try.results92, go_sem, Stp.val, *]

end Seq
end Go.Proofs.Ytkiojiibppdjjaa
