/-
  Lemmas: SeqE.
-/
import Derived.Test.YtkiojiibppdjjaaTp23
/-
  The tasks of a record with a version: a Read: its looks.
-/
namespace Go.Proofs.Ytkiojiibppdjjaa
open Go.RowKit
set_option linter.unusedVariables false
set_option linter.unusedSimpArgs false
set_option maxRecDepth 20000
namespace Seq

set_option maxHeartbeats 4000000 in
theorem r_look_even {w : World} {b bm bw n : Nat} {f f' : Nat → Int} {x : Stp} {hand last st at_ seen fov : Int} {fok : Bool} {t : Ans} (h : w.rowIs b 103 9 (rdC hand last st at_ seen ⟨fok, fov⟩ t)) (hm : IsMem w bm bw n f) (h1 : b ≠ bm) (h2 : b ≠ bw) (hxh : 0 ≤ x.had ∧ x.had ≤ 18446744073709551615) (a1 : x.had % 2 = 0) 
    (hx : stepOf n f ⟨hand, 1, 0, 0, 0, true⟩ = x) (hf' : wordsOf n f ⟨hand, 1, 0, 0, 0, true⟩ = f') :
    Calls Try.prog 106 #[.pointer (some ⟨b, 0, none⟩), .pointer (some ⟨bm, 0, none⟩)] w fun e w' => e = .returned x.val ∧
      w'.rowIs b 103 9 (rdC hand last 2 1 x.had ⟨fok, fov⟩ t) ∧ IsMem w' bm bw n f' ∧ Touch w w' (fun k => k = b ∨ k = bw) := by
  obtain ⟨⟨c0, fz0⟩, ⟨c1, fz1⟩, ⟨c2, fz2⟩, ⟨c3, fz3⟩, ⟨c4, fz4⟩, ⟨c5, fz5⟩, ⟨c6, fz6⟩, ⟨c7, fz7⟩, c8, fz8⟩ := r_facts h
  have hl := h.lt
  have lw := hm.row.lt
  have lm := hm.head.lt
  have hn3 : w.heap.size ≠ b := by omega
  have hn4 : w.heap.size ≠ bw := by omega
  have hn5 : w.heap.size ≠ bm := by omega
  obtain ⟨W1, hW1⟩ : ∃ W1, (w.alloc (.cells #[.int .i64 0, .int .i64 0, .int .i64 0, .int .u64 0, .int .u64 0, .bool false] 77)) = W1 := ⟨_, rfl⟩
  have R := hide (show W1.rowIs b 103 9 (rdC hand last st at_ seen ⟨fok, fov⟩ t) from by
    rw [← hW1]
    skip
    repeat (first | (with_reducible refine World.rowIs.set ?_ _ _) | (with_reducible apply World.rowIs.alloc))
    exact h)
  have M := hide (show IsMem W1 bm bw n f from by
    rw [← hW1]
    repeat (first | (with_reducible apply IsMem.alloc) | ((with_reducible refine IsMem.setOther ?_ ?_ ?_ _); rotate_left; (simp; omega); (simp; omega)))
    exact hm)
  have RZ := hide (show W1.rowIs w.heap.size 77 6 zcell from by
    rw [← hW1]
    have := row0 w
    simpa using this)
  have T0 := hide (show Touch w W1 (fun k => k = b ∨ k = bw) from by
    rw [← hW1]
    repeat (first | (with_reducible apply Touch.alloc) | (with_reducible refine Touch.setCell ?_ _ ?side _; case side => simp))
    exact Touch.refl w _)
  have sz : W1.heap.size = w.heap.size + 1 := by rw [← hW1]; simp
  have lW1 : b < W1.heap.size := by omega
  obtain ⟨⟨e0, ef0⟩, ⟨e1, ef1⟩, ⟨e2, ef2⟩, ⟨e3, ef3⟩, ⟨e4, ef4⟩, ⟨e5, ef5⟩, ⟨e6, ef6⟩, ⟨e7, ef7⟩, e8, ef8⟩ := r_facts R.out
  have HX := hide hx
  have HF := hide hf'
  have HW : Hid (0 ≤ (⟨hand, 1, 0, 0, 0, true⟩ : Stp).put ∧ (⟨hand, 1, 0, 0, 0, true⟩ : Stp).put ≤ 18446744073709551615) := ⟨by show (0 : Int) ≤ 0; omega, by show (0 : Int) ≤ 18446744073709551615; omega⟩
  have g1 : x.had.tmod 2 = 0 := by rw [Int.tmod_eq_emod_of_nonneg hxh.1]; omega
  clear hm h hx hf' hxh a1
  go_enter Try.func106, Try.ntmps106
  go_wp2_with fail
  clear hW1 c0 fz0 e0 ef0 c1 fz1 e1 ef1 c2 fz2 e2 ef2 c3 fz3 e3 ef3 c4 fz4 e4 ef4 c5 fz5 e5 ef5 c6 fz6 e6 ef6 c7 fz7 e7 ef7 c8 fz8 e8 ef8
  refine (load_any (R.out.cell (i := 0) (by omega)) (by omega) M.out HW.out HX.out HF.out).mono ?_
  rintro e w1 ⟨rfl, hm1, hg1⟩
  simp only [Stp.val]
  have lw1 := hg1.size
  have R1 := hide (show w1.rowIs b 103 9 (rdC hand last st at_ seen ⟨fok, fov⟩ t) from R.out.of_block (hg1.block b (by omega) (by simpa using h2)))
  have RR := hide (show w1.rowIs w.heap.size 77 6 zcell from RZ.out.of_block (hg1.block w.heap.size (by omega) (by simpa using hn4)))
  have M1 := hide hm1
  have T1 := hide (T0.out.trans' (Touch.of_grown hg1) (fun k _ e => .inr (by simpa using e)))
  have l1 : b < w1.heap.size := by omega
  have l2 : w.heap.size < w1.heap.size := by omega
  have l3 : bw < w1.heap.size := by omega
  have l4 : bm < w1.heap.size := by omega
  clear hm1 hg1
  obtain ⟨⟨d0, df0⟩, ⟨d1, df1⟩, ⟨d2, df2⟩, ⟨d3, df3⟩, ⟨d4, df4⟩, ⟨d5, df5⟩, ⟨d6, df6⟩, ⟨d7, df7⟩, d8, df8⟩ := r_facts R1.out
  obtain ⟨⟨r0, rf0⟩, ⟨r1, rf1⟩, ⟨r2, rf2⟩, ⟨r3, rf3⟩, ⟨r4, rf4⟩, r5, rf5⟩ := res_facts RR.out
  go_wp2_with fail
  go_light
  refine bodyPost_ret (v := x.val) ?res rfl ⟨rfl, ?row, ?mem, ?tch⟩
  case row =>
    refine World.rowIs.congr ?_ (fun i hi => r_look hand last st at_ seen fov fok t x.had i hi)
    repeat (first | (with_reducible apply World.rowIs.alloc) | (with_reducible apply World.rowIs.drew) | (with_reducible refine World.rowIs.setOther ?_ ?side _; case side => (simp; omega)))
    with_reducible refine World.rowIs.set ?_ 2 _
    repeat (first | (with_reducible apply World.rowIs.alloc) | (with_reducible apply World.rowIs.drew) | (with_reducible refine World.rowIs.setOther ?_ ?side _; case side => (simp; omega)))
    with_reducible refine World.rowIs.set ?_ 3 _
    repeat (first | (with_reducible apply World.rowIs.alloc) | (with_reducible apply World.rowIs.drew) | (with_reducible refine World.rowIs.setOther ?_ ?side _; case side => (simp; omega)))
    with_reducible refine World.rowIs.set ?_ 4 _
    repeat (first | (with_reducible apply World.rowIs.alloc) | (with_reducible apply World.rowIs.drew) | (with_reducible refine World.rowIs.setOther ?_ ?side _; case side => (simp; omega)))
    with_reducible exact R1.out
  case mem =>
    repeat (first | (with_reducible apply IsMem.alloc) | (with_reducible apply IsMem.drew) | ((with_reducible refine IsMem.setOther ?_ ?_ ?_ _); rotate_left; (simp; omega); (simp; omega)))
    with_reducible exact M1.out
  case tch =>
    repeat (first | (with_reducible apply Touch.alloc) | (with_reducible apply Touch.drew) | (with_reducible refine Touch.setCell ?_ _ ?side _; case side => (first | (simp; done) | (simp; omega))))
    with_reducible exact T1.out
  case res => simp [results, Try.results106, go_sem, Stp.val, *]

set_option maxHeartbeats 4000000 in
theorem r_look_odd {w : World} {b bm bw n : Nat} {f f' : Nat → Int} {x : Stp} {hand last st at_ seen fov : Int} {fok : Bool} {t : Ans} (h : w.rowIs b 103 9 (rdC hand last st at_ seen ⟨fok, fov⟩ t)) (hm : IsMem w bm bw n f) (h1 : b ≠ bm) (h2 : b ≠ bw) (hxh : 0 ≤ x.had ∧ x.had ≤ 18446744073709551615) (a1 : ¬ x.had % 2 = 0) 
    (hx : stepOf n f ⟨hand, 1, 0, 0, 0, true⟩ = x) (hf' : wordsOf n f ⟨hand, 1, 0, 0, 0, true⟩ = f') :
    Calls Try.prog 106 #[.pointer (some ⟨b, 0, none⟩), .pointer (some ⟨bm, 0, none⟩)] w fun e w' => e = .returned x.val ∧
      w'.rowIs b 103 9 (rdC hand last st at_ seen ⟨fok, fov⟩ t) ∧ IsMem w' bm bw n f' ∧ Touch w w' (fun k => k = b ∨ k = bw) := by
  obtain ⟨⟨c0, fz0⟩, ⟨c1, fz1⟩, ⟨c2, fz2⟩, ⟨c3, fz3⟩, ⟨c4, fz4⟩, ⟨c5, fz5⟩, ⟨c6, fz6⟩, ⟨c7, fz7⟩, c8, fz8⟩ := r_facts h
  have hl := h.lt
  have lw := hm.row.lt
  have lm := hm.head.lt
  have hn3 : w.heap.size ≠ b := by omega
  have hn4 : w.heap.size ≠ bw := by omega
  have hn5 : w.heap.size ≠ bm := by omega
  obtain ⟨W1, hW1⟩ : ∃ W1, (w.alloc (.cells #[.int .i64 0, .int .i64 0, .int .i64 0, .int .u64 0, .int .u64 0, .bool false] 77)) = W1 := ⟨_, rfl⟩
  have R := hide (show W1.rowIs b 103 9 (rdC hand last st at_ seen ⟨fok, fov⟩ t) from by
    rw [← hW1]
    skip
    repeat (first | (with_reducible refine World.rowIs.set ?_ _ _) | (with_reducible apply World.rowIs.alloc))
    exact h)
  have M := hide (show IsMem W1 bm bw n f from by
    rw [← hW1]
    repeat (first | (with_reducible apply IsMem.alloc) | ((with_reducible refine IsMem.setOther ?_ ?_ ?_ _); rotate_left; (simp; omega); (simp; omega)))
    exact hm)
  have RZ := hide (show W1.rowIs w.heap.size 77 6 zcell from by
    rw [← hW1]
    have := row0 w
    simpa using this)
  have T0 := hide (show Touch w W1 (fun k => k = b ∨ k = bw) from by
    rw [← hW1]
    repeat (first | (with_reducible apply Touch.alloc) | (with_reducible refine Touch.setCell ?_ _ ?side _; case side => simp))
    exact Touch.refl w _)
  have sz : W1.heap.size = w.heap.size + 1 := by rw [← hW1]; simp
  have lW1 : b < W1.heap.size := by omega
  obtain ⟨⟨e0, ef0⟩, ⟨e1, ef1⟩, ⟨e2, ef2⟩, ⟨e3, ef3⟩, ⟨e4, ef4⟩, ⟨e5, ef5⟩, ⟨e6, ef6⟩, ⟨e7, ef7⟩, e8, ef8⟩ := r_facts R.out
  have HX := hide hx
  have HF := hide hf'
  have HW : Hid (0 ≤ (⟨hand, 1, 0, 0, 0, true⟩ : Stp).put ∧ (⟨hand, 1, 0, 0, 0, true⟩ : Stp).put ≤ 18446744073709551615) := ⟨by show (0 : Int) ≤ 0; omega, by show (0 : Int) ≤ 18446744073709551615; omega⟩
  have g1 : x.had.tmod 2 = 1 := by rw [Int.tmod_eq_emod_of_nonneg hxh.1]; omega
  clear hm h hx hf' hxh a1
  go_enter Try.func106, Try.ntmps106
  go_wp2_with fail
  clear hW1 c0 fz0 e0 ef0 c1 fz1 e1 ef1 c2 fz2 e2 ef2 c3 fz3 e3 ef3 c4 fz4 e4 ef4 c5 fz5 e5 ef5 c6 fz6 e6 ef6 c7 fz7 e7 ef7 c8 fz8 e8 ef8
  refine (load_any (R.out.cell (i := 0) (by omega)) (by omega) M.out HW.out HX.out HF.out).mono ?_
  rintro e w1 ⟨rfl, hm1, hg1⟩
  simp only [Stp.val]
  have lw1 := hg1.size
  have R1 := hide (show w1.rowIs b 103 9 (rdC hand last st at_ seen ⟨fok, fov⟩ t) from R.out.of_block (hg1.block b (by omega) (by simpa using h2)))
  have RR := hide (show w1.rowIs w.heap.size 77 6 zcell from RZ.out.of_block (hg1.block w.heap.size (by omega) (by simpa using hn4)))
  have M1 := hide hm1
  have T1 := hide (T0.out.trans' (Touch.of_grown hg1) (fun k _ e => .inr (by simpa using e)))
  have l1 : b < w1.heap.size := by omega
  have l2 : w.heap.size < w1.heap.size := by omega
  have l3 : bw < w1.heap.size := by omega
  have l4 : bm < w1.heap.size := by omega
  clear hm1 hg1
  obtain ⟨⟨d0, df0⟩, ⟨d1, df1⟩, ⟨d2, df2⟩, ⟨d3, df3⟩, ⟨d4, df4⟩, ⟨d5, df5⟩, ⟨d6, df6⟩, ⟨d7, df7⟩, d8, df8⟩ := r_facts R1.out
  obtain ⟨⟨r0, rf0⟩, ⟨r1, rf1⟩, ⟨r2, rf2⟩, ⟨r3, rf3⟩, ⟨r4, rf4⟩, r5, rf5⟩ := res_facts RR.out
  go_wp2_with fail
  go_light
  refine bodyPost_ret (v := x.val) ?res rfl ⟨rfl, ?row, ?mem, ?tch⟩
  case row =>
    repeat (first | (with_reducible apply World.rowIs.alloc) | (with_reducible apply World.rowIs.drew) | (with_reducible refine World.rowIs.setOther ?_ ?side _; case side => (simp; omega)))
    with_reducible exact R1.out
  case mem =>
    repeat (first | (with_reducible apply IsMem.alloc) | (with_reducible apply IsMem.drew) | ((with_reducible refine IsMem.setOther ?_ ?_ ?_ _); rotate_left; (simp; omega); (simp; omega)))
    with_reducible exact M1.out
  case tch =>
    repeat (first | (with_reducible apply Touch.alloc) | (with_reducible apply Touch.drew) | (with_reducible refine Touch.setCell ?_ _ ?side _; case side => (first | (simp; done) | (simp; omega))))
    with_reducible exact T1.out
  case res => simp [results, Try.results106, go_sem, Stp.val, *]

set_option maxHeartbeats 4000000 in
theorem r_finish_same {w : World} {b bm bw n : Nat} {f f' : Nat → Int} {x : Stp} {hand last st at_ fov : Int} {fok : Bool} {t : Ans} (h : w.rowIs b 103 9 (rdC hand last st at_ x.had ⟨fok, fov⟩ t)) (hm : IsMem w bm bw n f) (h1 : b ≠ bm) (h2 : b ≠ bw) 
    (hx : stepOf n f ⟨hand, 1, 0, 0, 0, true⟩ = x) (hf' : wordsOf n f ⟨hand, 1, 0, 0, 0, true⟩ = f') :
    Calls Try.prog 108 #[.pointer (some ⟨b, 0, none⟩), .pointer (some ⟨bm, 0, none⟩)] w fun e w' => e = .returned (.tuple #[x.val, .int .i64 1]) ∧
      w'.rowIs b 103 9 (rdC hand last st at_ x.had ⟨fok, fov⟩ ⟨fok, fov⟩) ∧ IsMem w' bm bw n f' ∧ Touch w w' (fun k => k = b ∨ k = bw) := by
  obtain ⟨⟨c0, fz0⟩, ⟨c1, fz1⟩, ⟨c2, fz2⟩, ⟨c3, fz3⟩, ⟨c4, fz4⟩, ⟨c5, fz5⟩, ⟨c6, fz6⟩, ⟨c7, fz7⟩, c8, fz8⟩ := r_facts h
  have hl := h.lt
  have lw := hm.row.lt
  have lm := hm.head.lt
  have hn3 : w.heap.size ≠ b := by omega
  have hn4 : w.heap.size ≠ bw := by omega
  have hn5 : w.heap.size ≠ bm := by omega
  obtain ⟨W1, hW1⟩ : ∃ W1, (w.alloc (.cells #[.int .i64 0, .int .i64 0, .int .i64 0, .int .u64 0, .int .u64 0, .bool false] 77)) = W1 := ⟨_, rfl⟩
  have R := hide (show W1.rowIs b 103 9 (rdC hand last st at_ x.had ⟨fok, fov⟩ t) from by
    rw [← hW1]
    skip
    repeat (first | (with_reducible refine World.rowIs.set ?_ _ _) | (with_reducible apply World.rowIs.alloc))
    exact h)
  have M := hide (show IsMem W1 bm bw n f from by
    rw [← hW1]
    repeat (first | (with_reducible apply IsMem.alloc) | ((with_reducible refine IsMem.setOther ?_ ?_ ?_ _); rotate_left; (simp; omega); (simp; omega)))
    exact hm)
  have RZ := hide (show W1.rowIs w.heap.size 77 6 zcell from by
    rw [← hW1]
    have := row0 w
    simpa using this)
  have T0 := hide (show Touch w W1 (fun k => k = b ∨ k = bw) from by
    rw [← hW1]
    repeat (first | (with_reducible apply Touch.alloc) | (with_reducible refine Touch.setCell ?_ _ ?side _; case side => simp))
    exact Touch.refl w _)
  have sz : W1.heap.size = w.heap.size + 1 := by rw [← hW1]; simp
  have lW1 : b < W1.heap.size := by omega
  obtain ⟨⟨e0, ef0⟩, ⟨e1, ef1⟩, ⟨e2, ef2⟩, ⟨e3, ef3⟩, ⟨e4, ef4⟩, ⟨e5, ef5⟩, ⟨e6, ef6⟩, ⟨e7, ef7⟩, e8, ef8⟩ := r_facts R.out
  have HX := hide hx
  have HF := hide hf'
  have HW : Hid (0 ≤ (⟨hand, 1, 0, 0, 0, true⟩ : Stp).put ∧ (⟨hand, 1, 0, 0, 0, true⟩ : Stp).put ≤ 18446744073709551615) := ⟨by show (0 : Int) ≤ 0; omega, by show (0 : Int) ≤ 18446744073709551615; omega⟩
  clear hm h hx hf' 
  go_enter Try.func108, Try.ntmps108
  go_wp2_with fail
  clear hW1 c0 fz0 e0 ef0 c1 fz1 e1 ef1 c2 fz2 e2 ef2 c3 fz3 e3 ef3 c4 fz4 e4 ef4 c5 fz5 e5 ef5 c6 fz6 e6 ef6 c7 fz7 e7 ef7 c8 fz8 e8 ef8
  refine (load_any (R.out.cell (i := 0) (by omega)) (by omega) M.out HW.out HX.out HF.out).mono ?_
  rintro e w1 ⟨rfl, hm1, hg1⟩
  simp only [Stp.val]
  have lw1 := hg1.size
  have R1 := hide (show w1.rowIs b 103 9 (rdC hand last st at_ x.had ⟨fok, fov⟩ t) from R.out.of_block (hg1.block b (by omega) (by simpa using h2)))
  have RR := hide (show w1.rowIs w.heap.size 77 6 zcell from RZ.out.of_block (hg1.block w.heap.size (by omega) (by simpa using hn4)))
  have M1 := hide hm1
  have T1 := hide (T0.out.trans' (Touch.of_grown hg1) (fun k _ e => .inr (by simpa using e)))
  have l1 : b < w1.heap.size := by omega
  have l2 : w.heap.size < w1.heap.size := by omega
  have l3 : bw < w1.heap.size := by omega
  have l4 : bm < w1.heap.size := by omega
  clear hm1 hg1
  obtain ⟨⟨d0, df0⟩, ⟨d1, df1⟩, ⟨d2, df2⟩, ⟨d3, df3⟩, ⟨d4, df4⟩, ⟨d5, df5⟩, ⟨d6, df6⟩, ⟨d7, df7⟩, d8, df8⟩ := r_facts R1.out
  obtain ⟨⟨r0, rf0⟩, ⟨r1, rf1⟩, ⟨r2, rf2⟩, ⟨r3, rf3⟩, ⟨r4, rf4⟩, r5, rf5⟩ := res_facts RR.out
  obtain ⟨PV, hPV⟩ : ∃ W', w1 = W' := ⟨_, rfl⟩
  have tV : Touch w1 PV (fun k => k = b) := by
    rw [← hPV]
    exact (Touch.refl w1 _)
  have szp : PV.heap.size = w1.heap.size := by rw [← hPV] <;> first | (simp; done) | rfl | (simp; rfl)
  have RP := hide (show PV.rowIs b 103 9 (rdC hand last st at_ x.had ⟨fok, fov⟩ t) from by
    rw [← hPV]
    exact R1.out)
  obtain ⟨V, hV⟩ : ∃ W', (w1.alloc (.cells #[.int .i64 x.hand, .int .i64 x.act, .int .i64 x.at_, .int .u64 x.had, .int .u64 x.put, .bool x.ok] 77)) = W' := ⟨_, rfl⟩
  have hV' : PV.alloc (.cells #[.int .i64 x.hand, .int .i64 x.act, .int .i64 x.at_, .int .u64 x.had, .int .u64 x.put, .bool x.ok] 77) = V := by rw [← hPV]; exact hV
  have RV := hide (show V.rowIs b 103 9 (rdC hand last st at_ x.had ⟨fok, fov⟩ t) from by rw [← hV']; exact RP.out.alloc _)
  have QV := hide (show V.rowIs w.heap.size 77 6 zcell from by rw [← hV']; exact (RR.out.of_block (tV.block _ (by omega) (by omega))).alloc _)
  have MV := hide (show IsMem V bm bw n f' from by
    rw [← hV']
    exact IsMem.alloc ⟨M1.out.head.of_block (tV.block _ M1.out.head.lt (by omega)), M1.out.row.of_block (tV.block _ M1.out.row.lt (by omega)), M1.out.most, M1.out.word⟩ _)
  have TV := hide (show Touch w V (fun k => k = b ∨ k = bw) from by rw [← hV']; exact (T1.out.trans' tV (fun k _ h => .inl h)).alloc _)
  have SV := hide (show V.rangeAt w1.heap.size 0 [Value.int .i64 x.hand, .int .i64 x.act, .int .i64 x.at_, .int .u64 x.had, .int .u64 x.put, .bool x.ok] from by
    rw [← hV', ← szp]
    exact cell_range (b := 0) (cs := [Value.int .i64 x.hand, .int .i64 x.act, .int .i64 x.at_, .int .u64 x.had, .int .u64 x.put, .bool x.ok]))
  have szV : V.heap.size = w1.heap.size + 1 := by rw [← hV', World.size_alloc, szp]
  clear tV hV' hPV RP szp
  have lbV : b < V.heap.size := by omega
  have lrV : w.heap.size < V.heap.size := by omega
  have lqV : w1.heap.size < V.heap.size := by omega
  obtain ⟨⟨dV0, dfV0⟩, ⟨dV1, dfV1⟩, ⟨dV2, dfV2⟩, ⟨dV3, dfV3⟩, ⟨dV4, dfV4⟩, ⟨dV5, dfV5⟩, ⟨dV6, dfV6⟩, ⟨dV7, dfV7⟩, dV8, dfV8⟩ := r_facts RV.out
  obtain ⟨⟨r0V, rf0V⟩, ⟨r1V, rf1V⟩, ⟨r2V, rf2V⟩, ⟨r3V, rf3V⟩, ⟨r4V, rf4V⟩, r5V, rf5V⟩ := res_facts QV.out
  have s0V : V.cell? ⟨w1.heap.size, 0, none⟩ = some (.int .i64 x.hand) := by have := SV.out 0 _ rfl; simpa using this
  have s1V : V.cell? ⟨w1.heap.size, 1, none⟩ = some (.int .i64 x.act) := by have := SV.out 1 _ rfl; simpa using this
  have s2V : V.cell? ⟨w1.heap.size, 2, none⟩ = some (.int .i64 x.at_) := by have := SV.out 2 _ rfl; simpa using this
  have s3V : V.cell? ⟨w1.heap.size, 3, none⟩ = some (.int .u64 x.had) := by have := SV.out 3 _ rfl; simpa using this
  have s4V : V.cell? ⟨w1.heap.size, 4, none⟩ = some (.int .u64 x.put) := by have := SV.out 4 _ rfl; simpa using this
  have s5V : V.cell? ⟨w1.heap.size, 5, none⟩ = some (.bool x.ok) := by have := SV.out 5 _ rfl; simpa using this
  go_wp2_with fail
  clear hV d0 df0 d1 df1 d2 df2 d3 df3 d4 df4 d5 df5 d6 df6 d7 df7 d8 df8 r0 rf0 r1 rf1 r2 rf2 r3 rf3 r4 rf4 r5 rf5
  go_quiet (fail)
  go_wp2_with fail
  go_light
  have RN := hide (show (V.drewN nq).rowIs b 103 9 (rdC hand last st at_ x.had ⟨fok, fov⟩ t) from RV.out.of_block rfl)
  have MN := hide (show IsMem (V.drewN nq) bm bw n f' from ⟨MV.out.head.of_block rfl, MV.out.row.of_block rfl, MV.out.most, MV.out.word⟩)
  have TN := hide (show Touch w (V.drewN nq) (fun k => k = b ∨ k = bw) from TV.out.trans' (S' := fun _ => False) ⟨rfl, rfl, rfl, Nat.le_refl _, fun _ _ _ => rfl⟩ (fun _ _ h => h.elim))
  refine bodyPost_ret (v := .tuple #[x.val, .int .i64 1]) ?res rfl ⟨rfl, ?row, ?mem, ?tch⟩
  case row =>
    refine World.rowIs.congr ?_ (fun i hi => r_told hand last st at_ x.had fov fok t i hi)
    repeat (first | (with_reducible apply World.rowIs.alloc) | (with_reducible apply World.rowIs.drew) | (with_reducible refine World.rowIs.setOther ?_ ?side _; case side => (simp; omega)))
    with_reducible refine World.rowIs.set ?_ 8 _
    repeat (first | (with_reducible apply World.rowIs.alloc) | (with_reducible apply World.rowIs.drew) | (with_reducible refine World.rowIs.setOther ?_ ?side _; case side => (simp; omega)))
    with_reducible refine World.rowIs.set ?_ 7 _
    repeat (first | (with_reducible apply World.rowIs.alloc) | (with_reducible apply World.rowIs.drew) | (with_reducible refine World.rowIs.setOther ?_ ?side _; case side => (simp; omega)))
    with_reducible exact RN.out
  case mem =>
    repeat (first | (with_reducible apply IsMem.alloc) | (with_reducible apply IsMem.drew) | ((with_reducible refine IsMem.setOther ?_ ?_ ?_ _); rotate_left; (simp; omega); (simp; omega)))
    with_reducible exact MN.out
  case tch =>
    repeat (first | (with_reducible apply Touch.alloc) | (with_reducible apply Touch.drew) | (with_reducible refine Touch.setCell ?_ _ ?side _; case side => (first | (simp; done) | (simp; omega))))
    with_reducible exact TN.out
  case res => simp [results, Try.results108, go_sem, Stp.val, *]

set_option maxHeartbeats 4000000 in
theorem r_finish_other {w : World} {b bm bw n : Nat} {f f' : Nat → Int} {x : Stp} {hand last st at_ seen fov : Int} {fok : Bool} {t : Ans} (h : w.rowIs b 103 9 (rdC hand last st at_ seen ⟨fok, fov⟩ t)) (hm : IsMem w bm bw n f) (h1 : b ≠ bm) (h2 : b ≠ bw) (a1 : ¬ x.had = seen) 
    (hx : stepOf n f ⟨hand, 1, 0, 0, 0, true⟩ = x) (hf' : wordsOf n f ⟨hand, 1, 0, 0, 0, true⟩ = f') :
    Calls Try.prog 108 #[.pointer (some ⟨b, 0, none⟩), .pointer (some ⟨bm, 0, none⟩)] w fun e w' => e = .returned (.tuple #[x.val, .int .i64 0]) ∧
      w'.rowIs b 103 9 (rdC hand last 0 at_ seen ⟨fok, fov⟩ t) ∧ IsMem w' bm bw n f' ∧ Touch w w' (fun k => k = b ∨ k = bw) := by
  obtain ⟨⟨c0, fz0⟩, ⟨c1, fz1⟩, ⟨c2, fz2⟩, ⟨c3, fz3⟩, ⟨c4, fz4⟩, ⟨c5, fz5⟩, ⟨c6, fz6⟩, ⟨c7, fz7⟩, c8, fz8⟩ := r_facts h
  have hl := h.lt
  have lw := hm.row.lt
  have lm := hm.head.lt
  have hn3 : w.heap.size ≠ b := by omega
  have hn4 : w.heap.size ≠ bw := by omega
  have hn5 : w.heap.size ≠ bm := by omega
  obtain ⟨W1, hW1⟩ : ∃ W1, (w.alloc (.cells #[.int .i64 0, .int .i64 0, .int .i64 0, .int .u64 0, .int .u64 0, .bool false] 77)) = W1 := ⟨_, rfl⟩
  have R := hide (show W1.rowIs b 103 9 (rdC hand last st at_ seen ⟨fok, fov⟩ t) from by
    rw [← hW1]
    skip
    repeat (first | (with_reducible refine World.rowIs.set ?_ _ _) | (with_reducible apply World.rowIs.alloc))
    exact h)
  have M := hide (show IsMem W1 bm bw n f from by
    rw [← hW1]
    repeat (first | (with_reducible apply IsMem.alloc) | ((with_reducible refine IsMem.setOther ?_ ?_ ?_ _); rotate_left; (simp; omega); (simp; omega)))
    exact hm)
  have RZ := hide (show W1.rowIs w.heap.size 77 6 zcell from by
    rw [← hW1]
    have := row0 w
    simpa using this)
  have T0 := hide (show Touch w W1 (fun k => k = b ∨ k = bw) from by
    rw [← hW1]
    repeat (first | (with_reducible apply Touch.alloc) | (with_reducible refine Touch.setCell ?_ _ ?side _; case side => simp))
    exact Touch.refl w _)
  have sz : W1.heap.size = w.heap.size + 1 := by rw [← hW1]; simp
  have lW1 : b < W1.heap.size := by omega
  obtain ⟨⟨e0, ef0⟩, ⟨e1, ef1⟩, ⟨e2, ef2⟩, ⟨e3, ef3⟩, ⟨e4, ef4⟩, ⟨e5, ef5⟩, ⟨e6, ef6⟩, ⟨e7, ef7⟩, e8, ef8⟩ := r_facts R.out
  have HX := hide hx
  have HF := hide hf'
  have HW : Hid (0 ≤ (⟨hand, 1, 0, 0, 0, true⟩ : Stp).put ∧ (⟨hand, 1, 0, 0, 0, true⟩ : Stp).put ≤ 18446744073709551615) := ⟨by show (0 : Int) ≤ 0; omega, by show (0 : Int) ≤ 18446744073709551615; omega⟩
  have a1' : (x.had != seen) = true := by simpa using a1
  clear hm h hx hf' 
  go_enter Try.func108, Try.ntmps108
  go_wp2_with fail
  clear hW1 c0 fz0 e0 ef0 c1 fz1 e1 ef1 c2 fz2 e2 ef2 c3 fz3 e3 ef3 c4 fz4 e4 ef4 c5 fz5 e5 ef5 c6 fz6 e6 ef6 c7 fz7 e7 ef7 c8 fz8 e8 ef8
  refine (load_any (R.out.cell (i := 0) (by omega)) (by omega) M.out HW.out HX.out HF.out).mono ?_
  rintro e w1 ⟨rfl, hm1, hg1⟩
  simp only [Stp.val]
  have lw1 := hg1.size
  have R1 := hide (show w1.rowIs b 103 9 (rdC hand last st at_ seen ⟨fok, fov⟩ t) from R.out.of_block (hg1.block b (by omega) (by simpa using h2)))
  have RR := hide (show w1.rowIs w.heap.size 77 6 zcell from RZ.out.of_block (hg1.block w.heap.size (by omega) (by simpa using hn4)))
  have M1 := hide hm1
  have T1 := hide (T0.out.trans' (Touch.of_grown hg1) (fun k _ e => .inr (by simpa using e)))
  have l1 : b < w1.heap.size := by omega
  have l2 : w.heap.size < w1.heap.size := by omega
  have l3 : bw < w1.heap.size := by omega
  have l4 : bm < w1.heap.size := by omega
  clear hm1 hg1
  obtain ⟨⟨d0, df0⟩, ⟨d1, df1⟩, ⟨d2, df2⟩, ⟨d3, df3⟩, ⟨d4, df4⟩, ⟨d5, df5⟩, ⟨d6, df6⟩, ⟨d7, df7⟩, d8, df8⟩ := r_facts R1.out
  obtain ⟨⟨r0, rf0⟩, ⟨r1, rf1⟩, ⟨r2, rf2⟩, ⟨r3, rf3⟩, ⟨r4, rf4⟩, r5, rf5⟩ := res_facts RR.out
  obtain ⟨PV, hPV⟩ : ∃ W', w1 = W' := ⟨_, rfl⟩
  have tV : Touch w1 PV (fun k => k = b) := by
    rw [← hPV]
    exact (Touch.refl w1 _)
  have szp : PV.heap.size = w1.heap.size := by rw [← hPV] <;> first | (simp; done) | rfl | (simp; rfl)
  have RP := hide (show PV.rowIs b 103 9 (rdC hand last st at_ seen ⟨fok, fov⟩ t) from by
    rw [← hPV]
    exact R1.out)
  obtain ⟨V, hV⟩ : ∃ W', (w1.alloc (.cells #[.int .i64 x.hand, .int .i64 x.act, .int .i64 x.at_, .int .u64 x.had, .int .u64 x.put, .bool x.ok] 77)) = W' := ⟨_, rfl⟩
  have hV' : PV.alloc (.cells #[.int .i64 x.hand, .int .i64 x.act, .int .i64 x.at_, .int .u64 x.had, .int .u64 x.put, .bool x.ok] 77) = V := by rw [← hPV]; exact hV
  have RV := hide (show V.rowIs b 103 9 (rdC hand last st at_ seen ⟨fok, fov⟩ t) from by rw [← hV']; exact RP.out.alloc _)
  have QV := hide (show V.rowIs w.heap.size 77 6 zcell from by rw [← hV']; exact (RR.out.of_block (tV.block _ (by omega) (by omega))).alloc _)
  have MV := hide (show IsMem V bm bw n f' from by
    rw [← hV']
    exact IsMem.alloc ⟨M1.out.head.of_block (tV.block _ M1.out.head.lt (by omega)), M1.out.row.of_block (tV.block _ M1.out.row.lt (by omega)), M1.out.most, M1.out.word⟩ _)
  have TV := hide (show Touch w V (fun k => k = b ∨ k = bw) from by rw [← hV']; exact (T1.out.trans' tV (fun k _ h => .inl h)).alloc _)
  have SV := hide (show V.rangeAt w1.heap.size 0 [Value.int .i64 x.hand, .int .i64 x.act, .int .i64 x.at_, .int .u64 x.had, .int .u64 x.put, .bool x.ok] from by
    rw [← hV', ← szp]
    exact cell_range (b := 0) (cs := [Value.int .i64 x.hand, .int .i64 x.act, .int .i64 x.at_, .int .u64 x.had, .int .u64 x.put, .bool x.ok]))
  have szV : V.heap.size = w1.heap.size + 1 := by rw [← hV', World.size_alloc, szp]
  clear tV hV' hPV RP szp
  have lbV : b < V.heap.size := by omega
  have lrV : w.heap.size < V.heap.size := by omega
  have lqV : w1.heap.size < V.heap.size := by omega
  obtain ⟨⟨dV0, dfV0⟩, ⟨dV1, dfV1⟩, ⟨dV2, dfV2⟩, ⟨dV3, dfV3⟩, ⟨dV4, dfV4⟩, ⟨dV5, dfV5⟩, ⟨dV6, dfV6⟩, ⟨dV7, dfV7⟩, dV8, dfV8⟩ := r_facts RV.out
  obtain ⟨⟨r0V, rf0V⟩, ⟨r1V, rf1V⟩, ⟨r2V, rf2V⟩, ⟨r3V, rf3V⟩, ⟨r4V, rf4V⟩, r5V, rf5V⟩ := res_facts QV.out
  have s0V : V.cell? ⟨w1.heap.size, 0, none⟩ = some (.int .i64 x.hand) := by have := SV.out 0 _ rfl; simpa using this
  have s1V : V.cell? ⟨w1.heap.size, 1, none⟩ = some (.int .i64 x.act) := by have := SV.out 1 _ rfl; simpa using this
  have s2V : V.cell? ⟨w1.heap.size, 2, none⟩ = some (.int .i64 x.at_) := by have := SV.out 2 _ rfl; simpa using this
  have s3V : V.cell? ⟨w1.heap.size, 3, none⟩ = some (.int .u64 x.had) := by have := SV.out 3 _ rfl; simpa using this
  have s4V : V.cell? ⟨w1.heap.size, 4, none⟩ = some (.int .u64 x.put) := by have := SV.out 4 _ rfl; simpa using this
  have s5V : V.cell? ⟨w1.heap.size, 5, none⟩ = some (.bool x.ok) := by have := SV.out 5 _ rfl; simpa using this
  go_wp2_with fail
  clear hV d0 df0 d1 df1 d2 df2 d3 df3 d4 df4 d5 df5 d6 df6 d7 df7 d8 df8 r0 rf0 r1 rf1 r2 rf2 r3 rf3 r4 rf4 r5 rf5
  go_quiet (fail)
  go_wp2_with fail
  go_light
  have RN := hide (show (V.drewN nq).rowIs b 103 9 (rdC hand last st at_ seen ⟨fok, fov⟩ t) from RV.out.of_block rfl)
  have MN := hide (show IsMem (V.drewN nq) bm bw n f' from ⟨MV.out.head.of_block rfl, MV.out.row.of_block rfl, MV.out.most, MV.out.word⟩)
  have TN := hide (show Touch w (V.drewN nq) (fun k => k = b ∨ k = bw) from TV.out.trans' (S' := fun _ => False) ⟨rfl, rfl, rfl, Nat.le_refl _, fun _ _ _ => rfl⟩ (fun _ _ h => h.elim))
  refine bodyPost_ret (v := .tuple #[x.val, .int .i64 0]) ?res rfl ⟨rfl, ?row, ?mem, ?tch⟩
  case row =>
    refine World.rowIs.congr ?_ (fun i hi => r_st hand last st at_ seen fov fok t 0 i hi)
    repeat (first | (with_reducible apply World.rowIs.alloc) | (with_reducible apply World.rowIs.drew) | (with_reducible refine World.rowIs.setOther ?_ ?side _; case side => (simp; omega)))
    with_reducible refine World.rowIs.set ?_ 2 _
    repeat (first | (with_reducible apply World.rowIs.alloc) | (with_reducible apply World.rowIs.drew) | (with_reducible refine World.rowIs.setOther ?_ ?side _; case side => (simp; omega)))
    with_reducible exact RN.out
  case mem =>
    repeat (first | (with_reducible apply IsMem.alloc) | (with_reducible apply IsMem.drew) | ((with_reducible refine IsMem.setOther ?_ ?_ ?_ _); rotate_left; (simp; omega); (simp; omega)))
    with_reducible exact MN.out
  case tch =>
    repeat (first | (with_reducible apply Touch.alloc) | (with_reducible apply Touch.drew) | (with_reducible refine Touch.setCell ?_ _ ?side _; case side => (first | (simp; done) | (simp; omega))))
    with_reducible exact TN.out
  case res => simp [results, Try.results108, go_sem, Stp.val, *]

end Seq
end Go.Proofs.Ytkiojiibppdjjaa
