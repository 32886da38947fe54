/-
  Lemmas: DealB.
-/
import Derived.Test.YtdgolkdedghajaaTq22
/-
  The tasks of a deal: a Lay.
-/
namespace Go.Proofs.Ytdgolkdedghajaa
open Go.RowKit
set_option linter.unusedVariables false
set_option linter.unusedSimpArgs false
set_option maxRecDepth 20000
namespace Deal

set_option maxHeartbeats 4000000 in
theorem l_begin {w : World} {b bm bw n : Nat} {f f' : Nat → Int} {x : Stp} {hand room st fst en val : Int} {t : Ans} (h : w.rowIs b 87 8 (mvC hand room st fst en val t)) (hm : IsMem w bm bw n f) (h1 : b ≠ bm) (h2 : b ≠ bw) 
    (hx : stepOf n f ⟨hand, 1, 1, 0, 0, true⟩ = x) (hf' : wordsOf n f ⟨hand, 1, 1, 0, 0, true⟩ = f') :
    Calls Try.prog 99 #[.pointer (some ⟨b, 0, none⟩), .pointer (some ⟨bm, 0, none⟩)] w fun e w' => e = .returned (.tuple #[x.val, .int .i64 0]) ∧
      w'.rowIs b 87 8 (mvC hand room 2 fst x.had val t) ∧ IsMem w' bm bw n f' ∧ Touch w w' (fun k => k = b ∨ k = bw) := by
  obtain ⟨⟨c0, fz0⟩, ⟨c1, fz1⟩, ⟨c2, fz2⟩, ⟨c3, fz3⟩, ⟨c4, fz4⟩, ⟨c5, fz5⟩, ⟨c6, fz6⟩, c7, fz7⟩ := mv_facts h
  have hl := h.lt
  have lw := hm.row.lt
  have lm := hm.head.lt
  have hn3 : w.heap.size ≠ b := by omega
  have hn4 : w.heap.size ≠ bw := by omega
  have hn5 : w.heap.size ≠ bm := by omega
  obtain ⟨W1, hW1⟩ : ∃ W1, (w.alloc (.cells #[.int .i64 0, .int .i64 0, .int .i64 0, .int .u64 0, .int .u64 0, .bool false] 55)) = W1 := ⟨_, rfl⟩
  have R := hide (show W1.rowIs b 87 8 (mvC hand room st fst en val t) from by
    rw [← hW1]
    skip
    repeat (first | (with_reducible refine World.rowIs.set ?_ _ _) | (with_reducible apply World.rowIs.alloc))
    exact h)
  have M := hide (show IsMem W1 bm bw n f from by
    rw [← hW1]
    repeat (first | (with_reducible apply IsMem.alloc) | ((with_reducible refine IsMem.setOther ?_ ?_ ?_ _); rotate_left; (simp; omega); (simp; omega)))
    exact hm)
  have RZ := hide (show W1.rowIs w.heap.size 55 6 zcell from by
    rw [← hW1]
    repeat (with_reducible refine World.rowIs.setOther ?_ ?side _; case side => (simp; omega))
    exact row0 w)
  have T0 := hide (show Touch w W1 (fun k => k = b ∨ k = bw) from by
    rw [← hW1]
    repeat (first | (with_reducible apply Touch.alloc) | (with_reducible refine Touch.setCell ?_ _ ?side _; case side => simp))
    exact Touch.refl w _)
  have sz : W1.heap.size = w.heap.size + 1 := by rw [← hW1]; simp
  have HX := hide hx
  have HF := hide hf'
  have HW : Hid (0 ≤ (⟨hand, 1, 1, 0, 0, true⟩ : Stp).put ∧ (⟨hand, 1, 1, 0, 0, true⟩ : Stp).put ≤ 18446744073709551615) := ⟨by show (0 : Int) ≤ 0; omega, by show (0 : Int) ≤ 18446744073709551615; omega⟩
  clear hm h hx hf' 
  go_enter Try.func99, Try.ntmps99
  go_wp2_with fail
  clear hW1 c0 fz0 c1 fz1 c2 fz2 c3 fz3 c4 fz4 c5 fz5 c6 fz6 c7 fz7
  refine (load_any (R.out.cell (i := 0) (by omega)) (by omega) M.out HW.out HX.out HF.out).mono ?_
  rintro e w1 ⟨rfl, hm1, hg1⟩
  simp only [Stp.val]
  have lw1 := hg1.size
  have R1 := hide (show w1.rowIs b 87 8 (mvC hand room st fst en val t) from R.out.of_block (hg1.block b (by omega) (by simpa using h2)))
  have RR := hide (show w1.rowIs w.heap.size 55 6 zcell from RZ.out.of_block (hg1.block w.heap.size (by omega) (by simpa using hn4)))
  have M1 := hide hm1
  have T1 := hide (T0.out.trans' (Touch.of_grown hg1) (fun k _ e => .inr (by simpa using e)))
  have l1 : b < w1.heap.size := by omega
  have l2 : w.heap.size < w1.heap.size := by omega
  have l3 : bw < w1.heap.size := by omega
  have l4 : bm < w1.heap.size := by omega
  clear hm1 hg1
  obtain ⟨⟨d0, df0⟩, ⟨d1, df1⟩, ⟨d2, df2⟩, ⟨d3, df3⟩, ⟨d4, df4⟩, ⟨d5, df5⟩, ⟨d6, df6⟩, d7, df7⟩ := mv_facts R1.out
  obtain ⟨⟨r0, rf0⟩, ⟨r1, rf1⟩, ⟨r2, rf2⟩, ⟨r3, rf3⟩, ⟨r4, rf4⟩, r5, rf5⟩ := res_facts RR.out
  go_wp2_with fail
  go_light
  refine bodyPost_ret (v := .tuple #[x.val, .int .i64 0]) ?res rfl ⟨rfl, ?row, ?mem, ?tch⟩
  case row =>
    refine World.rowIs.congr ?_ (fun i hi => mv_en hand room st fst en val t 2 x.had i hi)
    repeat (first | (with_reducible apply World.rowIs.alloc) | (with_reducible apply World.rowIs.drew) | (with_reducible refine World.rowIs.setOther ?_ ?side _; case side => (simp; omega)))
    with_reducible refine World.rowIs.set ?_ 2 _
    repeat (first | (with_reducible apply World.rowIs.alloc) | (with_reducible apply World.rowIs.drew) | (with_reducible refine World.rowIs.setOther ?_ ?side _; case side => (simp; omega)))
    with_reducible refine World.rowIs.set ?_ 4 _
    repeat (first | (with_reducible apply World.rowIs.alloc) | (with_reducible apply World.rowIs.drew) | (with_reducible refine World.rowIs.setOther ?_ ?side _; case side => (simp; omega)))
    with_reducible exact R1.out
  case mem =>
    repeat (first | (with_reducible apply IsMem.alloc) | (with_reducible apply IsMem.drew) | ((with_reducible refine IsMem.setOther ?_ ?_ ?_ _); rotate_left; (simp; omega); (simp; omega)))
    with_reducible exact M1.out
  case tch =>
    repeat (first | (with_reducible apply Touch.alloc) | (with_reducible apply Touch.drew) | (with_reducible refine Touch.setCell ?_ _ ?side _; case side => (first | (simp; done) | (simp; omega))))
    with_reducible exact T1.out
  case res => simp [results, Try.results99, go_sem, Stp.val, *]

set_option maxHeartbeats 4000000 in
theorem l_full {w : World} {b bm bw n : Nat} {f f' : Nat → Int} {x : Stp} {hand room st fst en val : Int} {t : Ans} (h : w.rowIs b 87 8 (mvC hand room st fst en val t)) (hm : IsMem w bm bw n f) (h1 : b ≠ bm) (h2 : b ≠ bw) {ah : Int} (hah : ahd en x.had = ah) (a1 : room ≤ ah) 
    (hx : stepOf n f ⟨hand, 1, 0, 0, 0, true⟩ = x) (hf' : wordsOf n f ⟨hand, 1, 0, 0, 0, true⟩ = f') :
    Calls Try.prog 100 #[.pointer (some ⟨b, 0, none⟩), .pointer (some ⟨bm, 0, none⟩)] w fun e w' => e = .returned (.tuple #[x.val, .int .i64 1]) ∧
      w'.rowIs b 87 8 (mvC hand room st x.had en val t) ∧ IsMem w' bm bw n f' ∧ Touch w w' (fun k => k = b ∨ k = bw) := by
  obtain ⟨⟨c0, fz0⟩, ⟨c1, fz1⟩, ⟨c2, fz2⟩, ⟨c3, fz3⟩, ⟨c4, fz4⟩, ⟨c5, fz5⟩, ⟨c6, fz6⟩, c7, fz7⟩ := mv_facts h
  have hl := h.lt
  have lw := hm.row.lt
  have lm := hm.head.lt
  have hn3 : w.heap.size ≠ b := by omega
  have hn4 : w.heap.size ≠ bw := by omega
  have hn5 : w.heap.size ≠ bm := by omega
  obtain ⟨W1, hW1⟩ : ∃ W1, (w.alloc (.cells #[.int .i64 0, .int .i64 0, .int .i64 0, .int .u64 0, .int .u64 0, .bool false] 55)) = W1 := ⟨_, rfl⟩
  have R := hide (show W1.rowIs b 87 8 (mvC hand room st fst en val t) from by
    rw [← hW1]
    skip
    repeat (first | (with_reducible refine World.rowIs.set ?_ _ _) | (with_reducible apply World.rowIs.alloc))
    exact h)
  have M := hide (show IsMem W1 bm bw n f from by
    rw [← hW1]
    repeat (first | (with_reducible apply IsMem.alloc) | ((with_reducible refine IsMem.setOther ?_ ?_ ?_ _); rotate_left; (simp; omega); (simp; omega)))
    exact hm)
  have RZ := hide (show W1.rowIs w.heap.size 55 6 zcell from by
    rw [← hW1]
    repeat (with_reducible refine World.rowIs.setOther ?_ ?side _; case side => (simp; omega))
    exact row0 w)
  have T0 := hide (show Touch w W1 (fun k => k = b ∨ k = bw) from by
    rw [← hW1]
    repeat (first | (with_reducible apply Touch.alloc) | (with_reducible refine Touch.setCell ?_ _ ?side _; case side => simp))
    exact Touch.refl w _)
  have sz : W1.heap.size = w.heap.size + 1 := by rw [← hW1]; simp
  have HX := hide hx
  have HF := hide hf'
  have HW : Hid (0 ≤ (⟨hand, 1, 0, 0, 0, true⟩ : Stp).put ∧ (⟨hand, 1, 0, 0, 0, true⟩ : Stp).put ≤ 18446744073709551615) := ⟨by show (0 : Int) ≤ 0; omega, by show (0 : Int) ≤ 18446744073709551615; omega⟩
  have HAH := hide hah
  clear hm h hx hf' hah
  go_enter Try.func100, Try.ntmps100
  go_wp2_with fail
  clear hW1 c0 fz0 c1 fz1 c2 fz2 c3 fz3 c4 fz4 c5 fz5 c6 fz6 c7 fz7
  refine (load_any (R.out.cell (i := 0) (by omega)) (by omega) M.out HW.out HX.out HF.out).mono ?_
  rintro e w1 ⟨rfl, hm1, hg1⟩
  simp only [Stp.val]
  have lw1 := hg1.size
  have R1 : w1.rowIs b 87 8 (mvC hand room st fst en val t) := R.out.of_block (hg1.block b (by omega) (by simpa using h2))
  have RR : w1.rowIs w.heap.size 55 6 zcell := RZ.out.of_block (hg1.block w.heap.size (by omega) (by simpa using hn4))
  have T1 := T0.out.trans' (Touch.of_grown hg1) (fun k _ e => .inr (by simpa using e))
  have l1 : b < w1.heap.size := by omega
  have l2 : w.heap.size < w1.heap.size := by omega
  have l3 : bw < w1.heap.size := by omega
  have l4 : bm < w1.heap.size := by omega
  have SQ : (w1.alloc (.cells #[.int .i64 x.hand, .int .i64 x.act, .int .i64 x.at_, .int .u64 x.had, .int .u64 x.put, .bool x.ok] 55)).rowIs w1.heap.size 55 6 (fun i => (#[.int .i64 x.hand, .int .i64 x.act, .int .i64 x.at_, .int .u64 x.had, .int .u64 x.put, .bool x.ok] : Array Value).getD i undef) := rowIs_cells _ 55 _ 6 rfl (fun i hi => by
    match i, hi with
    | 0, _ | 1, _ | 2, _ | 3, _ | 4, _ | 5, _ => rfl)
  obtain ⟨V, hV⟩ : ∃ V, ((w1.alloc (.cells #[.int .i64 x.hand, .int .i64 x.act, .int .i64 x.at_, .int .u64 x.had, .int .u64 x.put, .bool x.ok] 55)).setCell ⟨b, 3, none⟩ (.int .u64 x.had)) = V := ⟨_, rfl⟩
  have RV := hide (show V.rowIs b 87 8 (mvC hand room st x.had en val t) from by
    rw [← hV]
    refine World.rowIs.congr ?_ (fun i hi => mv_fst0 hand room st fst en val t x.had i hi)
    skip
    refine World.rowIs.set ?_ 3 _
    exact R1.alloc _)
  have RRV := hide (show V.rowIs w.heap.size 55 6 zcell from by
    rw [← hV]
    skip
    repeat (with_reducible refine World.rowIs.setOther ?_ ?side _; case side => (simp; omega))
    exact RR.alloc _)
  have MV := hide (show IsMem V bm bw n f' from by
    rw [← hV]
    skip
    repeat ((with_reducible refine IsMem.setOther ?_ ?_ ?_ _); rotate_left; (simp; omega); (simp; omega))
    exact hm1.alloc _)
  have TV := hide (show Touch w V (fun k => k = b ∨ k = bw) from by
    rw [← hV]
    skip
    repeat (with_reducible refine Touch.setCell ?_ _ ?side _; case side => simp)
    exact T1.alloc _)
  have SV := hide (show V.rowIs w1.heap.size 55 6 (fun i => (#[.int .i64 x.hand, .int .i64 x.act, .int .i64 x.at_, .int .u64 x.had, .int .u64 x.put, .bool x.ok] : Array Value).getD i undef) from by
    rw [← hV]
    repeat (with_reducible refine World.rowIs.setOther ?_ ?side _; case side => (simp; omega))
    exact SQ)
  have szv : V.heap.size = w1.heap.size + 1 := by rw [← hV]; simp
  have k1 : b < V.heap.size := by omega
  have k2 : w.heap.size < V.heap.size := by omega
  have k3 : w1.heap.size < V.heap.size := by omega
  have e0 : w1.cell? ⟨b, 0, none⟩ = some (.int .i64 hand) := R1.cell (i := 0) (by omega)
  have e3' : w1.cell? ⟨b, 3, none⟩ = some (.int .u64 fst) := R1.cell (i := 3) (by omega)
  have ef3' := R1.frozen 3
  obtain ⟨⟨d0, df0⟩, ⟨d1, df1⟩, ⟨d2, df2⟩, ⟨d3, df3⟩, ⟨d4, df4⟩, ⟨d5, df5⟩, ⟨d6, df6⟩, d7, df7⟩ := mv_facts RV.out
  obtain ⟨⟨r0, rf0⟩, ⟨r1, rf1⟩, ⟨r2, rf2⟩, ⟨r3, rf3⟩, ⟨r4, rf4⟩, r5, rf5⟩ := res_facts RRV.out
  have s0 : V.cell? ⟨w1.heap.size, 0, none⟩ = some (.int .i64 x.hand) := SV.out.cell (i := 0) (by omega)
  have s1 : V.cell? ⟨w1.heap.size, 1, none⟩ = some (.int .i64 x.act) := SV.out.cell (i := 1) (by omega)
  have s2 : V.cell? ⟨w1.heap.size, 2, none⟩ = some (.int .i64 x.at_) := SV.out.cell (i := 2) (by omega)
  have s3 : V.cell? ⟨w1.heap.size, 3, none⟩ = some (.int .u64 x.had) := SV.out.cell (i := 3) (by omega)
  have s4 : V.cell? ⟨w1.heap.size, 4, none⟩ = some (.int .u64 x.put) := SV.out.cell (i := 4) (by omega)
  have s5 : V.cell? ⟨w1.heap.size, 5, none⟩ = some (.bool x.ok) := SV.out.cell (i := 5) (by omega)
  clear hm1 hg1 R1 RR T1 SQ
  go_wp2_with fail
  clear hV e0 e3' ef3'
  go_quiet ((go_at_call 104; exact Calls.quiet_of (there_any (w := V.drewN _) RV.out.lt (RV.out.cell (i := 3) (by omega)) (RV.out.cell (i := 4) (by omega)))))
  simp only [HAH.out]
  go_wp2_with fail
  go_light
  have RVn := hide (show (V.drewN nq).rowIs b 87 8 (mvC hand room st x.had en val t) from RV.out.of_block rfl)
  have MVn := hide (show IsMem (V.drewN nq) bm bw n f' from ⟨MV.out.head.of_block rfl, MV.out.row.of_block rfl, MV.out.most, MV.out.word⟩)
  have TVn := hide (show Touch w (V.drewN nq) (fun k => k = b ∨ k = bw) from TV.out.trans' (S' := fun _ => False) ⟨rfl, rfl, rfl, Nat.le_refl _, fun _ _ _ => rfl⟩ (fun _ _ h => h.elim))
  refine bodyPost_ret (v := .tuple #[x.val, .int .i64 1]) ?res rfl ⟨rfl, ?row, ?mem, ?tch⟩
  case row =>
    repeat (first | (with_reducible apply World.rowIs.alloc) | (with_reducible apply World.rowIs.drew) | (with_reducible refine World.rowIs.setOther ?_ ?side _; case side => (simp; omega)))
    with_reducible exact RVn.out
  case mem =>
    repeat (first | (with_reducible apply IsMem.alloc) | (with_reducible apply IsMem.drew) | ((with_reducible refine IsMem.setOther ?_ ?_ ?_ _); rotate_left; (simp; omega); (simp; omega)))
    with_reducible exact MVn.out
  case tch =>
    repeat (first | (with_reducible apply Touch.alloc) | (with_reducible apply Touch.drew) | (with_reducible refine Touch.setCell ?_ _ ?side _; case side => (first | (simp; done) | (simp; omega))))
    with_reducible exact TVn.out
  case res => simp [results, Try.results100, go_sem, Stp.val, *]

set_option maxHeartbeats 4000000 in
theorem l_room {w : World} {b bm bw n : Nat} {f f' : Nat → Int} {x : Stp} {hand room st fst en val : Int} {t : Ans} (h : w.rowIs b 87 8 (mvC hand room st fst en val t)) (hm : IsMem w bm bw n f) (h1 : b ≠ bm) (h2 : b ≠ bw) {ah : Int} (hah : ahd en x.had = ah) (a1 : ¬ room ≤ ah) 
    (hx : stepOf n f ⟨hand, 1, 0, 0, 0, true⟩ = x) (hf' : wordsOf n f ⟨hand, 1, 0, 0, 0, true⟩ = f') :
    Calls Try.prog 100 #[.pointer (some ⟨b, 0, none⟩), .pointer (some ⟨bm, 0, none⟩)] w fun e w' => e = .returned (.tuple #[x.val, .int .i64 0]) ∧
      w'.rowIs b 87 8 (mvC hand room 3 x.had en val t) ∧ IsMem w' bm bw n f' ∧ Touch w w' (fun k => k = b ∨ k = bw) := by
  obtain ⟨⟨c0, fz0⟩, ⟨c1, fz1⟩, ⟨c2, fz2⟩, ⟨c3, fz3⟩, ⟨c4, fz4⟩, ⟨c5, fz5⟩, ⟨c6, fz6⟩, c7, fz7⟩ := mv_facts h
  have hl := h.lt
  have lw := hm.row.lt
  have lm := hm.head.lt
  have hn3 : w.heap.size ≠ b := by omega
  have hn4 : w.heap.size ≠ bw := by omega
  have hn5 : w.heap.size ≠ bm := by omega
  obtain ⟨W1, hW1⟩ : ∃ W1, (w.alloc (.cells #[.int .i64 0, .int .i64 0, .int .i64 0, .int .u64 0, .int .u64 0, .bool false] 55)) = W1 := ⟨_, rfl⟩
  have R := hide (show W1.rowIs b 87 8 (mvC hand room st fst en val t) from by
    rw [← hW1]
    skip
    repeat (first | (with_reducible refine World.rowIs.set ?_ _ _) | (with_reducible apply World.rowIs.alloc))
    exact h)
  have M := hide (show IsMem W1 bm bw n f from by
    rw [← hW1]
    repeat (first | (with_reducible apply IsMem.alloc) | ((with_reducible refine IsMem.setOther ?_ ?_ ?_ _); rotate_left; (simp; omega); (simp; omega)))
    exact hm)
  have RZ := hide (show W1.rowIs w.heap.size 55 6 zcell from by
    rw [← hW1]
    repeat (with_reducible refine World.rowIs.setOther ?_ ?side _; case side => (simp; omega))
    exact row0 w)
  have T0 := hide (show Touch w W1 (fun k => k = b ∨ k = bw) from by
    rw [← hW1]
    repeat (first | (with_reducible apply Touch.alloc) | (with_reducible refine Touch.setCell ?_ _ ?side _; case side => simp))
    exact Touch.refl w _)
  have sz : W1.heap.size = w.heap.size + 1 := by rw [← hW1]; simp
  have HX := hide hx
  have HF := hide hf'
  have HW : Hid (0 ≤ (⟨hand, 1, 0, 0, 0, true⟩ : Stp).put ∧ (⟨hand, 1, 0, 0, 0, true⟩ : Stp).put ≤ 18446744073709551615) := ⟨by show (0 : Int) ≤ 0; omega, by show (0 : Int) ≤ 18446744073709551615; omega⟩
  have HAH := hide hah
  clear hm h hx hf' hah
  go_enter Try.func100, Try.ntmps100
  go_wp2_with fail
  clear hW1 c0 fz0 c1 fz1 c2 fz2 c3 fz3 c4 fz4 c5 fz5 c6 fz6 c7 fz7
  refine (load_any (R.out.cell (i := 0) (by omega)) (by omega) M.out HW.out HX.out HF.out).mono ?_
  rintro e w1 ⟨rfl, hm1, hg1⟩
  simp only [Stp.val]
  have lw1 := hg1.size
  have R1 : w1.rowIs b 87 8 (mvC hand room st fst en val t) := R.out.of_block (hg1.block b (by omega) (by simpa using h2))
  have RR : w1.rowIs w.heap.size 55 6 zcell := RZ.out.of_block (hg1.block w.heap.size (by omega) (by simpa using hn4))
  have T1 := T0.out.trans' (Touch.of_grown hg1) (fun k _ e => .inr (by simpa using e))
  have l1 : b < w1.heap.size := by omega
  have l2 : w.heap.size < w1.heap.size := by omega
  have l3 : bw < w1.heap.size := by omega
  have l4 : bm < w1.heap.size := by omega
  have SQ : (w1.alloc (.cells #[.int .i64 x.hand, .int .i64 x.act, .int .i64 x.at_, .int .u64 x.had, .int .u64 x.put, .bool x.ok] 55)).rowIs w1.heap.size 55 6 (fun i => (#[.int .i64 x.hand, .int .i64 x.act, .int .i64 x.at_, .int .u64 x.had, .int .u64 x.put, .bool x.ok] : Array Value).getD i undef) := rowIs_cells _ 55 _ 6 rfl (fun i hi => by
    match i, hi with
    | 0, _ | 1, _ | 2, _ | 3, _ | 4, _ | 5, _ => rfl)
  obtain ⟨V, hV⟩ : ∃ V, ((w1.alloc (.cells #[.int .i64 x.hand, .int .i64 x.act, .int .i64 x.at_, .int .u64 x.had, .int .u64 x.put, .bool x.ok] 55)).setCell ⟨b, 3, none⟩ (.int .u64 x.had)) = V := ⟨_, rfl⟩
  have RV := hide (show V.rowIs b 87 8 (mvC hand room st x.had en val t) from by
    rw [← hV]
    refine World.rowIs.congr ?_ (fun i hi => mv_fst0 hand room st fst en val t x.had i hi)
    skip
    refine World.rowIs.set ?_ 3 _
    exact R1.alloc _)
  have RRV := hide (show V.rowIs w.heap.size 55 6 zcell from by
    rw [← hV]
    skip
    repeat (with_reducible refine World.rowIs.setOther ?_ ?side _; case side => (simp; omega))
    exact RR.alloc _)
  have MV := hide (show IsMem V bm bw n f' from by
    rw [← hV]
    skip
    repeat ((with_reducible refine IsMem.setOther ?_ ?_ ?_ _); rotate_left; (simp; omega); (simp; omega))
    exact hm1.alloc _)
  have TV := hide (show Touch w V (fun k => k = b ∨ k = bw) from by
    rw [← hV]
    skip
    repeat (with_reducible refine Touch.setCell ?_ _ ?side _; case side => simp)
    exact T1.alloc _)
  have SV := hide (show V.rowIs w1.heap.size 55 6 (fun i => (#[.int .i64 x.hand, .int .i64 x.act, .int .i64 x.at_, .int .u64 x.had, .int .u64 x.put, .bool x.ok] : Array Value).getD i undef) from by
    rw [← hV]
    repeat (with_reducible refine World.rowIs.setOther ?_ ?side _; case side => (simp; omega))
    exact SQ)
  have szv : V.heap.size = w1.heap.size + 1 := by rw [← hV]; simp
  have k1 : b < V.heap.size := by omega
  have k2 : w.heap.size < V.heap.size := by omega
  have k3 : w1.heap.size < V.heap.size := by omega
  have e0 : w1.cell? ⟨b, 0, none⟩ = some (.int .i64 hand) := R1.cell (i := 0) (by omega)
  have e3' : w1.cell? ⟨b, 3, none⟩ = some (.int .u64 fst) := R1.cell (i := 3) (by omega)
  have ef3' := R1.frozen 3
  obtain ⟨⟨d0, df0⟩, ⟨d1, df1⟩, ⟨d2, df2⟩, ⟨d3, df3⟩, ⟨d4, df4⟩, ⟨d5, df5⟩, ⟨d6, df6⟩, d7, df7⟩ := mv_facts RV.out
  obtain ⟨⟨r0, rf0⟩, ⟨r1, rf1⟩, ⟨r2, rf2⟩, ⟨r3, rf3⟩, ⟨r4, rf4⟩, r5, rf5⟩ := res_facts RRV.out
  have s0 : V.cell? ⟨w1.heap.size, 0, none⟩ = some (.int .i64 x.hand) := SV.out.cell (i := 0) (by omega)
  have s1 : V.cell? ⟨w1.heap.size, 1, none⟩ = some (.int .i64 x.act) := SV.out.cell (i := 1) (by omega)
  have s2 : V.cell? ⟨w1.heap.size, 2, none⟩ = some (.int .i64 x.at_) := SV.out.cell (i := 2) (by omega)
  have s3 : V.cell? ⟨w1.heap.size, 3, none⟩ = some (.int .u64 x.had) := SV.out.cell (i := 3) (by omega)
  have s4 : V.cell? ⟨w1.heap.size, 4, none⟩ = some (.int .u64 x.put) := SV.out.cell (i := 4) (by omega)
  have s5 : V.cell? ⟨w1.heap.size, 5, none⟩ = some (.bool x.ok) := SV.out.cell (i := 5) (by omega)
  clear hm1 hg1 R1 RR T1 SQ
  go_wp2_with fail
  clear hV e0 e3' ef3'
  go_quiet ((go_at_call 104; exact Calls.quiet_of (there_any (w := V.drewN _) RV.out.lt (RV.out.cell (i := 3) (by omega)) (RV.out.cell (i := 4) (by omega)))))
  simp only [HAH.out]
  go_wp2_with fail
  go_light
  have RVn := hide (show (V.drewN nq).rowIs b 87 8 (mvC hand room st x.had en val t) from RV.out.of_block rfl)
  have MVn := hide (show IsMem (V.drewN nq) bm bw n f' from ⟨MV.out.head.of_block rfl, MV.out.row.of_block rfl, MV.out.most, MV.out.word⟩)
  have TVn := hide (show Touch w (V.drewN nq) (fun k => k = b ∨ k = bw) from TV.out.trans' (S' := fun _ => False) ⟨rfl, rfl, rfl, Nat.le_refl _, fun _ _ _ => rfl⟩ (fun _ _ h => h.elim))
  refine bodyPost_ret (v := .tuple #[x.val, .int .i64 0]) ?res rfl ⟨rfl, ?row, ?mem, ?tch⟩
  case row =>
    refine World.rowIs.congr ?_ (fun i hi => mv_st hand room st x.had en val t 3 i hi)
    repeat (first | (with_reducible apply World.rowIs.alloc) | (with_reducible apply World.rowIs.drew) | (with_reducible refine World.rowIs.setOther ?_ ?side _; case side => (simp; omega)))
    with_reducible refine World.rowIs.set ?_ 2 _
    repeat (first | (with_reducible apply World.rowIs.alloc) | (with_reducible apply World.rowIs.drew) | (with_reducible refine World.rowIs.setOther ?_ ?side _; case side => (simp; omega)))
    with_reducible exact RVn.out
  case mem =>
    repeat (first | (with_reducible apply IsMem.alloc) | (with_reducible apply IsMem.drew) | ((with_reducible refine IsMem.setOther ?_ ?_ ?_ _); rotate_left; (simp; omega); (simp; omega)))
    with_reducible exact MVn.out
  case tch =>
    repeat (first | (with_reducible apply Touch.alloc) | (with_reducible apply Touch.drew) | (with_reducible refine Touch.setCell ?_ _ ?side _; case side => (first | (simp; done) | (simp; omega))))
    with_reducible exact TVn.out
  case res => simp [results, Try.results100, go_sem, Stp.val, *]

end Deal
end Go.Proofs.Ytdgolkdedghajaa
