/-
  Lemmas: DealE.
-/
import Derived.Test.YtdgolkdedghajaaTq25
/-
  The tasks of a deal: a Steal.
-/
namespace Go.Proofs.Ytdgolkdedghajaa
open Go.RowKit
set_option linter.unusedVariables false
set_option linter.unusedSimpArgs false
set_option maxRecDepth 20000
namespace Deal

set_option maxHeartbeats 4000000 in
theorem t_begin {w : World} {b bm bw n : Nat} {f f' : Nat → Int} {x : Stp} {hand room st fst en val : Int} {t : Ans} (h : w.rowIs b 91 8 (mvC hand room st fst en val t)) (hm : IsMem w bm bw n f) (h1 : b ≠ bm) (h2 : b ≠ bw) 
    (hx : stepOf n f ⟨hand, 1, 0, 0, 0, true⟩ = x) (hf' : wordsOf n f ⟨hand, 1, 0, 0, 0, true⟩ = f') :
    Calls Try.prog 123 #[.pointer (some ⟨b, 0, none⟩), .pointer (some ⟨bm, 0, none⟩)] w fun e w' => e = .returned (.tuple #[x.val, .int .i64 0]) ∧
      w'.rowIs b 91 8 (mvC hand room 2 x.had en val t) ∧ IsMem w' bm bw n f' ∧ Touch w w' (fun k => k = b ∨ k = bw) := by
  obtain ⟨⟨c0, fz0⟩, ⟨c1, fz1⟩, ⟨c2, fz2⟩, ⟨c3, fz3⟩, ⟨c4, fz4⟩, ⟨c5, fz5⟩, ⟨c6, fz6⟩, c7, fz7⟩ := mv_facts h
  have hl := h.lt
  have lw := hm.row.lt
  have lm := hm.head.lt
  have hn3 : w.heap.size ≠ b := by omega
  have hn4 : w.heap.size ≠ bw := by omega
  have hn5 : w.heap.size ≠ bm := by omega
  obtain ⟨W1, hW1⟩ : ∃ W1, (w.alloc (.cells #[.int .i64 0, .int .i64 0, .int .i64 0, .int .u64 0, .int .u64 0, .bool false] 55)) = W1 := ⟨_, rfl⟩
  have R := hide (show W1.rowIs b 91 8 (mvC hand room st fst en val t) from by
    rw [← hW1]
    skip
    repeat (first | (with_reducible refine World.rowIs.set ?_ _ _) | (with_reducible apply World.rowIs.alloc))
    exact h)
  have M := hide (show IsMem W1 bm bw n f from by
    rw [← hW1]
    repeat (first | (with_reducible apply IsMem.alloc) | ((with_reducible refine IsMem.setOther ?_ ?_ ?_ _); rotate_left; (simp; omega); (simp; omega)))
    exact hm)
  have RZ := hide (show W1.rowIs w.heap.size 55 6 zcell from by
    rw [← hW1]
    repeat (with_reducible refine World.rowIs.setOther ?_ ?side _; case side => (simp; omega))
    exact row0 w)
  have T0 := hide (show Touch w W1 (fun k => k = b ∨ k = bw) from by
    rw [← hW1]
    repeat (first | (with_reducible apply Touch.alloc) | (with_reducible refine Touch.setCell ?_ _ ?side _; case side => simp))
    exact Touch.refl w _)
  have sz : W1.heap.size = w.heap.size + 1 := by rw [← hW1]; simp
  have HX := hide hx
  have HF := hide hf'
  have HW : Hid (0 ≤ (⟨hand, 1, 0, 0, 0, true⟩ : Stp).put ∧ (⟨hand, 1, 0, 0, 0, true⟩ : Stp).put ≤ 18446744073709551615) := ⟨by show (0 : Int) ≤ 0; omega, by show (0 : Int) ≤ 18446744073709551615; omega⟩
  clear hm h hx hf' 
  go_enter Try.func123, Try.ntmps123
  go_wp2_with fail
  clear hW1 c0 fz0 c1 fz1 c2 fz2 c3 fz3 c4 fz4 c5 fz5 c6 fz6 c7 fz7
  refine (load_any (R.out.cell (i := 0) (by omega)) (by omega) M.out HW.out HX.out HF.out).mono ?_
  rintro e w1 ⟨rfl, hm1, hg1⟩
  simp only [Stp.val]
  have lw1 := hg1.size
  have R1 := hide (show w1.rowIs b 91 8 (mvC hand room st fst en val t) from R.out.of_block (hg1.block b (by omega) (by simpa using h2)))
  have RR := hide (show w1.rowIs w.heap.size 55 6 zcell from RZ.out.of_block (hg1.block w.heap.size (by omega) (by simpa using hn4)))
  have M1 := hide hm1
  have T1 := hide (T0.out.trans' (Touch.of_grown hg1) (fun k _ e => .inr (by simpa using e)))
  have l1 : b < w1.heap.size := by omega
  have l2 : w.heap.size < w1.heap.size := by omega
  have l3 : bw < w1.heap.size := by omega
  have l4 : bm < w1.heap.size := by omega
  clear hm1 hg1
  obtain ⟨⟨d0, df0⟩, ⟨d1, df1⟩, ⟨d2, df2⟩, ⟨d3, df3⟩, ⟨d4, df4⟩, ⟨d5, df5⟩, ⟨d6, df6⟩, d7, df7⟩ := mv_facts R1.out
  obtain ⟨⟨r0, rf0⟩, ⟨r1, rf1⟩, ⟨r2, rf2⟩, ⟨r3, rf3⟩, ⟨r4, rf4⟩, r5, rf5⟩ := res_facts RR.out
  go_wp2_with fail
  go_light
  refine bodyPost_ret (v := .tuple #[x.val, .int .i64 0]) ?res rfl ⟨rfl, ?row, ?mem, ?tch⟩
  case row =>
    refine World.rowIs.congr ?_ (fun i hi => mv_fst hand room st fst en val t 2 x.had i hi)
    repeat (first | (with_reducible apply World.rowIs.alloc) | (with_reducible apply World.rowIs.drew) | (with_reducible refine World.rowIs.setOther ?_ ?side _; case side => (simp; omega)))
    with_reducible refine World.rowIs.set ?_ 2 _
    repeat (first | (with_reducible apply World.rowIs.alloc) | (with_reducible apply World.rowIs.drew) | (with_reducible refine World.rowIs.setOther ?_ ?side _; case side => (simp; omega)))
    with_reducible refine World.rowIs.set ?_ 3 _
    repeat (first | (with_reducible apply World.rowIs.alloc) | (with_reducible apply World.rowIs.drew) | (with_reducible refine World.rowIs.setOther ?_ ?side _; case side => (simp; omega)))
    with_reducible exact R1.out
  case mem =>
    repeat (first | (with_reducible apply IsMem.alloc) | (with_reducible apply IsMem.drew) | ((with_reducible refine IsMem.setOther ?_ ?_ ?_ _); rotate_left; (simp; omega); (simp; omega)))
    with_reducible exact M1.out
  case tch =>
    repeat (first | (with_reducible apply Touch.alloc) | (with_reducible apply Touch.drew) | (with_reducible refine Touch.setCell ?_ _ ?side _; case side => (first | (simp; done) | (simp; omega))))
    with_reducible exact T1.out
  case res => simp [results, Try.results123, go_sem, Stp.val, *]

set_option maxHeartbeats 4000000 in
theorem t_none {w : World} {b bm bw n : Nat} {f f' : Nat → Int} {x : Stp} {hand room st fst en val : Int} {t : Ans} (h : w.rowIs b 91 8 (mvC hand room st fst en val t)) (hm : IsMem w bm bw n f) (h1 : b ≠ bm) (h2 : b ≠ bw) {ah : Int} (hah : ahd x.had fst = ah) (a1 : ah ≤ 0) 
    (hx : stepOf n f ⟨hand, 1, 1, 0, 0, true⟩ = x) (hf' : wordsOf n f ⟨hand, 1, 1, 0, 0, true⟩ = f') :
    Calls Try.prog 124 #[.pointer (some ⟨b, 0, none⟩), .pointer (some ⟨bm, 0, none⟩)] w fun e w' => e = .returned (.tuple #[x.val, .int .i64 1]) ∧
      w'.rowIs b 91 8 (mvC hand room st fst x.had val t) ∧ IsMem w' bm bw n f' ∧ Touch w w' (fun k => k = b ∨ k = bw) := by
  obtain ⟨⟨c0, fz0⟩, ⟨c1, fz1⟩, ⟨c2, fz2⟩, ⟨c3, fz3⟩, ⟨c4, fz4⟩, ⟨c5, fz5⟩, ⟨c6, fz6⟩, c7, fz7⟩ := mv_facts h
  have hl := h.lt
  have lw := hm.row.lt
  have lm := hm.head.lt
  have hn3 : w.heap.size ≠ b := by omega
  have hn4 : w.heap.size ≠ bw := by omega
  have hn5 : w.heap.size ≠ bm := by omega
  obtain ⟨W1, hW1⟩ : ∃ W1, (w.alloc (.cells #[.int .i64 0, .int .i64 0, .int .i64 0, .int .u64 0, .int .u64 0, .bool false] 55)) = W1 := ⟨_, rfl⟩
  have R := hide (show W1.rowIs b 91 8 (mvC hand room st fst en val t) from by
    rw [← hW1]
    skip
    repeat (first | (with_reducible refine World.rowIs.set ?_ _ _) | (with_reducible apply World.rowIs.alloc))
    exact h)
  have M := hide (show IsMem W1 bm bw n f from by
    rw [← hW1]
    repeat (first | (with_reducible apply IsMem.alloc) | ((with_reducible refine IsMem.setOther ?_ ?_ ?_ _); rotate_left; (simp; omega); (simp; omega)))
    exact hm)
  have RZ := hide (show W1.rowIs w.heap.size 55 6 zcell from by
    rw [← hW1]
    repeat (with_reducible refine World.rowIs.setOther ?_ ?side _; case side => (simp; omega))
    exact row0 w)
  have T0 := hide (show Touch w W1 (fun k => k = b ∨ k = bw) from by
    rw [← hW1]
    repeat (first | (with_reducible apply Touch.alloc) | (with_reducible refine Touch.setCell ?_ _ ?side _; case side => simp))
    exact Touch.refl w _)
  have sz : W1.heap.size = w.heap.size + 1 := by rw [← hW1]; simp
  have HX := hide hx
  have HF := hide hf'
  have HW : Hid (0 ≤ (⟨hand, 1, 1, 0, 0, true⟩ : Stp).put ∧ (⟨hand, 1, 1, 0, 0, true⟩ : Stp).put ≤ 18446744073709551615) := ⟨by show (0 : Int) ≤ 0; omega, by show (0 : Int) ≤ 18446744073709551615; omega⟩
  have HAH := hide hah
  clear hm h hx hf' hah
  go_enter Try.func124, Try.ntmps124
  go_wp2_with fail
  clear hW1 c0 fz0 c1 fz1 c2 fz2 c3 fz3 c4 fz4 c5 fz5 c6 fz6 c7 fz7
  refine (load_any (R.out.cell (i := 0) (by omega)) (by omega) M.out HW.out HX.out HF.out).mono ?_
  rintro e w1 ⟨rfl, hm1, hg1⟩
  simp only [Stp.val]
  have lw1 := hg1.size
  have R1 : w1.rowIs b 91 8 (mvC hand room st fst en val t) := R.out.of_block (hg1.block b (by omega) (by simpa using h2))
  have RR : w1.rowIs w.heap.size 55 6 zcell := RZ.out.of_block (hg1.block w.heap.size (by omega) (by simpa using hn4))
  have T1 := T0.out.trans' (Touch.of_grown hg1) (fun k _ e => .inr (by simpa using e))
  have l1 : b < w1.heap.size := by omega
  have l2 : w.heap.size < w1.heap.size := by omega
  have l3 : bw < w1.heap.size := by omega
  have l4 : bm < w1.heap.size := by omega
  have SQ : (w1.alloc (.cells #[.int .i64 x.hand, .int .i64 x.act, .int .i64 x.at_, .int .u64 x.had, .int .u64 x.put, .bool x.ok] 55)).rowIs w1.heap.size 55 6 (fun i => (#[.int .i64 x.hand, .int .i64 x.act, .int .i64 x.at_, .int .u64 x.had, .int .u64 x.put, .bool x.ok] : Array Value).getD i undef) := rowIs_cells _ 55 _ 6 rfl (fun i hi => by
    match i, hi with
    | 0, _ | 1, _ | 2, _ | 3, _ | 4, _ | 5, _ => rfl)
  obtain ⟨V, hV⟩ : ∃ V, ((w1.alloc (.cells #[.int .i64 x.hand, .int .i64 x.act, .int .i64 x.at_, .int .u64 x.had, .int .u64 x.put, .bool x.ok] 55)).setCell ⟨b, 4, none⟩ (.int .u64 x.had)) = V := ⟨_, rfl⟩
  have RV := hide (show V.rowIs b 91 8 (mvC hand room st fst x.had val t) from by
    rw [← hV]
    refine World.rowIs.congr ?_ (fun i hi => mv_en0 hand room st fst en val t x.had i hi)
    skip
    refine World.rowIs.set ?_ 4 _
    exact R1.alloc _)
  have RRV := hide (show V.rowIs w.heap.size 55 6 zcell from by
    rw [← hV]
    skip
    repeat (with_reducible refine World.rowIs.setOther ?_ ?side _; case side => (simp; omega))
    exact RR.alloc _)
  have MV := hide (show IsMem V bm bw n f' from by
    rw [← hV]
    skip
    repeat ((with_reducible refine IsMem.setOther ?_ ?_ ?_ _); rotate_left; (simp; omega); (simp; omega))
    exact hm1.alloc _)
  have TV := hide (show Touch w V (fun k => k = b ∨ k = bw) from by
    rw [← hV]
    skip
    repeat (with_reducible refine Touch.setCell ?_ _ ?side _; case side => simp)
    exact T1.alloc _)
  have SV := hide (show V.rowIs w1.heap.size 55 6 (fun i => (#[.int .i64 x.hand, .int .i64 x.act, .int .i64 x.at_, .int .u64 x.had, .int .u64 x.put, .bool x.ok] : Array Value).getD i undef) from by
    rw [← hV]
    repeat (with_reducible refine World.rowIs.setOther ?_ ?side _; case side => (simp; omega))
    exact SQ)
  have szv : V.heap.size = w1.heap.size + 1 := by rw [← hV]; simp
  have k1 : b < V.heap.size := by omega
  have k2 : w.heap.size < V.heap.size := by omega
  have k3 : w1.heap.size < V.heap.size := by omega
  have e0 : w1.cell? ⟨b, 0, none⟩ = some (.int .i64 hand) := R1.cell (i := 0) (by omega)
  have e4' : w1.cell? ⟨b, 4, none⟩ = some (.int .u64 en) := R1.cell (i := 4) (by omega)
  have ef4' := R1.frozen 4
  obtain ⟨⟨d0, df0⟩, ⟨d1, df1⟩, ⟨d2, df2⟩, ⟨d3, df3⟩, ⟨d4, df4⟩, ⟨d5, df5⟩, ⟨d6, df6⟩, d7, df7⟩ := mv_facts RV.out
  obtain ⟨⟨r0, rf0⟩, ⟨r1, rf1⟩, ⟨r2, rf2⟩, ⟨r3, rf3⟩, ⟨r4, rf4⟩, r5, rf5⟩ := res_facts RRV.out
  have s0 : V.cell? ⟨w1.heap.size, 0, none⟩ = some (.int .i64 x.hand) := SV.out.cell (i := 0) (by omega)
  have s1 : V.cell? ⟨w1.heap.size, 1, none⟩ = some (.int .i64 x.act) := SV.out.cell (i := 1) (by omega)
  have s2 : V.cell? ⟨w1.heap.size, 2, none⟩ = some (.int .i64 x.at_) := SV.out.cell (i := 2) (by omega)
  have s3 : V.cell? ⟨w1.heap.size, 3, none⟩ = some (.int .u64 x.had) := SV.out.cell (i := 3) (by omega)
  have s4 : V.cell? ⟨w1.heap.size, 4, none⟩ = some (.int .u64 x.put) := SV.out.cell (i := 4) (by omega)
  have s5 : V.cell? ⟨w1.heap.size, 5, none⟩ = some (.bool x.ok) := SV.out.cell (i := 5) (by omega)
  clear hm1 hg1 R1 RR T1 SQ
  go_wp2_with fail
  refine (there_any RV.out.lt (RV.out.cell (i := 3) (by omega)) (RV.out.cell (i := 4) (by omega))).mono ?_
  rintro e w2 ⟨rfl, m, hw2⟩
  simp only [HAH.out]
  have Rn := hide (show w2.rowIs b 91 8 (mvC hand room st fst x.had val t) from by rw [hw2]; exact RV.out.of_block rfl)
  have RRn := hide (show w2.rowIs w.heap.size 55 6 zcell from by rw [hw2]; exact RRV.out.of_block rfl)
  have Sn := hide (show w2.rowIs w1.heap.size 55 6 (fun i => (#[.int .i64 x.hand, .int .i64 x.act, .int .i64 x.at_, .int .u64 x.had, .int .u64 x.put, .bool x.ok] : Array Value).getD i undef) from by rw [hw2]; exact SV.out.of_block rfl)
  have Mn := hide (show IsMem w2 bm bw n f' from by rw [hw2]; exact ⟨MV.out.head.of_block rfl, MV.out.row.of_block rfl, MV.out.most, MV.out.word⟩)
  have Tn := hide (show Touch w w2 (fun k => k = b ∨ k = bw) from by rw [hw2]; exact TV.out.trans' (S' := fun _ => False) ⟨rfl, rfl, rfl, Nat.le_refl _, fun _ _ _ => rfl⟩ (fun _ _ h => h.elim))
  have szn : w2.heap.size = w1.heap.size + 1 := by rw [hw2]; exact szv
  clear hV hw2 RV RRV SV MV TV szv k1 k2 k3
  have k1 : b < w2.heap.size := by omega
  have k2 : w.heap.size < w2.heap.size := by omega
  have k3 : w1.heap.size < w2.heap.size := by omega
  have p2 : w2.cell? ⟨b, 2, none⟩ = some (.int .i64 st) := Rn.out.cell (i := 2) (by omega)
  have pf2 := Rn.out.frozen 2
  obtain ⟨⟨o0, of0⟩, ⟨o1, of1⟩, ⟨o2, of2⟩, ⟨o3, of3⟩, ⟨o4, of4⟩, o5, of5⟩ := res_facts RRn.out
  have q0 : w2.cell? ⟨w1.heap.size, 0, none⟩ = some (.int .i64 x.hand) := Sn.out.cell (i := 0) (by omega)
  have q1 : w2.cell? ⟨w1.heap.size, 1, none⟩ = some (.int .i64 x.act) := Sn.out.cell (i := 1) (by omega)
  have q2 : w2.cell? ⟨w1.heap.size, 2, none⟩ = some (.int .i64 x.at_) := Sn.out.cell (i := 2) (by omega)
  have q3 : w2.cell? ⟨w1.heap.size, 3, none⟩ = some (.int .u64 x.had) := Sn.out.cell (i := 3) (by omega)
  have q4 : w2.cell? ⟨w1.heap.size, 4, none⟩ = some (.int .u64 x.put) := Sn.out.cell (i := 4) (by omega)
  have q5 : w2.cell? ⟨w1.heap.size, 5, none⟩ = some (.bool x.ok) := Sn.out.cell (i := 5) (by omega)
  go_wp2_with fail
  go_light
  refine bodyPost_ret (v := .tuple #[x.val, .int .i64 1]) ?res rfl ⟨rfl, ?row, ?mem, ?tch⟩
  case row =>
    repeat (first | (with_reducible apply World.rowIs.alloc) | (with_reducible apply World.rowIs.drew) | (with_reducible refine World.rowIs.setOther ?_ ?side _; case side => (simp; omega)))
    with_reducible exact Rn.out
  case mem =>
    repeat (first | (with_reducible apply IsMem.alloc) | (with_reducible apply IsMem.drew) | ((with_reducible refine IsMem.setOther ?_ ?_ ?_ _); rotate_left; (simp; omega); (simp; omega)))
    with_reducible exact Mn.out
  case tch =>
    repeat (first | (with_reducible apply Touch.alloc) | (with_reducible apply Touch.drew) | (with_reducible refine Touch.setCell ?_ _ ?side _; case side => (first | (simp; done) | (simp; omega))))
    with_reducible exact Tn.out
  case res => simp [results, Try.results124, go_sem, Stp.val, *]

set_option maxHeartbeats 4000000 in
theorem t_some {w : World} {b bm bw n : Nat} {f f' : Nat → Int} {x : Stp} {hand room st fst en val : Int} {t : Ans} (h : w.rowIs b 91 8 (mvC hand room st fst en val t)) (hm : IsMem w bm bw n f) (h1 : b ≠ bm) (h2 : b ≠ bw) {ah : Int} (hah : ahd x.had fst = ah) (a1 : ¬ ah ≤ 0) 
    (hx : stepOf n f ⟨hand, 1, 1, 0, 0, true⟩ = x) (hf' : wordsOf n f ⟨hand, 1, 1, 0, 0, true⟩ = f') :
    Calls Try.prog 124 #[.pointer (some ⟨b, 0, none⟩), .pointer (some ⟨bm, 0, none⟩)] w fun e w' => e = .returned (.tuple #[x.val, .int .i64 0]) ∧
      w'.rowIs b 91 8 (mvC hand room 3 fst x.had val t) ∧ IsMem w' bm bw n f' ∧ Touch w w' (fun k => k = b ∨ k = bw) := by
  obtain ⟨⟨c0, fz0⟩, ⟨c1, fz1⟩, ⟨c2, fz2⟩, ⟨c3, fz3⟩, ⟨c4, fz4⟩, ⟨c5, fz5⟩, ⟨c6, fz6⟩, c7, fz7⟩ := mv_facts h
  have hl := h.lt
  have lw := hm.row.lt
  have lm := hm.head.lt
  have hn3 : w.heap.size ≠ b := by omega
  have hn4 : w.heap.size ≠ bw := by omega
  have hn5 : w.heap.size ≠ bm := by omega
  obtain ⟨W1, hW1⟩ : ∃ W1, (w.alloc (.cells #[.int .i64 0, .int .i64 0, .int .i64 0, .int .u64 0, .int .u64 0, .bool false] 55)) = W1 := ⟨_, rfl⟩
  have R := hide (show W1.rowIs b 91 8 (mvC hand room st fst en val t) from by
    rw [← hW1]
    skip
    repeat (first | (with_reducible refine World.rowIs.set ?_ _ _) | (with_reducible apply World.rowIs.alloc))
    exact h)
  have M := hide (show IsMem W1 bm bw n f from by
    rw [← hW1]
    repeat (first | (with_reducible apply IsMem.alloc) | ((with_reducible refine IsMem.setOther ?_ ?_ ?_ _); rotate_left; (simp; omega); (simp; omega)))
    exact hm)
  have RZ := hide (show W1.rowIs w.heap.size 55 6 zcell from by
    rw [← hW1]
    repeat (with_reducible refine World.rowIs.setOther ?_ ?side _; case side => (simp; omega))
    exact row0 w)
  have T0 := hide (show Touch w W1 (fun k => k = b ∨ k = bw) from by
    rw [← hW1]
    repeat (first | (with_reducible apply Touch.alloc) | (with_reducible refine Touch.setCell ?_ _ ?side _; case side => simp))
    exact Touch.refl w _)
  have sz : W1.heap.size = w.heap.size + 1 := by rw [← hW1]; simp
  have HX := hide hx
  have HF := hide hf'
  have HW : Hid (0 ≤ (⟨hand, 1, 1, 0, 0, true⟩ : Stp).put ∧ (⟨hand, 1, 1, 0, 0, true⟩ : Stp).put ≤ 18446744073709551615) := ⟨by show (0 : Int) ≤ 0; omega, by show (0 : Int) ≤ 18446744073709551615; omega⟩
  have HAH := hide hah
  clear hm h hx hf' hah
  go_enter Try.func124, Try.ntmps124
  go_wp2_with fail
  clear hW1 c0 fz0 c1 fz1 c2 fz2 c3 fz3 c4 fz4 c5 fz5 c6 fz6 c7 fz7
  refine (load_any (R.out.cell (i := 0) (by omega)) (by omega) M.out HW.out HX.out HF.out).mono ?_
  rintro e w1 ⟨rfl, hm1, hg1⟩
  simp only [Stp.val]
  have lw1 := hg1.size
  have R1 : w1.rowIs b 91 8 (mvC hand room st fst en val t) := R.out.of_block (hg1.block b (by omega) (by simpa using h2))
  have RR : w1.rowIs w.heap.size 55 6 zcell := RZ.out.of_block (hg1.block w.heap.size (by omega) (by simpa using hn4))
  have T1 := T0.out.trans' (Touch.of_grown hg1) (fun k _ e => .inr (by simpa using e))
  have l1 : b < w1.heap.size := by omega
  have l2 : w.heap.size < w1.heap.size := by omega
  have l3 : bw < w1.heap.size := by omega
  have l4 : bm < w1.heap.size := by omega
  have SQ : (w1.alloc (.cells #[.int .i64 x.hand, .int .i64 x.act, .int .i64 x.at_, .int .u64 x.had, .int .u64 x.put, .bool x.ok] 55)).rowIs w1.heap.size 55 6 (fun i => (#[.int .i64 x.hand, .int .i64 x.act, .int .i64 x.at_, .int .u64 x.had, .int .u64 x.put, .bool x.ok] : Array Value).getD i undef) := rowIs_cells _ 55 _ 6 rfl (fun i hi => by
    match i, hi with
    | 0, _ | 1, _ | 2, _ | 3, _ | 4, _ | 5, _ => rfl)
  obtain ⟨V, hV⟩ : ∃ V, ((w1.alloc (.cells #[.int .i64 x.hand, .int .i64 x.act, .int .i64 x.at_, .int .u64 x.had, .int .u64 x.put, .bool x.ok] 55)).setCell ⟨b, 4, none⟩ (.int .u64 x.had)) = V := ⟨_, rfl⟩
  have RV := hide (show V.rowIs b 91 8 (mvC hand room st fst x.had val t) from by
    rw [← hV]
    refine World.rowIs.congr ?_ (fun i hi => mv_en0 hand room st fst en val t x.had i hi)
    skip
    refine World.rowIs.set ?_ 4 _
    exact R1.alloc _)
  have RRV := hide (show V.rowIs w.heap.size 55 6 zcell from by
    rw [← hV]
    skip
    repeat (with_reducible refine World.rowIs.setOther ?_ ?side _; case side => (simp; omega))
    exact RR.alloc _)
  have MV := hide (show IsMem V bm bw n f' from by
    rw [← hV]
    skip
    repeat ((with_reducible refine IsMem.setOther ?_ ?_ ?_ _); rotate_left; (simp; omega); (simp; omega))
    exact hm1.alloc _)
  have TV := hide (show Touch w V (fun k => k = b ∨ k = bw) from by
    rw [← hV]
    skip
    repeat (with_reducible refine Touch.setCell ?_ _ ?side _; case side => simp)
    exact T1.alloc _)
  have SV := hide (show V.rowIs w1.heap.size 55 6 (fun i => (#[.int .i64 x.hand, .int .i64 x.act, .int .i64 x.at_, .int .u64 x.had, .int .u64 x.put, .bool x.ok] : Array Value).getD i undef) from by
    rw [← hV]
    repeat (with_reducible refine World.rowIs.setOther ?_ ?side _; case side => (simp; omega))
    exact SQ)
  have szv : V.heap.size = w1.heap.size + 1 := by rw [← hV]; simp
  have k1 : b < V.heap.size := by omega
  have k2 : w.heap.size < V.heap.size := by omega
  have k3 : w1.heap.size < V.heap.size := by omega
  have e0 : w1.cell? ⟨b, 0, none⟩ = some (.int .i64 hand) := R1.cell (i := 0) (by omega)
  have e4' : w1.cell? ⟨b, 4, none⟩ = some (.int .u64 en) := R1.cell (i := 4) (by omega)
  have ef4' := R1.frozen 4
  obtain ⟨⟨d0, df0⟩, ⟨d1, df1⟩, ⟨d2, df2⟩, ⟨d3, df3⟩, ⟨d4, df4⟩, ⟨d5, df5⟩, ⟨d6, df6⟩, d7, df7⟩ := mv_facts RV.out
  obtain ⟨⟨r0, rf0⟩, ⟨r1, rf1⟩, ⟨r2, rf2⟩, ⟨r3, rf3⟩, ⟨r4, rf4⟩, r5, rf5⟩ := res_facts RRV.out
  have s0 : V.cell? ⟨w1.heap.size, 0, none⟩ = some (.int .i64 x.hand) := SV.out.cell (i := 0) (by omega)
  have s1 : V.cell? ⟨w1.heap.size, 1, none⟩ = some (.int .i64 x.act) := SV.out.cell (i := 1) (by omega)
  have s2 : V.cell? ⟨w1.heap.size, 2, none⟩ = some (.int .i64 x.at_) := SV.out.cell (i := 2) (by omega)
  have s3 : V.cell? ⟨w1.heap.size, 3, none⟩ = some (.int .u64 x.had) := SV.out.cell (i := 3) (by omega)
  have s4 : V.cell? ⟨w1.heap.size, 4, none⟩ = some (.int .u64 x.put) := SV.out.cell (i := 4) (by omega)
  have s5 : V.cell? ⟨w1.heap.size, 5, none⟩ = some (.bool x.ok) := SV.out.cell (i := 5) (by omega)
  clear hm1 hg1 R1 RR T1 SQ
  go_wp2_with fail
  refine (there_any RV.out.lt (RV.out.cell (i := 3) (by omega)) (RV.out.cell (i := 4) (by omega))).mono ?_
  rintro e w2 ⟨rfl, m, hw2⟩
  simp only [HAH.out]
  have Rn := hide (show w2.rowIs b 91 8 (mvC hand room st fst x.had val t) from by rw [hw2]; exact RV.out.of_block rfl)
  have RRn := hide (show w2.rowIs w.heap.size 55 6 zcell from by rw [hw2]; exact RRV.out.of_block rfl)
  have Sn := hide (show w2.rowIs w1.heap.size 55 6 (fun i => (#[.int .i64 x.hand, .int .i64 x.act, .int .i64 x.at_, .int .u64 x.had, .int .u64 x.put, .bool x.ok] : Array Value).getD i undef) from by rw [hw2]; exact SV.out.of_block rfl)
  have Mn := hide (show IsMem w2 bm bw n f' from by rw [hw2]; exact ⟨MV.out.head.of_block rfl, MV.out.row.of_block rfl, MV.out.most, MV.out.word⟩)
  have Tn := hide (show Touch w w2 (fun k => k = b ∨ k = bw) from by rw [hw2]; exact TV.out.trans' (S' := fun _ => False) ⟨rfl, rfl, rfl, Nat.le_refl _, fun _ _ _ => rfl⟩ (fun _ _ h => h.elim))
  have szn : w2.heap.size = w1.heap.size + 1 := by rw [hw2]; exact szv
  clear hV hw2 RV RRV SV MV TV szv k1 k2 k3
  have k1 : b < w2.heap.size := by omega
  have k2 : w.heap.size < w2.heap.size := by omega
  have k3 : w1.heap.size < w2.heap.size := by omega
  have p2 : w2.cell? ⟨b, 2, none⟩ = some (.int .i64 st) := Rn.out.cell (i := 2) (by omega)
  have pf2 := Rn.out.frozen 2
  obtain ⟨⟨o0, of0⟩, ⟨o1, of1⟩, ⟨o2, of2⟩, ⟨o3, of3⟩, ⟨o4, of4⟩, o5, of5⟩ := res_facts RRn.out
  have q0 : w2.cell? ⟨w1.heap.size, 0, none⟩ = some (.int .i64 x.hand) := Sn.out.cell (i := 0) (by omega)
  have q1 : w2.cell? ⟨w1.heap.size, 1, none⟩ = some (.int .i64 x.act) := Sn.out.cell (i := 1) (by omega)
  have q2 : w2.cell? ⟨w1.heap.size, 2, none⟩ = some (.int .i64 x.at_) := Sn.out.cell (i := 2) (by omega)
  have q3 : w2.cell? ⟨w1.heap.size, 3, none⟩ = some (.int .u64 x.had) := Sn.out.cell (i := 3) (by omega)
  have q4 : w2.cell? ⟨w1.heap.size, 4, none⟩ = some (.int .u64 x.put) := Sn.out.cell (i := 4) (by omega)
  have q5 : w2.cell? ⟨w1.heap.size, 5, none⟩ = some (.bool x.ok) := Sn.out.cell (i := 5) (by omega)
  go_wp2_with fail
  go_light
  refine bodyPost_ret (v := .tuple #[x.val, .int .i64 0]) ?res rfl ⟨rfl, ?row, ?mem, ?tch⟩
  case row =>
    refine World.rowIs.congr ?_ (fun i hi => mv_st hand room st fst x.had val t 3 i hi)
    repeat (first | (with_reducible apply World.rowIs.alloc) | (with_reducible apply World.rowIs.drew) | (with_reducible refine World.rowIs.setOther ?_ ?side _; case side => (simp; omega)))
    with_reducible refine World.rowIs.set ?_ 2 _
    repeat (first | (with_reducible apply World.rowIs.alloc) | (with_reducible apply World.rowIs.drew) | (with_reducible refine World.rowIs.setOther ?_ ?side _; case side => (simp; omega)))
    with_reducible exact Rn.out
  case mem =>
    repeat (first | (with_reducible apply IsMem.alloc) | (with_reducible apply IsMem.drew) | ((with_reducible refine IsMem.setOther ?_ ?_ ?_ _); rotate_left; (simp; omega); (simp; omega)))
    with_reducible exact Mn.out
  case tch =>
    repeat (first | (with_reducible apply Touch.alloc) | (with_reducible apply Touch.drew) | (with_reducible refine Touch.setCell ?_ _ ?side _; case side => (first | (simp; done) | (simp; omega))))
    with_reducible exact Tn.out
  case res => simp [results, Try.results124, go_sem, Stp.val, *]

set_option maxHeartbeats 4000000 in
theorem t_touch {w : World} {b bm bw n : Nat} {f f' : Nat → Int} {x : Stp} {hand room st fst en val : Int} {t : Ans} (h : w.rowIs b 91 8 (mvC hand room st fst en val t)) (hm : IsMem w bm bw n f) (h1 : b ≠ bm) (h2 : b ≠ bw) (hr : 1 ≤ room ∧ room ≤ 64) (hnum : 0 ≤ fst ∧ fst ≤ 18446744073709551615) {pl : Int} (hpl : plc room fst = pl) 
    (hx : stepOf n f ⟨hand, 1, pl, 0, 0, true⟩ = x) (hf' : wordsOf n f ⟨hand, 1, pl, 0, 0, true⟩ = f') :
    Calls Try.prog 125 #[.pointer (some ⟨b, 0, none⟩), .pointer (some ⟨bm, 0, none⟩)] w fun e w' => e = .returned (.tuple #[x.val, .int .i64 0]) ∧
      w'.rowIs b 91 8 (mvC hand room 4 fst en x.had t) ∧ IsMem w' bm bw n f' ∧ Touch w w' (fun k => k = b ∨ k = bw) := by
  obtain ⟨⟨c0, fz0⟩, ⟨c1, fz1⟩, ⟨c2, fz2⟩, ⟨c3, fz3⟩, ⟨c4, fz4⟩, ⟨c5, fz5⟩, ⟨c6, fz6⟩, c7, fz7⟩ := mv_facts h
  have hl := h.lt
  have lw := hm.row.lt
  have lm := hm.head.lt
  have hn3 : w.heap.size ≠ b := by omega
  have hn4 : w.heap.size ≠ bw := by omega
  have hn5 : w.heap.size ≠ bm := by omega
  obtain ⟨W1, hW1⟩ : ∃ W1, (w.alloc (.cells #[.int .i64 0, .int .i64 0, .int .i64 0, .int .u64 0, .int .u64 0, .bool false] 55)) = W1 := ⟨_, rfl⟩
  have R := hide (show W1.rowIs b 91 8 (mvC hand room st fst en val t) from by
    rw [← hW1]
    skip
    repeat (first | (with_reducible refine World.rowIs.set ?_ _ _) | (with_reducible apply World.rowIs.alloc))
    exact h)
  have M := hide (show IsMem W1 bm bw n f from by
    rw [← hW1]
    repeat (first | (with_reducible apply IsMem.alloc) | ((with_reducible refine IsMem.setOther ?_ ?_ ?_ _); rotate_left; (simp; omega); (simp; omega)))
    exact hm)
  have RZ := hide (show W1.rowIs w.heap.size 55 6 zcell from by
    rw [← hW1]
    repeat (with_reducible refine World.rowIs.setOther ?_ ?side _; case side => (simp; omega))
    exact row0 w)
  have T0 := hide (show Touch w W1 (fun k => k = b ∨ k = bw) from by
    rw [← hW1]
    repeat (first | (with_reducible apply Touch.alloc) | (with_reducible refine Touch.setCell ?_ _ ?side _; case side => simp))
    exact Touch.refl w _)
  have sz : W1.heap.size = w.heap.size + 1 := by rw [← hW1]; simp
  have HX := hide hx
  have HF := hide hf'
  have HW : Hid (0 ≤ (⟨hand, 1, pl, 0, 0, true⟩ : Stp).put ∧ (⟨hand, 1, pl, 0, 0, true⟩ : Stp).put ≤ 18446744073709551615) := ⟨by show (0 : Int) ≤ 0; omega, by show (0 : Int) ≤ 18446744073709551615; omega⟩
  have HRM := hide hr
  have HNM := hide hnum
  have HPL := hide hpl
  clear hm h hx hf' hr hnum hpl
  go_enter Try.func125, Try.ntmps125
  go_wp2_with fail
  clear hW1 c0 fz0 c1 fz1 c2 fz2 c3 fz3 c4 fz4 c5 fz5 c6 fz6 c7 fz7
  refine RG.region (ks := [(0, 7), (1, 8), (2, 9), (3, 10), (4, 11), (5, 12), (6, 13), (7, 14), (8, 15), (9, 16), (10, 17), (11, 18), (12, 19), (13, 20)]) (vals := fun i => match i with
      | 0 => .pointer (some ⟨b, 0, none⟩)
      | 1 => .pointer (some ⟨b, 0, none⟩)
      | 2 => .pointer (some ⟨b, 0, none⟩)
      | 3 => .pointer (some ⟨bm, 0, none⟩)
      | 4 => .pointer (some ⟨b, 0, none⟩)
      | 5 => .pointer (some ⟨b, 0, none⟩)
      | 6 => .pointer (some ⟨b, 0, none⟩)
      | 7 => .pointer (some ⟨b, 0, none⟩)
      | 8 => .pointer (some ⟨b, 0, none⟩)
      | 9 => .pointer (some ⟨b, 0, none⟩)
      | 10 => .pointer (some ⟨b, 3, none⟩)
      | 11 => .int .u64 fst
      | 12 => .int .i64 pl
      | 13 => .agg #[.int .i64 x.hand, .int .i64 x.act, .int .i64 x.at_, .int .u64 x.had, .int .u64 x.put, .bool x.ok]
      | _ => undef) (x := 6) (WI := fun L v w' => RG.SW b 91 8 (mvC hand room st fst en val t) bm bw n f f' x w.heap.size W1 (L 13) (L 14) (L 15) v w') (by kernel_rfl) ?gg ?bk rfl ?dd ?xx (RG.SW.start R.out M.out RZ.out) ?does ?fin
  case gg =>
    intro i o ho
    have hi : i < 16 := by have := (Array.getElem?_eq_some_iff.1 ho).1; simpa using this
    match i, hi with
    | 0, _ | 1, _ | 2, _ | 3, _ | 4, _ | 5, _ | 6, _ | 7, _ | 8, _ | 9, _ | 10, _ | 11, _ | 12, _ | 13, _ | 14, _ | 15, _ => injection ho with ho; subst ho; rfl
  case bk =>
    intro i o ho
    have hi : i < 16 := by have := (Array.getElem?_eq_some_iff.1 ho).1; simpa using this
    match i, hi with
    | 0, _ | 1, _ | 2, _ | 3, _ | 4, _ | 5, _ | 6, _ | 7, _ | 8, _ | 9, _ | 10, _ | 11, _ | 12, _ | 13, _ | 14, _ | 15, _ => injection ho with ho; subst ho; simp [Region.binds]
  case dd =>
    intro k hk
    have hk' : k < 32 := by
      simp [RetN.D] at hk
      omega
    simpa using hk'
  case xx => simp
  case does =>
    intro i o ho
    have hi : i < 16 := by have := (Array.getElem?_eq_some_iff.1 ho).1; simpa using this
    match i, hi with
    | 0, _ => injection ho with ho; subst ho; exact RG.Does.read rfl (fun L v w' h => RG.SW.skip (by decide) (by decide) (by decide) h) (fun L a w' hI hd => ex_move rfl (hI.fix 0 (Reg.notD rfl) (by decide)))
    | 1, _ => injection ho with ho; subst ho; exact RG.Does.read rfl (fun L v w' h => RG.SW.skip (by decide) (by decide) (by decide) h) (fun L a w' hI hd => ex_nil rfl (hI.pure 0 _ _ rfl (hd ⟨0, .data⟩ (by simp) rfl)))
    | 2, _ => injection ho with ho; subst ho; exact RG.Does.read rfl (fun L v w' h => RG.SW.skip (by decide) (by decide) (by decide) h) (fun L a w' hI hd => ex_field rfl (hI.pure 1 _ _ rfl (hd ⟨1, .data⟩ (by simp) rfl)) (fieldTt w' _))
    | 3, _ => injection ho with ho; subst ho; exact RG.Does.read rfl (fun L v w' h => RG.SW.skip (by decide) (by decide) (by decide) h) (fun L a w' hI hd => ex_move rfl (hI.fix 1 (Reg.notD rfl) (by decide)))
    | 4, _ => injection ho with ho; subst ho; exact RG.Does.read rfl (fun L v w' h => RG.SW.skip (by decide) (by decide) (by decide) h) (fun L a w' hI hd => ex_move rfl (hI.fix 0 (Reg.notD rfl) (by decide)))
    | 5, _ => injection ho with ho; subst ho; exact RG.Does.read rfl (fun L v w' h => RG.SW.skip (by decide) (by decide) (by decide) h) (fun L a w' hI hd => ex_nil rfl (hI.pure 4 _ _ rfl (hd ⟨4, .data⟩ (by simp) rfl)))
    | 6, _ => injection ho with ho; subst ho; exact RG.Does.read rfl (fun L v w' h => RG.SW.skip (by decide) (by decide) (by decide) h) (fun L a w' hI hd => ex_field rfl (hI.pure 5 _ _ rfl (hd ⟨5, .data⟩ (by simp) rfl)) (fieldTt w' _))
    | 7, _ => injection ho with ho; subst ho; exact RG.Does.read rfl (fun L v w' h => RG.SW.skip (by decide) (by decide) (by decide) h) (fun L a w' hI hd => ex_move rfl (hI.fix 0 (Reg.notD rfl) (by decide)))
    | 8, _ => injection ho with ho; subst ho; exact RG.Does.read rfl (fun L v w' h => RG.SW.skip (by decide) (by decide) (by decide) h) (fun L a w' hI hd => ex_nil rfl (hI.pure 7 _ _ rfl (hd ⟨7, .data⟩ (by simp) rfl)))
    | 9, _ => injection ho with ho; subst ho; exact RG.Does.read rfl (fun L v w' h => RG.SW.skip (by decide) (by decide) (by decide) h) (fun L a w' hI hd => ex_field rfl (hI.pure 8 _ _ rfl (hd ⟨8, .data⟩ (by simp) rfl)) (fieldTt w' _))
    | 10, _ => injection ho with ho; subst ho; exact RG.Does.read rfl (fun L v w' h => RG.SW.skip (by decide) (by decide) (by decide) h) (fun L a w' hI hd => ex_field rfl (hI.pure 9 _ _ rfl (hd ⟨9, .data⟩ (by simp) rfl)) (fieldM3 w' _))
    | 11, _ => injection ho with ho; subst ho; exact RG.Does.read rfl (fun L v w' h => RG.SW.skip (by decide) (by decide) (by decide) h) (fun L a w' hI hd => ex_load rfl (hI.pure 10 _ _ rfl (hd ⟨10, .data⟩ (by simp) rfl)) (aggU w') (hI.world.row.cell (i := 3) (by omega)))
    | 12, _ => injection ho with ho; subst ho; exact RG.Does.call rfl (fun L a w' hI hd => call2 rfl (hI.pure 6 _ _ rfl (hd ⟨6, .data⟩ (by simp) rfl)) (hI.pure 11 _ _ rfl (hd ⟨11, .data⟩ (by simp) rfl)) rfl (callPlace _ _)) (fun L v w' h hL => (place_any h.row.lt (h.row.cell (i := 1) (by omega)) HRM.out.1 HRM.out.2 HNM.out).mono (by rintro e w'' ⟨rfl, rfl⟩; exact ⟨congrArg (fun z => Ending.returned (.int .i64 z)) HPL.out, RG.SW.skip (by decide) (by decide) (by decide) h⟩))
    | 13, _ => injection ho with ho; subst ho; exact RG.Does.call rfl (fun L a w' hI hd => call3 rfl (hI.pure 2 _ _ rfl (hd ⟨2, .data⟩ (by simp) rfl)) (hI.pure 3 _ _ rfl (hd ⟨3, .data⟩ (by simp) rfl)) (hI.pure 12 _ _ rfl (hd ⟨12, .data⟩ (by simp) rfl)) rfl (callLoad _ _)) (SWcalls h2 hn4 (by decide) (by decide) ((fun w h hm => load_any (h.cell (i := 0) (by omega)) h.lt hm HW.out HX.out HF.out)))
    | 14, _ => injection ho with ho; subst ho; exact RG.Does.make (u := fun w' => .pointer (some ⟨w'.heap.size, 0, none⟩)) rfl rfl (fun ev w' => alloc46 rfl) (fun L v w' h hL => by have := RG.SW.make h hL; rw [← upd_same L 14 true] at this; simpa only [upd_other _ _ (show 13 ≠ 14 by decide), upd_other _ _ (show 15 ≠ 14 by decide)] using this)
    | 15, _ => injection ho with ho; subst ho; exact RG.Does.put (ls := x.cells) rfl rfl rfl size46 (by simp [Stp.cells, Value.oneCell']) (fun L a w' hI hL hd => ⟨(hI.pure 13 _ _ rfl (hd ⟨13, .data⟩ (by simp) rfl)), by obtain ⟨q, e1, e2, e3⟩ := RG.SW.put hI.world (hd ⟨13, .data⟩ (by simp) rfl) (hd ⟨14, .data⟩ (by simp) rfl) hL; exact ⟨q, 0, e1, e2, by rw [← upd_same L 15 true] at e3; simpa only [upd_other _ _ (show 13 ≠ 15 by decide), upd_other _ _ (show 14 ≠ 15 by decide)] using e3⟩⟩)
  case fin =>
    intro L a' w1 hI hall
    have hw := hI.world
    simp only [hall 13 (by decide), hall 14 (by decide), hall 15 (by decide), if_true] at hw
    obtain ⟨q, hq, hq1, hq2, _, hr⟩ := hw.own rfl
    replace hr := hr rfl
    have ea := act_all a' 32 (by rw [hI.sz]; rfl) hI.df
    simp only [List.range, List.range.loop, List.map] at ea
    rw [hI.fix 0 (Reg.notD rfl) (by decide), hI.fix 1 (Reg.notD rfl) (by decide), hI.fix 2 (Reg.notD rfl) (by decide), hI.fix 3 (Reg.notD rfl) (by decide), hI.fix 4 (Reg.notD rfl) (by decide), hI.fix 5 (Reg.notD rfl) (by decide), hI.fix 21 (Reg.notD rfl) (by decide), hI.fix 22 (Reg.notD rfl) (by decide), hI.fix 23 (Reg.notD rfl) (by decide), hI.fix 24 (Reg.notD rfl) (by decide), hI.fix 25 (Reg.notD rfl) (by decide), hI.fix 26 (Reg.notD rfl) (by decide), hI.fix 27 (Reg.notD rfl) (by decide), hI.fix 28 (Reg.notD rfl) (by decide), hI.fix 29 (Reg.notD rfl) (by decide), hI.fix 30 (Reg.notD rfl) (by decide), hI.fix 31 (Reg.notD rfl) (by decide), hq] at ea
    clear hI hall
    generalize a'.eval (.tmp 7) = u7 at ea
    generalize a'.eval (.tmp 8) = u8 at ea
    generalize a'.eval (.tmp 9) = u9 at ea
    generalize a'.eval (.tmp 10) = u10 at ea
    generalize a'.eval (.tmp 11) = u11 at ea
    generalize a'.eval (.tmp 12) = u12 at ea
    generalize a'.eval (.tmp 13) = u13 at ea
    generalize a'.eval (.tmp 14) = u14 at ea
    generalize a'.eval (.tmp 15) = u15 at ea
    generalize a'.eval (.tmp 16) = u16 at ea
    generalize a'.eval (.tmp 17) = u17 at ea
    generalize a'.eval (.tmp 18) = u18 at ea
    generalize a'.eval (.tmp 19) = u19 at ea
    generalize a'.eval (.tmp 20) = u20 at ea
    simp only [show ∀ (ts : Array Value) (ds) (i : Nat), (Act.mk ts ds).eval (.tmp i) = ts.getD i undef from fun _ _ _ => rfl] at ea
    simp at ea
    subst ea
    have M1 := hide (show IsMem w1 bm bw n f' from by simpa using hw.mem)
    have R1 := hide hw.row
    have RR := hide hw.res
    have T1 := hide (T0.out.trans' hw.tch (fun k _ h => .inr h))
    have RQ := hide hr
    have hqb : q ≠ b := by omega
    have hqr : q ≠ w.heap.size := by omega
    have hqr' : w.heap.size ≠ q := by omega
    have hqm : q ≠ bm ∧ q ≠ bw := by omega
    have lw1 := hw.tch.size
    have l1 : b < w1.heap.size := by omega
    have l2 : w.heap.size < w1.heap.size := by omega
    clear hw hr hq
    obtain ⟨⟨d0, df0⟩, ⟨d1, df1⟩, ⟨d2, df2⟩, ⟨d3, df3⟩, ⟨d4, df4⟩, ⟨d5, df5⟩, ⟨d6, df6⟩, d7, df7⟩ := mv_facts R1.out
    obtain ⟨⟨r0, rf0⟩, ⟨r1, rf1⟩, ⟨r2, rf2⟩, ⟨r3, rf3⟩, ⟨r4, rf4⟩, r5, rf5⟩ := res_facts RR.out
    have s0 : w1.cell? ⟨q, 0, none⟩ = some (.int .i64 x.hand) := by have := RQ.out 0 _ rfl; simpa using this
    have s1 : w1.cell? ⟨q, 1, none⟩ = some (.int .i64 x.act) := by have := RQ.out 1 _ rfl; simpa using this
    have s2 : w1.cell? ⟨q, 2, none⟩ = some (.int .i64 x.at_) := by have := RQ.out 2 _ rfl; simpa using this
    have s3 : w1.cell? ⟨q, 3, none⟩ = some (.int .u64 x.had) := by have := RQ.out 3 _ rfl; simpa using this
    have s4 : w1.cell? ⟨q, 4, none⟩ = some (.int .u64 x.put) := by have := RQ.out 4 _ rfl; simpa using this
    have s5 : w1.cell? ⟨q, 5, none⟩ = some (.bool x.ok) := by have := RQ.out 5 _ rfl; simpa using this
    go_wp2_with fail
    go_light
    refine bodyPost_ret (v := .tuple #[x.val, .int .i64 0]) ?res rfl ⟨rfl, ?row, ?mem, ?tch⟩
    case row =>
      refine World.rowIs.congr ?_ (fun i hi => mv_val hand room st fst en val t 4 x.had i hi)
      repeat (first | (with_reducible apply World.rowIs.alloc) | (with_reducible apply World.rowIs.drew) | (with_reducible refine World.rowIs.setOther ?_ ?side _; case side => (simp; omega)))
      with_reducible refine World.rowIs.set ?_ 2 _
      repeat (first | (with_reducible apply World.rowIs.alloc) | (with_reducible apply World.rowIs.drew) | (with_reducible refine World.rowIs.setOther ?_ ?side _; case side => (simp; omega)))
      with_reducible refine World.rowIs.set ?_ 5 _
      repeat (first | (with_reducible apply World.rowIs.alloc) | (with_reducible apply World.rowIs.drew) | (with_reducible refine World.rowIs.setOther ?_ ?side _; case side => (simp; omega)))
      with_reducible exact R1.out
    case mem =>
      repeat (first | (with_reducible apply IsMem.alloc) | (with_reducible apply IsMem.drew) | ((with_reducible refine IsMem.setOther ?_ ?_ ?_ _); rotate_left; (simp; omega); (simp; omega)))
      with_reducible exact M1.out
    case tch =>
      repeat (first | (with_reducible apply Touch.alloc) | (with_reducible apply Touch.drew) | (with_reducible refine Touch.setCell ?_ _ ?side _; case side => (first | (simp; done) | (simp; omega))))
      with_reducible exact T1.out
    case res => simp [results, Try.results125, go_sem, Stp.val, *]

set_option maxHeartbeats 4000000 in
theorem t_won {w : World} {b bm bw n : Nat} {f f' : Nat → Int} {x : Stp} {hand room st fst en val : Int} {t : Ans} (h : w.rowIs b 91 8 (mvC hand room st fst en val t)) (hm : IsMem w bm bw n f) (h1 : b ≠ bm) (h2 : b ≠ bw) (hok : x.ok = true) 
    (hx : stepOf n f ⟨hand, 5, 0, fst, u64 (fst + 1), true⟩ = x) (hf' : wordsOf n f ⟨hand, 5, 0, fst, u64 (fst + 1), true⟩ = f') :
    Calls Try.prog 126 #[.pointer (some ⟨b, 0, none⟩), .pointer (some ⟨bm, 0, none⟩)] w fun e w' => e = .returned (.tuple #[x.val, .int .i64 1]) ∧
      w'.rowIs b 91 8 (mvC hand room st fst en val ⟨true, val⟩) ∧ IsMem w' bm bw n f' ∧ Touch w w' (fun k => k = b ∨ k = bw) := by
  obtain ⟨⟨c0, fz0⟩, ⟨c1, fz1⟩, ⟨c2, fz2⟩, ⟨c3, fz3⟩, ⟨c4, fz4⟩, ⟨c5, fz5⟩, ⟨c6, fz6⟩, c7, fz7⟩ := mv_facts h
  have hl := h.lt
  have lw := hm.row.lt
  have lm := hm.head.lt
  have hn3 : w.heap.size ≠ b := by omega
  have hn4 : w.heap.size ≠ bw := by omega
  have hn5 : w.heap.size ≠ bm := by omega
  obtain ⟨W1, hW1⟩ : ∃ W1, (w.alloc (.cells #[.int .i64 0, .int .i64 0, .int .i64 0, .int .u64 0, .int .u64 0, .bool false] 55)) = W1 := ⟨_, rfl⟩
  have R := hide (show W1.rowIs b 91 8 (mvC hand room st fst en val t) from by
    rw [← hW1]
    skip
    repeat (first | (with_reducible refine World.rowIs.set ?_ _ _) | (with_reducible apply World.rowIs.alloc))
    exact h)
  have M := hide (show IsMem W1 bm bw n f from by
    rw [← hW1]
    repeat (first | (with_reducible apply IsMem.alloc) | ((with_reducible refine IsMem.setOther ?_ ?_ ?_ _); rotate_left; (simp; omega); (simp; omega)))
    exact hm)
  have RZ := hide (show W1.rowIs w.heap.size 55 6 zcell from by
    rw [← hW1]
    repeat (with_reducible refine World.rowIs.setOther ?_ ?side _; case side => (simp; omega))
    exact row0 w)
  have T0 := hide (show Touch w W1 (fun k => k = b ∨ k = bw) from by
    rw [← hW1]
    repeat (first | (with_reducible apply Touch.alloc) | (with_reducible refine Touch.setCell ?_ _ ?side _; case side => simp))
    exact Touch.refl w _)
  have sz : W1.heap.size = w.heap.size + 1 := by rw [← hW1]; simp
  have HX := hide hx
  have HF := hide hf'
  have HW : Hid (0 ≤ (⟨hand, 5, 0, fst, u64 (fst + 1), true⟩ : Stp).put ∧ (⟨hand, 5, 0, fst, u64 (fst + 1), true⟩ : Stp).put ≤ 18446744073709551615) := ⟨u64_lo _, u64_hi _⟩
  clear hm h hx hf' 
  go_enter Try.func126, Try.ntmps126
  go_wp2_with fail
  clear hW1 c0 fz0 c1 fz1 c2 fz2 c3 fz3 c4 fz4 c5 fz5 c6 fz6 c7 fz7
  refine (take_ok R.out M.out h1 h2 hok HX.out HF.out).mono ?_
  rintro e w1 ⟨rfl, row1, hm1, t1⟩
  simp only [Stp.val]
  have lw1 := t1.size
  have R1 := hide row1
  have RR := hide (show w1.rowIs w.heap.size 55 6 zcell from RZ.out.of_block (t1.block w.heap.size (by omega) (by simp; omega)))
  have M1 := hide hm1
  have T1 := hide (T0.out.trans t1)
  have l1 : b < w1.heap.size := by omega
  have l2 : w.heap.size < w1.heap.size := by omega
  have l3 : bw < w1.heap.size := by omega
  have l4 : bm < w1.heap.size := by omega
  clear hm1 row1 t1
  obtain ⟨⟨d0, df0⟩, ⟨d1, df1⟩, ⟨d2, df2⟩, ⟨d3, df3⟩, ⟨d4, df4⟩, ⟨d5, df5⟩, ⟨d6, df6⟩, d7, df7⟩ := mv_facts R1.out
  obtain ⟨⟨r0, rf0⟩, ⟨r1, rf1⟩, ⟨r2, rf2⟩, ⟨r3, rf3⟩, ⟨r4, rf4⟩, r5, rf5⟩ := res_facts RR.out
  go_wp2_with fail
  go_light
  refine bodyPost_ret (v := .tuple #[x.val, .int .i64 1]) ?res rfl ⟨rfl, ?row, ?mem, ?tch⟩
  case row =>
    repeat (first | (with_reducible apply World.rowIs.alloc) | (with_reducible apply World.rowIs.drew) | (with_reducible refine World.rowIs.setOther ?_ ?side _; case side => (simp; omega)))
    with_reducible exact R1.out
  case mem =>
    repeat (first | (with_reducible apply IsMem.alloc) | (with_reducible apply IsMem.drew) | ((with_reducible refine IsMem.setOther ?_ ?_ ?_ _); rotate_left; (simp; omega); (simp; omega)))
    with_reducible exact M1.out
  case tch =>
    repeat (first | (with_reducible apply Touch.alloc) | (with_reducible apply Touch.drew) | (with_reducible refine Touch.setCell ?_ _ ?side _; case side => (first | (simp; done) | (simp; omega))))
    with_reducible exact T1.out
  case res => simp [results, Try.results126, go_sem, Stp.val, *]

set_option maxHeartbeats 4000000 in
theorem t_lost {w : World} {b bm bw n : Nat} {f f' : Nat → Int} {x : Stp} {hand room st fst en val : Int} {t : Ans} (h : w.rowIs b 91 8 (mvC hand room st fst en val t)) (hm : IsMem w bm bw n f) (h1 : b ≠ bm) (h2 : b ≠ bw) (hok : x.ok = false) 
    (hx : stepOf n f ⟨hand, 5, 0, fst, u64 (fst + 1), true⟩ = x) (hf' : wordsOf n f ⟨hand, 5, 0, fst, u64 (fst + 1), true⟩ = f') :
    Calls Try.prog 126 #[.pointer (some ⟨b, 0, none⟩), .pointer (some ⟨bm, 0, none⟩)] w fun e w' => e = .returned (.tuple #[x.val, .int .i64 0]) ∧
      w'.rowIs b 91 8 (mvC hand room 0 fst en val t) ∧ IsMem w' bm bw n f' ∧ Touch w w' (fun k => k = b ∨ k = bw) := by
  obtain ⟨⟨c0, fz0⟩, ⟨c1, fz1⟩, ⟨c2, fz2⟩, ⟨c3, fz3⟩, ⟨c4, fz4⟩, ⟨c5, fz5⟩, ⟨c6, fz6⟩, c7, fz7⟩ := mv_facts h
  have hl := h.lt
  have lw := hm.row.lt
  have lm := hm.head.lt
  have hn3 : w.heap.size ≠ b := by omega
  have hn4 : w.heap.size ≠ bw := by omega
  have hn5 : w.heap.size ≠ bm := by omega
  obtain ⟨W1, hW1⟩ : ∃ W1, (w.alloc (.cells #[.int .i64 0, .int .i64 0, .int .i64 0, .int .u64 0, .int .u64 0, .bool false] 55)) = W1 := ⟨_, rfl⟩
  have R := hide (show W1.rowIs b 91 8 (mvC hand room st fst en val t) from by
    rw [← hW1]
    skip
    repeat (first | (with_reducible refine World.rowIs.set ?_ _ _) | (with_reducible apply World.rowIs.alloc))
    exact h)
  have M := hide (show IsMem W1 bm bw n f from by
    rw [← hW1]
    repeat (first | (with_reducible apply IsMem.alloc) | ((with_reducible refine IsMem.setOther ?_ ?_ ?_ _); rotate_left; (simp; omega); (simp; omega)))
    exact hm)
  have RZ := hide (show W1.rowIs w.heap.size 55 6 zcell from by
    rw [← hW1]
    repeat (with_reducible refine World.rowIs.setOther ?_ ?side _; case side => (simp; omega))
    exact row0 w)
  have T0 := hide (show Touch w W1 (fun k => k = b ∨ k = bw) from by
    rw [← hW1]
    repeat (first | (with_reducible apply Touch.alloc) | (with_reducible refine Touch.setCell ?_ _ ?side _; case side => simp))
    exact Touch.refl w _)
  have sz : W1.heap.size = w.heap.size + 1 := by rw [← hW1]; simp
  have HX := hide hx
  have HF := hide hf'
  have HW : Hid (0 ≤ (⟨hand, 5, 0, fst, u64 (fst + 1), true⟩ : Stp).put ∧ (⟨hand, 5, 0, fst, u64 (fst + 1), true⟩ : Stp).put ≤ 18446744073709551615) := ⟨u64_lo _, u64_hi _⟩
  clear hm h hx hf' 
  go_enter Try.func126, Try.ntmps126
  go_wp2_with fail
  clear hW1 c0 fz0 c1 fz1 c2 fz2 c3 fz3 c4 fz4 c5 fz5 c6 fz6 c7 fz7
  refine (take_no R.out M.out h1 h2 hok HX.out HF.out).mono ?_
  rintro e w1 ⟨rfl, row1, hm1, t1⟩
  simp only [Stp.val]
  have lw1 := t1.size
  have R1 := hide row1
  have RR := hide (show w1.rowIs w.heap.size 55 6 zcell from RZ.out.of_block (t1.block w.heap.size (by omega) (by simp; omega)))
  have M1 := hide hm1
  have T1 := hide (T0.out.trans t1)
  have l1 : b < w1.heap.size := by omega
  have l2 : w.heap.size < w1.heap.size := by omega
  have l3 : bw < w1.heap.size := by omega
  have l4 : bm < w1.heap.size := by omega
  clear hm1 row1 t1
  obtain ⟨⟨d0, df0⟩, ⟨d1, df1⟩, ⟨d2, df2⟩, ⟨d3, df3⟩, ⟨d4, df4⟩, ⟨d5, df5⟩, ⟨d6, df6⟩, d7, df7⟩ := mv_facts R1.out
  obtain ⟨⟨r0, rf0⟩, ⟨r1, rf1⟩, ⟨r2, rf2⟩, ⟨r3, rf3⟩, ⟨r4, rf4⟩, r5, rf5⟩ := res_facts RR.out
  go_wp2_with fail
  go_light
  refine bodyPost_ret (v := .tuple #[x.val, .int .i64 0]) ?res rfl ⟨rfl, ?row, ?mem, ?tch⟩
  case row =>
    refine World.rowIs.congr ?_ (fun i hi => mv_st hand room st fst en val t 0 i hi)
    repeat (first | (with_reducible apply World.rowIs.alloc) | (with_reducible apply World.rowIs.drew) | (with_reducible refine World.rowIs.setOther ?_ ?side _; case side => (simp; omega)))
    with_reducible refine World.rowIs.set ?_ 2 _
    repeat (first | (with_reducible apply World.rowIs.alloc) | (with_reducible apply World.rowIs.drew) | (with_reducible refine World.rowIs.setOther ?_ ?side _; case side => (simp; omega)))
    with_reducible exact R1.out
  case mem =>
    repeat (first | (with_reducible apply IsMem.alloc) | (with_reducible apply IsMem.drew) | ((with_reducible refine IsMem.setOther ?_ ?_ ?_ _); rotate_left; (simp; omega); (simp; omega)))
    with_reducible exact M1.out
  case tch =>
    repeat (first | (with_reducible apply Touch.alloc) | (with_reducible apply Touch.drew) | (with_reducible refine Touch.setCell ?_ _ ?side _; case side => (first | (simp; done) | (simp; omega))))
    with_reducible exact T1.out
  case res => simp [results, Try.results126, go_sem, Stp.val, *]

end Deal
end Go.Proofs.Ytdgolkdedghajaa
