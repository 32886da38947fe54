/-
  Lemmas: SeqF.
-/
import Derived.Test.YtkiojiibppdjjaaTp23
/-
  The tasks of a record with a version: a Read: its words.
-/
namespace Go.Proofs.Ytkiojiibppdjjaa
open Go.RowKit
set_option linter.unusedVariables false
set_option linter.unusedSimpArgs false
set_option maxRecDepth 20000
namespace Seq

set_option maxHeartbeats 4000000 in
theorem r_t1_more {w : World} {b bm bw n : Nat} {f f' : Nat → Int} {x : Stp} {hand last st seen fov : Int} {fok : Bool} {t : Ans} (h : w.rowIs b 103 9 (rdC hand last st 1 seen ⟨fok, fov⟩ t)) (hm : IsMem w bm bw n f) (h1 : b ≠ bm) (h2 : b ≠ bw) (a1 : ¬ last < 2) 
    (hx : stepOf n f ⟨hand, 1, 1, 0, 0, true⟩ = x) (hf' : wordsOf n f ⟨hand, 1, 1, 0, 0, true⟩ = f') :
    Calls Try.prog 107 #[.pointer (some ⟨b, 0, none⟩), .pointer (some ⟨bm, 0, none⟩)] w fun e w' => e = .returned x.val ∧
      w'.rowIs b 103 9 (rdC hand last st 2 seen ⟨true, x.had⟩ t) ∧ IsMem w' bm bw n f' ∧ Touch w w' (fun k => k = b ∨ k = bw) := by
  obtain ⟨⟨c0, fz0⟩, ⟨c1, fz1⟩, ⟨c2, fz2⟩, ⟨c3, fz3⟩, ⟨c4, fz4⟩, ⟨c5, fz5⟩, ⟨c6, fz6⟩, ⟨c7, fz7⟩, c8, fz8⟩ := r_facts h
  have hl := h.lt
  have lw := hm.row.lt
  have lm := hm.head.lt
  have hn3 : w.heap.size ≠ b := by omega
  have hn4 : w.heap.size ≠ bw := by omega
  have hn5 : w.heap.size ≠ bm := by omega
  obtain ⟨W1, hW1⟩ : ∃ W1, (w.alloc (.cells #[.int .i64 0, .int .i64 0, .int .i64 0, .int .u64 0, .int .u64 0, .bool false] 77)) = W1 := ⟨_, rfl⟩
  have R := hide (show W1.rowIs b 103 9 (rdC hand last st 1 seen ⟨fok, fov⟩ t) from by
    rw [← hW1]
    skip
    repeat (first | (with_reducible refine World.rowIs.set ?_ _ _) | (with_reducible apply World.rowIs.alloc))
    exact h)
  have M := hide (show IsMem W1 bm bw n f from by
    rw [← hW1]
    repeat (first | (with_reducible apply IsMem.alloc) | ((with_reducible refine IsMem.setOther ?_ ?_ ?_ _); rotate_left; (simp; omega); (simp; omega)))
    exact hm)
  have RZ := hide (show W1.rowIs w.heap.size 77 6 zcell from by
    rw [← hW1]
    have := row0 w
    simpa using this)
  have T0 := hide (show Touch w W1 (fun k => k = b ∨ k = bw) from by
    rw [← hW1]
    repeat (first | (with_reducible apply Touch.alloc) | (with_reducible refine Touch.setCell ?_ _ ?side _; case side => simp))
    exact Touch.refl w _)
  have sz : W1.heap.size = w.heap.size + 1 := by rw [← hW1]; simp
  have lW1 : b < W1.heap.size := by omega
  obtain ⟨⟨e0, ef0⟩, ⟨e1, ef1⟩, ⟨e2, ef2⟩, ⟨e3, ef3⟩, ⟨e4, ef4⟩, ⟨e5, ef5⟩, ⟨e6, ef6⟩, ⟨e7, ef7⟩, e8, ef8⟩ := r_facts R.out
  have HX := hide hx
  have HF := hide hf'
  have HW : Hid (0 ≤ (⟨hand, 1, 1, 0, 0, true⟩ : Stp).put ∧ (⟨hand, 1, 1, 0, 0, true⟩ : Stp).put ≤ 18446744073709551615) := ⟨by show (0 : Int) ≤ 0; omega, by show (0 : Int) ≤ 18446744073709551615; omega⟩
  have g1 : wrap64 2 = 2 := by unfold wrap64; omega
  clear hm h hx hf' 
  go_enter Try.func107, Try.ntmps107
  go_wp2_with fail
  clear hW1 c0 fz0 e0 ef0 c1 fz1 e1 ef1 c2 fz2 e2 ef2 c3 fz3 e3 ef3 c4 fz4 e4 ef4 c5 fz5 e5 ef5 c6 fz6 e6 ef6 c7 fz7 e7 ef7 c8 fz8 e8 ef8
  refine (load_any (R.out.cell (i := 0) (by omega)) (by omega) M.out HW.out HX.out HF.out).mono ?_
  rintro e w1 ⟨rfl, hm1, hg1⟩
  simp only [Stp.val]
  have lw1 := hg1.size
  have R1 := hide (show w1.rowIs b 103 9 (rdC hand last st 1 seen ⟨fok, fov⟩ t) from R.out.of_block (hg1.block b (by omega) (by simpa using h2)))
  have RR := hide (show w1.rowIs w.heap.size 77 6 zcell from RZ.out.of_block (hg1.block w.heap.size (by omega) (by simpa using hn4)))
  have M1 := hide hm1
  have T1 := hide (T0.out.trans' (Touch.of_grown hg1) (fun k _ e => .inr (by simpa using e)))
  have l1 : b < w1.heap.size := by omega
  have l2 : w.heap.size < w1.heap.size := by omega
  have l3 : bw < w1.heap.size := by omega
  have l4 : bm < w1.heap.size := by omega
  clear hm1 hg1
  obtain ⟨⟨d0, df0⟩, ⟨d1, df1⟩, ⟨d2, df2⟩, ⟨d3, df3⟩, ⟨d4, df4⟩, ⟨d5, df5⟩, ⟨d6, df6⟩, ⟨d7, df7⟩, d8, df8⟩ := r_facts R1.out
  obtain ⟨⟨r0, rf0⟩, ⟨r1, rf1⟩, ⟨r2, rf2⟩, ⟨r3, rf3⟩, ⟨r4, rf4⟩, r5, rf5⟩ := res_facts RR.out
  obtain ⟨PV, hPV⟩ : ∃ W', ((w1.setCell ⟨b, 5, none⟩ (.bool true)).setCell ⟨b, 6, none⟩ (.int .u64 x.had)) = W' := ⟨_, rfl⟩
  have tV : Touch w1 PV (fun k => k = b) := by
    rw [← hPV]
    exact (Touch.setCell (S := fun k => k = b) (Touch.setCell (S := fun k => k = b) (Touch.refl w1 _) ⟨b, 5, none⟩ (.inl rfl) _) ⟨b, 6, none⟩ (.inl rfl) _)
  have szp : PV.heap.size = w1.heap.size := by rw [← hPV] <;> first | (simp; done) | rfl | (simp; rfl)
  have RP := hide (show PV.rowIs b 103 9 (rdC hand last st 1 seen ⟨true, x.had⟩ t) from by
    rw [← hPV]
    exact World.rowIs.congr (World.rowIs.set (World.rowIs.set R1.out 5 _) 6 _) (fun i hi => r_fo hand last st 1 seen fov fok t x.had i hi))
  obtain ⟨V, hV⟩ : ∃ W', (((w1.setCell ⟨b, 5, none⟩ (.bool true)).setCell ⟨b, 6, none⟩ (.int .u64 x.had)).alloc (.cells #[.int .i64 x.hand, .int .i64 x.act, .int .i64 x.at_, .int .u64 x.had, .int .u64 x.put, .bool x.ok] 77)) = W' := ⟨_, rfl⟩
  have hV' : PV.alloc (.cells #[.int .i64 x.hand, .int .i64 x.act, .int .i64 x.at_, .int .u64 x.had, .int .u64 x.put, .bool x.ok] 77) = V := by rw [← hPV]; exact hV
  have RV := hide (show V.rowIs b 103 9 (rdC hand last st 1 seen ⟨true, x.had⟩ t) from by rw [← hV']; exact RP.out.alloc _)
  have QV := hide (show V.rowIs w.heap.size 77 6 zcell from by rw [← hV']; exact (RR.out.of_block (tV.block _ (by omega) (by omega))).alloc _)
  have MV := hide (show IsMem V bm bw n f' from by
    rw [← hV']
    exact IsMem.alloc ⟨M1.out.head.of_block (tV.block _ M1.out.head.lt (by omega)), M1.out.row.of_block (tV.block _ M1.out.row.lt (by omega)), M1.out.most, M1.out.word⟩ _)
  have TV := hide (show Touch w V (fun k => k = b ∨ k = bw) from by rw [← hV']; exact (T1.out.trans' tV (fun k _ h => .inl h)).alloc _)
  have SV := hide (show V.rangeAt w1.heap.size 0 [Value.int .i64 x.hand, .int .i64 x.act, .int .i64 x.at_, .int .u64 x.had, .int .u64 x.put, .bool x.ok] from by
    rw [← hV', ← szp]
    exact cell_range (b := 0) (cs := [Value.int .i64 x.hand, .int .i64 x.act, .int .i64 x.at_, .int .u64 x.had, .int .u64 x.put, .bool x.ok]))
  have szV : V.heap.size = w1.heap.size + 1 := by rw [← hV', World.size_alloc, szp]
  clear tV hV' hPV RP szp
  have lbV : b < V.heap.size := by omega
  have lrV : w.heap.size < V.heap.size := by omega
  have lqV : w1.heap.size < V.heap.size := by omega
  obtain ⟨⟨dV0, dfV0⟩, ⟨dV1, dfV1⟩, ⟨dV2, dfV2⟩, ⟨dV3, dfV3⟩, ⟨dV4, dfV4⟩, ⟨dV5, dfV5⟩, ⟨dV6, dfV6⟩, ⟨dV7, dfV7⟩, dV8, dfV8⟩ := r_facts RV.out
  obtain ⟨⟨r0V, rf0V⟩, ⟨r1V, rf1V⟩, ⟨r2V, rf2V⟩, ⟨r3V, rf3V⟩, ⟨r4V, rf4V⟩, r5V, rf5V⟩ := res_facts QV.out
  have s0V : V.cell? ⟨w1.heap.size, 0, none⟩ = some (.int .i64 x.hand) := by have := SV.out 0 _ rfl; simpa using this
  have s1V : V.cell? ⟨w1.heap.size, 1, none⟩ = some (.int .i64 x.act) := by have := SV.out 1 _ rfl; simpa using this
  have s2V : V.cell? ⟨w1.heap.size, 2, none⟩ = some (.int .i64 x.at_) := by have := SV.out 2 _ rfl; simpa using this
  have s3V : V.cell? ⟨w1.heap.size, 3, none⟩ = some (.int .u64 x.had) := by have := SV.out 3 _ rfl; simpa using this
  have s4V : V.cell? ⟨w1.heap.size, 4, none⟩ = some (.int .u64 x.put) := by have := SV.out 4 _ rfl; simpa using this
  have s5V : V.cell? ⟨w1.heap.size, 5, none⟩ = some (.bool x.ok) := by have := SV.out 5 _ rfl; simpa using this
  go_wp2_with fail
  clear hV d0 df0 d1 df1 d2 df2 d3 df3 d4 df4 d5 df5 d6 df6 d7 df7 d8 df8 r0 rf0 r1 rf1 r2 rf2 r3 rf3 r4 rf4 r5 rf5
  go_quiet (fail)
  obtain ⟨U, hU⟩ : ∃ W', ((V.drewN nq).setCell ⟨b, 3, none⟩ (.int .i64 2)) = W' := ⟨_, rfl⟩
  have tU : Touch V U (fun k => k = b) := by
    rw [← hU]
    exact Touch.trans' (S' := fun k => k = b) (⟨rfl, rfl, rfl, Nat.le_refl _, fun _ _ _ => rfl⟩ : Touch V (V.drewN nq) (fun k => k = b)) (Touch.setCell (S := fun k => k = b) (Touch.refl (V.drewN nq) _) ⟨b, 3, none⟩ (.inl rfl) _) (fun k _ h => h)
  have RU := hide (show U.rowIs b 103 9 (rdC hand last st 2 seen ⟨true, x.had⟩ t) from by
    rw [← hU]
    exact World.rowIs.congr (World.rowIs.set (show World.rowIs (V.drewN nq) b 103 9 _ from RV.out.of_block rfl) 3 _) (fun i hi => r_at hand last st 1 seen x.had true t 2 i hi))
  have QU := hide (QV.out.of_block (tU.block _ (by omega) (by omega)))
  have MU := hide (show IsMem U bm bw n f' from ⟨MV.out.head.of_block (tU.block _ MV.out.head.lt (by omega)), MV.out.row.of_block (tU.block _ MV.out.row.lt (by omega)), MV.out.most, MV.out.word⟩)
  have TU := hide (show Touch w U (fun k => k = b ∨ k = bw) from TV.out.trans' tU (fun k _ h => .inl h))
  have SU := hide (rangeAt_block SV.out (tU.block w1.heap.size (by omega) (by omega)))
  have szU : U.heap.size = V.heap.size := by rw [← hU] <;> first | (simp; done) | rfl | (simp; rfl)
  clear tU 
  have lbU : b < U.heap.size := by omega
  have lrU : w.heap.size < U.heap.size := by omega
  have lqU : w1.heap.size < U.heap.size := by omega
  obtain ⟨⟨dU0, dfU0⟩, ⟨dU1, dfU1⟩, ⟨dU2, dfU2⟩, ⟨dU3, dfU3⟩, ⟨dU4, dfU4⟩, ⟨dU5, dfU5⟩, ⟨dU6, dfU6⟩, ⟨dU7, dfU7⟩, dU8, dfU8⟩ := r_facts RU.out
  obtain ⟨⟨r0U, rf0U⟩, ⟨r1U, rf1U⟩, ⟨r2U, rf2U⟩, ⟨r3U, rf3U⟩, ⟨r4U, rf4U⟩, r5U, rf5U⟩ := res_facts QU.out
  have s0U : U.cell? ⟨w1.heap.size, 0, none⟩ = some (.int .i64 x.hand) := by have := SU.out 0 _ rfl; simpa using this
  have s1U : U.cell? ⟨w1.heap.size, 1, none⟩ = some (.int .i64 x.act) := by have := SU.out 1 _ rfl; simpa using this
  have s2U : U.cell? ⟨w1.heap.size, 2, none⟩ = some (.int .i64 x.at_) := by have := SU.out 2 _ rfl; simpa using this
  have s3U : U.cell? ⟨w1.heap.size, 3, none⟩ = some (.int .u64 x.had) := by have := SU.out 3 _ rfl; simpa using this
  have s4U : U.cell? ⟨w1.heap.size, 4, none⟩ = some (.int .u64 x.put) := by have := SU.out 4 _ rfl; simpa using this
  have s5U : U.cell? ⟨w1.heap.size, 5, none⟩ = some (.bool x.ok) := by have := SU.out 5 _ rfl; simpa using this
  go_wp2_with fail
  clear hU dV0 dfV0 dV1 dfV1 dV2 dfV2 dV3 dfV3 dV4 dfV4 dV5 dfV5 dV6 dfV6 dV7 dfV7 dV8 dfV8 r0V rf0V s0V r1V rf1V s1V r2V rf2V s2V r3V rf3V s3V r4V rf4V s4V r5V rf5V s5V
  go_quiet (fail)
  go_wp2_with fail
  go_light
  have RN := hide (show (U.drewN nq).rowIs b 103 9 (rdC hand last st 2 seen ⟨true, x.had⟩ t) from RU.out.of_block rfl)
  have MN := hide (show IsMem (U.drewN nq) bm bw n f' from ⟨MU.out.head.of_block rfl, MU.out.row.of_block rfl, MU.out.most, MU.out.word⟩)
  have TN := hide (show Touch w (U.drewN nq) (fun k => k = b ∨ k = bw) from TU.out.trans' (S' := fun _ => False) ⟨rfl, rfl, rfl, Nat.le_refl _, fun _ _ _ => rfl⟩ (fun _ _ h => h.elim))
  refine bodyPost_ret (v := x.val) ?res rfl ⟨rfl, ?row, ?mem, ?tch⟩
  case row =>
    repeat (first | (with_reducible apply World.rowIs.alloc) | (with_reducible apply World.rowIs.drew) | (with_reducible refine World.rowIs.setOther ?_ ?side _; case side => (simp; omega)))
    with_reducible exact RN.out
  case mem =>
    repeat (first | (with_reducible apply IsMem.alloc) | (with_reducible apply IsMem.drew) | ((with_reducible refine IsMem.setOther ?_ ?_ ?_ _); rotate_left; (simp; omega); (simp; omega)))
    with_reducible exact MN.out
  case tch =>
    repeat (first | (with_reducible apply Touch.alloc) | (with_reducible apply Touch.drew) | (with_reducible refine Touch.setCell ?_ _ ?side _; case side => (first | (simp; done) | (simp; omega))))
    with_reducible exact TN.out
  case res => simp [results, Try.results107, go_sem, Stp.val, *]

set_option maxHeartbeats 4000000 in
theorem r_t1_last {w : World} {b bm bw n : Nat} {f f' : Nat → Int} {x : Stp} {hand last st seen fov : Int} {fok : Bool} {t : Ans} (h : w.rowIs b 103 9 (rdC hand last st 1 seen ⟨fok, fov⟩ t)) (hm : IsMem w bm bw n f) (h1 : b ≠ bm) (h2 : b ≠ bw) (a1 : last < 2) 
    (hx : stepOf n f ⟨hand, 1, 1, 0, 0, true⟩ = x) (hf' : wordsOf n f ⟨hand, 1, 1, 0, 0, true⟩ = f') :
    Calls Try.prog 107 #[.pointer (some ⟨b, 0, none⟩), .pointer (some ⟨bm, 0, none⟩)] w fun e w' => e = .returned x.val ∧
      w'.rowIs b 103 9 (rdC hand last 3 2 seen ⟨true, x.had⟩ t) ∧ IsMem w' bm bw n f' ∧ Touch w w' (fun k => k = b ∨ k = bw) := by
  obtain ⟨⟨c0, fz0⟩, ⟨c1, fz1⟩, ⟨c2, fz2⟩, ⟨c3, fz3⟩, ⟨c4, fz4⟩, ⟨c5, fz5⟩, ⟨c6, fz6⟩, ⟨c7, fz7⟩, c8, fz8⟩ := r_facts h
  have hl := h.lt
  have lw := hm.row.lt
  have lm := hm.head.lt
  have hn3 : w.heap.size ≠ b := by omega
  have hn4 : w.heap.size ≠ bw := by omega
  have hn5 : w.heap.size ≠ bm := by omega
  obtain ⟨W1, hW1⟩ : ∃ W1, (w.alloc (.cells #[.int .i64 0, .int .i64 0, .int .i64 0, .int .u64 0, .int .u64 0, .bool false] 77)) = W1 := ⟨_, rfl⟩
  have R := hide (show W1.rowIs b 103 9 (rdC hand last st 1 seen ⟨fok, fov⟩ t) from by
    rw [← hW1]
    skip
    repeat (first | (with_reducible refine World.rowIs.set ?_ _ _) | (with_reducible apply World.rowIs.alloc))
    exact h)
  have M := hide (show IsMem W1 bm bw n f from by
    rw [← hW1]
    repeat (first | (with_reducible apply IsMem.alloc) | ((with_reducible refine IsMem.setOther ?_ ?_ ?_ _); rotate_left; (simp; omega); (simp; omega)))
    exact hm)
  have RZ := hide (show W1.rowIs w.heap.size 77 6 zcell from by
    rw [← hW1]
    have := row0 w
    simpa using this)
  have T0 := hide (show Touch w W1 (fun k => k = b ∨ k = bw) from by
    rw [← hW1]
    repeat (first | (with_reducible apply Touch.alloc) | (with_reducible refine Touch.setCell ?_ _ ?side _; case side => simp))
    exact Touch.refl w _)
  have sz : W1.heap.size = w.heap.size + 1 := by rw [← hW1]; simp
  have lW1 : b < W1.heap.size := by omega
  obtain ⟨⟨e0, ef0⟩, ⟨e1, ef1⟩, ⟨e2, ef2⟩, ⟨e3, ef3⟩, ⟨e4, ef4⟩, ⟨e5, ef5⟩, ⟨e6, ef6⟩, ⟨e7, ef7⟩, e8, ef8⟩ := r_facts R.out
  have HX := hide hx
  have HF := hide hf'
  have HW : Hid (0 ≤ (⟨hand, 1, 1, 0, 0, true⟩ : Stp).put ∧ (⟨hand, 1, 1, 0, 0, true⟩ : Stp).put ≤ 18446744073709551615) := ⟨by show (0 : Int) ≤ 0; omega, by show (0 : Int) ≤ 18446744073709551615; omega⟩
  have g1 : wrap64 2 = 2 := by unfold wrap64; omega
  clear hm h hx hf' 
  go_enter Try.func107, Try.ntmps107
  go_wp2_with fail
  clear hW1 c0 fz0 e0 ef0 c1 fz1 e1 ef1 c2 fz2 e2 ef2 c3 fz3 e3 ef3 c4 fz4 e4 ef4 c5 fz5 e5 ef5 c6 fz6 e6 ef6 c7 fz7 e7 ef7 c8 fz8 e8 ef8
  refine (load_any (R.out.cell (i := 0) (by omega)) (by omega) M.out HW.out HX.out HF.out).mono ?_
  rintro e w1 ⟨rfl, hm1, hg1⟩
  simp only [Stp.val]
  have lw1 := hg1.size
  have R1 := hide (show w1.rowIs b 103 9 (rdC hand last st 1 seen ⟨fok, fov⟩ t) from R.out.of_block (hg1.block b (by omega) (by simpa using h2)))
  have RR := hide (show w1.rowIs w.heap.size 77 6 zcell from RZ.out.of_block (hg1.block w.heap.size (by omega) (by simpa using hn4)))
  have M1 := hide hm1
  have T1 := hide (T0.out.trans' (Touch.of_grown hg1) (fun k _ e => .inr (by simpa using e)))
  have l1 : b < w1.heap.size := by omega
  have l2 : w.heap.size < w1.heap.size := by omega
  have l3 : bw < w1.heap.size := by omega
  have l4 : bm < w1.heap.size := by omega
  clear hm1 hg1
  obtain ⟨⟨d0, df0⟩, ⟨d1, df1⟩, ⟨d2, df2⟩, ⟨d3, df3⟩, ⟨d4, df4⟩, ⟨d5, df5⟩, ⟨d6, df6⟩, ⟨d7, df7⟩, d8, df8⟩ := r_facts R1.out
  obtain ⟨⟨r0, rf0⟩, ⟨r1, rf1⟩, ⟨r2, rf2⟩, ⟨r3, rf3⟩, ⟨r4, rf4⟩, r5, rf5⟩ := res_facts RR.out
  obtain ⟨PV, hPV⟩ : ∃ W', ((w1.setCell ⟨b, 5, none⟩ (.bool true)).setCell ⟨b, 6, none⟩ (.int .u64 x.had)) = W' := ⟨_, rfl⟩
  have tV : Touch w1 PV (fun k => k = b) := by
    rw [← hPV]
    exact (Touch.setCell (S := fun k => k = b) (Touch.setCell (S := fun k => k = b) (Touch.refl w1 _) ⟨b, 5, none⟩ (.inl rfl) _) ⟨b, 6, none⟩ (.inl rfl) _)
  have szp : PV.heap.size = w1.heap.size := by rw [← hPV] <;> first | (simp; done) | rfl | (simp; rfl)
  have RP := hide (show PV.rowIs b 103 9 (rdC hand last st 1 seen ⟨true, x.had⟩ t) from by
    rw [← hPV]
    exact World.rowIs.congr (World.rowIs.set (World.rowIs.set R1.out 5 _) 6 _) (fun i hi => r_fo hand last st 1 seen fov fok t x.had i hi))
  obtain ⟨V, hV⟩ : ∃ W', (((w1.setCell ⟨b, 5, none⟩ (.bool true)).setCell ⟨b, 6, none⟩ (.int .u64 x.had)).alloc (.cells #[.int .i64 x.hand, .int .i64 x.act, .int .i64 x.at_, .int .u64 x.had, .int .u64 x.put, .bool x.ok] 77)) = W' := ⟨_, rfl⟩
  have hV' : PV.alloc (.cells #[.int .i64 x.hand, .int .i64 x.act, .int .i64 x.at_, .int .u64 x.had, .int .u64 x.put, .bool x.ok] 77) = V := by rw [← hPV]; exact hV
  have RV := hide (show V.rowIs b 103 9 (rdC hand last st 1 seen ⟨true, x.had⟩ t) from by rw [← hV']; exact RP.out.alloc _)
  have QV := hide (show V.rowIs w.heap.size 77 6 zcell from by rw [← hV']; exact (RR.out.of_block (tV.block _ (by omega) (by omega))).alloc _)
  have MV := hide (show IsMem V bm bw n f' from by
    rw [← hV']
    exact IsMem.alloc ⟨M1.out.head.of_block (tV.block _ M1.out.head.lt (by omega)), M1.out.row.of_block (tV.block _ M1.out.row.lt (by omega)), M1.out.most, M1.out.word⟩ _)
  have TV := hide (show Touch w V (fun k => k = b ∨ k = bw) from by rw [← hV']; exact (T1.out.trans' tV (fun k _ h => .inl h)).alloc _)
  have SV := hide (show V.rangeAt w1.heap.size 0 [Value.int .i64 x.hand, .int .i64 x.act, .int .i64 x.at_, .int .u64 x.had, .int .u64 x.put, .bool x.ok] from by
    rw [← hV', ← szp]
    exact cell_range (b := 0) (cs := [Value.int .i64 x.hand, .int .i64 x.act, .int .i64 x.at_, .int .u64 x.had, .int .u64 x.put, .bool x.ok]))
  have szV : V.heap.size = w1.heap.size + 1 := by rw [← hV', World.size_alloc, szp]
  clear tV hV' hPV RP szp
  have lbV : b < V.heap.size := by omega
  have lrV : w.heap.size < V.heap.size := by omega
  have lqV : w1.heap.size < V.heap.size := by omega
  obtain ⟨⟨dV0, dfV0⟩, ⟨dV1, dfV1⟩, ⟨dV2, dfV2⟩, ⟨dV3, dfV3⟩, ⟨dV4, dfV4⟩, ⟨dV5, dfV5⟩, ⟨dV6, dfV6⟩, ⟨dV7, dfV7⟩, dV8, dfV8⟩ := r_facts RV.out
  obtain ⟨⟨r0V, rf0V⟩, ⟨r1V, rf1V⟩, ⟨r2V, rf2V⟩, ⟨r3V, rf3V⟩, ⟨r4V, rf4V⟩, r5V, rf5V⟩ := res_facts QV.out
  have s0V : V.cell? ⟨w1.heap.size, 0, none⟩ = some (.int .i64 x.hand) := by have := SV.out 0 _ rfl; simpa using this
  have s1V : V.cell? ⟨w1.heap.size, 1, none⟩ = some (.int .i64 x.act) := by have := SV.out 1 _ rfl; simpa using this
  have s2V : V.cell? ⟨w1.heap.size, 2, none⟩ = some (.int .i64 x.at_) := by have := SV.out 2 _ rfl; simpa using this
  have s3V : V.cell? ⟨w1.heap.size, 3, none⟩ = some (.int .u64 x.had) := by have := SV.out 3 _ rfl; simpa using this
  have s4V : V.cell? ⟨w1.heap.size, 4, none⟩ = some (.int .u64 x.put) := by have := SV.out 4 _ rfl; simpa using this
  have s5V : V.cell? ⟨w1.heap.size, 5, none⟩ = some (.bool x.ok) := by have := SV.out 5 _ rfl; simpa using this
  go_wp2_with fail
  clear hV d0 df0 d1 df1 d2 df2 d3 df3 d4 df4 d5 df5 d6 df6 d7 df7 d8 df8 r0 rf0 r1 rf1 r2 rf2 r3 rf3 r4 rf4 r5 rf5
  go_quiet (fail)
  obtain ⟨U, hU⟩ : ∃ W', ((V.drewN nq).setCell ⟨b, 3, none⟩ (.int .i64 2)) = W' := ⟨_, rfl⟩
  have tU : Touch V U (fun k => k = b) := by
    rw [← hU]
    exact Touch.trans' (S' := fun k => k = b) (⟨rfl, rfl, rfl, Nat.le_refl _, fun _ _ _ => rfl⟩ : Touch V (V.drewN nq) (fun k => k = b)) (Touch.setCell (S := fun k => k = b) (Touch.refl (V.drewN nq) _) ⟨b, 3, none⟩ (.inl rfl) _) (fun k _ h => h)
  have RU := hide (show U.rowIs b 103 9 (rdC hand last st 2 seen ⟨true, x.had⟩ t) from by
    rw [← hU]
    exact World.rowIs.congr (World.rowIs.set (show World.rowIs (V.drewN nq) b 103 9 _ from RV.out.of_block rfl) 3 _) (fun i hi => r_at hand last st 1 seen x.had true t 2 i hi))
  have QU := hide (QV.out.of_block (tU.block _ (by omega) (by omega)))
  have MU := hide (show IsMem U bm bw n f' from ⟨MV.out.head.of_block (tU.block _ MV.out.head.lt (by omega)), MV.out.row.of_block (tU.block _ MV.out.row.lt (by omega)), MV.out.most, MV.out.word⟩)
  have TU := hide (show Touch w U (fun k => k = b ∨ k = bw) from TV.out.trans' tU (fun k _ h => .inl h))
  have SU := hide (rangeAt_block SV.out (tU.block w1.heap.size (by omega) (by omega)))
  have szU : U.heap.size = V.heap.size := by rw [← hU] <;> first | (simp; done) | rfl | (simp; rfl)
  clear tU 
  have lbU : b < U.heap.size := by omega
  have lrU : w.heap.size < U.heap.size := by omega
  have lqU : w1.heap.size < U.heap.size := by omega
  obtain ⟨⟨dU0, dfU0⟩, ⟨dU1, dfU1⟩, ⟨dU2, dfU2⟩, ⟨dU3, dfU3⟩, ⟨dU4, dfU4⟩, ⟨dU5, dfU5⟩, ⟨dU6, dfU6⟩, ⟨dU7, dfU7⟩, dU8, dfU8⟩ := r_facts RU.out
  obtain ⟨⟨r0U, rf0U⟩, ⟨r1U, rf1U⟩, ⟨r2U, rf2U⟩, ⟨r3U, rf3U⟩, ⟨r4U, rf4U⟩, r5U, rf5U⟩ := res_facts QU.out
  have s0U : U.cell? ⟨w1.heap.size, 0, none⟩ = some (.int .i64 x.hand) := by have := SU.out 0 _ rfl; simpa using this
  have s1U : U.cell? ⟨w1.heap.size, 1, none⟩ = some (.int .i64 x.act) := by have := SU.out 1 _ rfl; simpa using this
  have s2U : U.cell? ⟨w1.heap.size, 2, none⟩ = some (.int .i64 x.at_) := by have := SU.out 2 _ rfl; simpa using this
  have s3U : U.cell? ⟨w1.heap.size, 3, none⟩ = some (.int .u64 x.had) := by have := SU.out 3 _ rfl; simpa using this
  have s4U : U.cell? ⟨w1.heap.size, 4, none⟩ = some (.int .u64 x.put) := by have := SU.out 4 _ rfl; simpa using this
  have s5U : U.cell? ⟨w1.heap.size, 5, none⟩ = some (.bool x.ok) := by have := SU.out 5 _ rfl; simpa using this
  go_wp2_with fail
  clear hU dV0 dfV0 dV1 dfV1 dV2 dfV2 dV3 dfV3 dV4 dfV4 dV5 dfV5 dV6 dfV6 dV7 dfV7 dV8 dfV8 r0V rf0V s0V r1V rf1V s1V r2V rf2V s2V r3V rf3V s3V r4V rf4V s4V r5V rf5V s5V
  go_quiet (fail)
  go_wp2_with fail
  go_light
  have RN := hide (show (U.drewN nq).rowIs b 103 9 (rdC hand last st 2 seen ⟨true, x.had⟩ t) from RU.out.of_block rfl)
  have MN := hide (show IsMem (U.drewN nq) bm bw n f' from ⟨MU.out.head.of_block rfl, MU.out.row.of_block rfl, MU.out.most, MU.out.word⟩)
  have TN := hide (show Touch w (U.drewN nq) (fun k => k = b ∨ k = bw) from TU.out.trans' (S' := fun _ => False) ⟨rfl, rfl, rfl, Nat.le_refl _, fun _ _ _ => rfl⟩ (fun _ _ h => h.elim))
  refine bodyPost_ret (v := x.val) ?res rfl ⟨rfl, ?row, ?mem, ?tch⟩
  case row =>
    refine World.rowIs.congr ?_ (fun i hi => r_st hand last st 2 seen x.had true t 3 i hi)
    repeat (first | (with_reducible apply World.rowIs.alloc) | (with_reducible apply World.rowIs.drew) | (with_reducible refine World.rowIs.setOther ?_ ?side _; case side => (simp; omega)))
    with_reducible refine World.rowIs.set ?_ 2 _
    repeat (first | (with_reducible apply World.rowIs.alloc) | (with_reducible apply World.rowIs.drew) | (with_reducible refine World.rowIs.setOther ?_ ?side _; case side => (simp; omega)))
    with_reducible exact RN.out
  case mem =>
    repeat (first | (with_reducible apply IsMem.alloc) | (with_reducible apply IsMem.drew) | ((with_reducible refine IsMem.setOther ?_ ?_ ?_ _); rotate_left; (simp; omega); (simp; omega)))
    with_reducible exact MN.out
  case tch =>
    repeat (first | (with_reducible apply Touch.alloc) | (with_reducible apply Touch.drew) | (with_reducible refine Touch.setCell ?_ _ ?side _; case side => (first | (simp; done) | (simp; omega))))
    with_reducible exact TN.out
  case res => simp [results, Try.results107, go_sem, Stp.val, *]

set_option maxHeartbeats 4000000 in
theorem r_ts_more {w : World} {b bm bw n : Nat} {f f' : Nat → Int} {x : Stp} {hand last st at_ seen : Int} {fok : Bool} {t : Ans} (h : w.rowIs b 103 9 (rdC hand last st at_ seen ⟨fok, x.had⟩ t)) (hm : IsMem w bm bw n f) (h1 : b ≠ bm) (h2 : b ≠ bw) (ha : 1 ≤ at_ ∧ at_ ≤ 64) (a0 : ¬ at_ = 1) (a1 : ¬ last < at_ + 1) 
    (hx : stepOf n f ⟨hand, 1, at_, 0, 0, true⟩ = x) (hf' : wordsOf n f ⟨hand, 1, at_, 0, 0, true⟩ = f') :
    Calls Try.prog 107 #[.pointer (some ⟨b, 0, none⟩), .pointer (some ⟨bm, 0, none⟩)] w fun e w' => e = .returned x.val ∧
      w'.rowIs b 103 9 (rdC hand last st (at_ + 1) seen ⟨fok, x.had⟩ t) ∧ IsMem w' bm bw n f' ∧ Touch w w' (fun k => k = b ∨ k = bw) := by
  obtain ⟨⟨c0, fz0⟩, ⟨c1, fz1⟩, ⟨c2, fz2⟩, ⟨c3, fz3⟩, ⟨c4, fz4⟩, ⟨c5, fz5⟩, ⟨c6, fz6⟩, ⟨c7, fz7⟩, c8, fz8⟩ := r_facts h
  have hl := h.lt
  have lw := hm.row.lt
  have lm := hm.head.lt
  have hn3 : w.heap.size ≠ b := by omega
  have hn4 : w.heap.size ≠ bw := by omega
  have hn5 : w.heap.size ≠ bm := by omega
  obtain ⟨W1, hW1⟩ : ∃ W1, (w.alloc (.cells #[.int .i64 0, .int .i64 0, .int .i64 0, .int .u64 0, .int .u64 0, .bool false] 77)) = W1 := ⟨_, rfl⟩
  have R := hide (show W1.rowIs b 103 9 (rdC hand last st at_ seen ⟨fok, x.had⟩ t) from by
    rw [← hW1]
    skip
    repeat (first | (with_reducible refine World.rowIs.set ?_ _ _) | (with_reducible apply World.rowIs.alloc))
    exact h)
  have M := hide (show IsMem W1 bm bw n f from by
    rw [← hW1]
    repeat (first | (with_reducible apply IsMem.alloc) | ((with_reducible refine IsMem.setOther ?_ ?_ ?_ _); rotate_left; (simp; omega); (simp; omega)))
    exact hm)
  have RZ := hide (show W1.rowIs w.heap.size 77 6 zcell from by
    rw [← hW1]
    have := row0 w
    simpa using this)
  have T0 := hide (show Touch w W1 (fun k => k = b ∨ k = bw) from by
    rw [← hW1]
    repeat (first | (with_reducible apply Touch.alloc) | (with_reducible refine Touch.setCell ?_ _ ?side _; case side => simp))
    exact Touch.refl w _)
  have sz : W1.heap.size = w.heap.size + 1 := by rw [← hW1]; simp
  have lW1 : b < W1.heap.size := by omega
  obtain ⟨⟨e0, ef0⟩, ⟨e1, ef1⟩, ⟨e2, ef2⟩, ⟨e3, ef3⟩, ⟨e4, ef4⟩, ⟨e5, ef5⟩, ⟨e6, ef6⟩, ⟨e7, ef7⟩, e8, ef8⟩ := r_facts R.out
  have HX := hide hx
  have HF := hide hf'
  have HW : Hid (0 ≤ (⟨hand, 1, at_, 0, 0, true⟩ : Stp).put ∧ (⟨hand, 1, at_, 0, 0, true⟩ : Stp).put ≤ 18446744073709551615) := ⟨by show (0 : Int) ≤ 0; omega, by show (0 : Int) ≤ 18446744073709551615; omega⟩
  have g1 : wrap64 (at_ + 1) = at_ + 1 := by unfold wrap64; omega
  have a0' : (at_ == 1) = false := by simpa using a0
  clear hm h hx hf' 
  go_enter Try.func107, Try.ntmps107
  go_wp2_with fail
  clear hW1 c0 fz0 e0 ef0 c1 fz1 e1 ef1 c2 fz2 e2 ef2 c3 fz3 e3 ef3 c4 fz4 e4 ef4 c5 fz5 e5 ef5 c6 fz6 e6 ef6 c7 fz7 e7 ef7 c8 fz8 e8 ef8
  refine (load_any (R.out.cell (i := 0) (by omega)) (by omega) M.out HW.out HX.out HF.out).mono ?_
  rintro e w1 ⟨rfl, hm1, hg1⟩
  simp only [Stp.val]
  have lw1 := hg1.size
  have R1 := hide (show w1.rowIs b 103 9 (rdC hand last st at_ seen ⟨fok, x.had⟩ t) from R.out.of_block (hg1.block b (by omega) (by simpa using h2)))
  have RR := hide (show w1.rowIs w.heap.size 77 6 zcell from RZ.out.of_block (hg1.block w.heap.size (by omega) (by simpa using hn4)))
  have M1 := hide hm1
  have T1 := hide (T0.out.trans' (Touch.of_grown hg1) (fun k _ e => .inr (by simpa using e)))
  have l1 : b < w1.heap.size := by omega
  have l2 : w.heap.size < w1.heap.size := by omega
  have l3 : bw < w1.heap.size := by omega
  have l4 : bm < w1.heap.size := by omega
  clear hm1 hg1
  obtain ⟨⟨d0, df0⟩, ⟨d1, df1⟩, ⟨d2, df2⟩, ⟨d3, df3⟩, ⟨d4, df4⟩, ⟨d5, df5⟩, ⟨d6, df6⟩, ⟨d7, df7⟩, d8, df8⟩ := r_facts R1.out
  obtain ⟨⟨r0, rf0⟩, ⟨r1, rf1⟩, ⟨r2, rf2⟩, ⟨r3, rf3⟩, ⟨r4, rf4⟩, r5, rf5⟩ := res_facts RR.out
  obtain ⟨PV, hPV⟩ : ∃ W', w1 = W' := ⟨_, rfl⟩
  have tV : Touch w1 PV (fun k => k = b) := by
    rw [← hPV]
    exact (Touch.refl w1 _)
  have szp : PV.heap.size = w1.heap.size := by rw [← hPV] <;> first | (simp; done) | rfl | (simp; rfl)
  have RP := hide (show PV.rowIs b 103 9 (rdC hand last st at_ seen ⟨fok, x.had⟩ t) from by
    rw [← hPV]
    exact R1.out)
  obtain ⟨V, hV⟩ : ∃ W', (w1.alloc (.cells #[.int .i64 x.hand, .int .i64 x.act, .int .i64 x.at_, .int .u64 x.had, .int .u64 x.put, .bool x.ok] 77)) = W' := ⟨_, rfl⟩
  have hV' : PV.alloc (.cells #[.int .i64 x.hand, .int .i64 x.act, .int .i64 x.at_, .int .u64 x.had, .int .u64 x.put, .bool x.ok] 77) = V := by rw [← hPV]; exact hV
  have RV := hide (show V.rowIs b 103 9 (rdC hand last st at_ seen ⟨fok, x.had⟩ t) from by rw [← hV']; exact RP.out.alloc _)
  have QV := hide (show V.rowIs w.heap.size 77 6 zcell from by rw [← hV']; exact (RR.out.of_block (tV.block _ (by omega) (by omega))).alloc _)
  have MV := hide (show IsMem V bm bw n f' from by
    rw [← hV']
    exact IsMem.alloc ⟨M1.out.head.of_block (tV.block _ M1.out.head.lt (by omega)), M1.out.row.of_block (tV.block _ M1.out.row.lt (by omega)), M1.out.most, M1.out.word⟩ _)
  have TV := hide (show Touch w V (fun k => k = b ∨ k = bw) from by rw [← hV']; exact (T1.out.trans' tV (fun k _ h => .inl h)).alloc _)
  have SV := hide (show V.rangeAt w1.heap.size 0 [Value.int .i64 x.hand, .int .i64 x.act, .int .i64 x.at_, .int .u64 x.had, .int .u64 x.put, .bool x.ok] from by
    rw [← hV', ← szp]
    exact cell_range (b := 0) (cs := [Value.int .i64 x.hand, .int .i64 x.act, .int .i64 x.at_, .int .u64 x.had, .int .u64 x.put, .bool x.ok]))
  have szV : V.heap.size = w1.heap.size + 1 := by rw [← hV', World.size_alloc, szp]
  clear tV hV' hPV RP szp
  have lbV : b < V.heap.size := by omega
  have lrV : w.heap.size < V.heap.size := by omega
  have lqV : w1.heap.size < V.heap.size := by omega
  obtain ⟨⟨dV0, dfV0⟩, ⟨dV1, dfV1⟩, ⟨dV2, dfV2⟩, ⟨dV3, dfV3⟩, ⟨dV4, dfV4⟩, ⟨dV5, dfV5⟩, ⟨dV6, dfV6⟩, ⟨dV7, dfV7⟩, dV8, dfV8⟩ := r_facts RV.out
  obtain ⟨⟨r0V, rf0V⟩, ⟨r1V, rf1V⟩, ⟨r2V, rf2V⟩, ⟨r3V, rf3V⟩, ⟨r4V, rf4V⟩, r5V, rf5V⟩ := res_facts QV.out
  have s0V : V.cell? ⟨w1.heap.size, 0, none⟩ = some (.int .i64 x.hand) := by have := SV.out 0 _ rfl; simpa using this
  have s1V : V.cell? ⟨w1.heap.size, 1, none⟩ = some (.int .i64 x.act) := by have := SV.out 1 _ rfl; simpa using this
  have s2V : V.cell? ⟨w1.heap.size, 2, none⟩ = some (.int .i64 x.at_) := by have := SV.out 2 _ rfl; simpa using this
  have s3V : V.cell? ⟨w1.heap.size, 3, none⟩ = some (.int .u64 x.had) := by have := SV.out 3 _ rfl; simpa using this
  have s4V : V.cell? ⟨w1.heap.size, 4, none⟩ = some (.int .u64 x.put) := by have := SV.out 4 _ rfl; simpa using this
  have s5V : V.cell? ⟨w1.heap.size, 5, none⟩ = some (.bool x.ok) := by have := SV.out 5 _ rfl; simpa using this
  go_wp2_with fail
  clear hV d0 df0 d1 df1 d2 df2 d3 df3 d4 df4 d5 df5 d6 df6 d7 df7 d8 df8 r0 rf0 r1 rf1 r2 rf2 r3 rf3 r4 rf4 r5 rf5
  go_quiet (fail)
  obtain ⟨U, hU⟩ : ∃ W', ((V.drewN nq).setCell ⟨b, 3, none⟩ (.int .i64 (at_ + 1))) = W' := ⟨_, rfl⟩
  have tU : Touch V U (fun k => k = b) := by
    rw [← hU]
    exact Touch.trans' (S' := fun k => k = b) (⟨rfl, rfl, rfl, Nat.le_refl _, fun _ _ _ => rfl⟩ : Touch V (V.drewN nq) (fun k => k = b)) (Touch.setCell (S := fun k => k = b) (Touch.refl (V.drewN nq) _) ⟨b, 3, none⟩ (.inl rfl) _) (fun k _ h => h)
  have RU := hide (show U.rowIs b 103 9 (rdC hand last st (at_ + 1) seen ⟨fok, x.had⟩ t) from by
    rw [← hU]
    exact World.rowIs.congr (World.rowIs.set (show World.rowIs (V.drewN nq) b 103 9 _ from RV.out.of_block rfl) 3 _) (fun i hi => r_at hand last st at_ seen x.had fok t (at_ + 1) i hi))
  have QU := hide (QV.out.of_block (tU.block _ (by omega) (by omega)))
  have MU := hide (show IsMem U bm bw n f' from ⟨MV.out.head.of_block (tU.block _ MV.out.head.lt (by omega)), MV.out.row.of_block (tU.block _ MV.out.row.lt (by omega)), MV.out.most, MV.out.word⟩)
  have TU := hide (show Touch w U (fun k => k = b ∨ k = bw) from TV.out.trans' tU (fun k _ h => .inl h))
  have SU := hide (rangeAt_block SV.out (tU.block w1.heap.size (by omega) (by omega)))
  have szU : U.heap.size = V.heap.size := by rw [← hU] <;> first | (simp; done) | rfl | (simp; rfl)
  clear tU 
  have lbU : b < U.heap.size := by omega
  have lrU : w.heap.size < U.heap.size := by omega
  have lqU : w1.heap.size < U.heap.size := by omega
  obtain ⟨⟨dU0, dfU0⟩, ⟨dU1, dfU1⟩, ⟨dU2, dfU2⟩, ⟨dU3, dfU3⟩, ⟨dU4, dfU4⟩, ⟨dU5, dfU5⟩, ⟨dU6, dfU6⟩, ⟨dU7, dfU7⟩, dU8, dfU8⟩ := r_facts RU.out
  obtain ⟨⟨r0U, rf0U⟩, ⟨r1U, rf1U⟩, ⟨r2U, rf2U⟩, ⟨r3U, rf3U⟩, ⟨r4U, rf4U⟩, r5U, rf5U⟩ := res_facts QU.out
  have s0U : U.cell? ⟨w1.heap.size, 0, none⟩ = some (.int .i64 x.hand) := by have := SU.out 0 _ rfl; simpa using this
  have s1U : U.cell? ⟨w1.heap.size, 1, none⟩ = some (.int .i64 x.act) := by have := SU.out 1 _ rfl; simpa using this
  have s2U : U.cell? ⟨w1.heap.size, 2, none⟩ = some (.int .i64 x.at_) := by have := SU.out 2 _ rfl; simpa using this
  have s3U : U.cell? ⟨w1.heap.size, 3, none⟩ = some (.int .u64 x.had) := by have := SU.out 3 _ rfl; simpa using this
  have s4U : U.cell? ⟨w1.heap.size, 4, none⟩ = some (.int .u64 x.put) := by have := SU.out 4 _ rfl; simpa using this
  have s5U : U.cell? ⟨w1.heap.size, 5, none⟩ = some (.bool x.ok) := by have := SU.out 5 _ rfl; simpa using this
  go_wp2_with fail
  clear hU dV0 dfV0 dV1 dfV1 dV2 dfV2 dV3 dfV3 dV4 dfV4 dV5 dfV5 dV6 dfV6 dV7 dfV7 dV8 dfV8 r0V rf0V s0V r1V rf1V s1V r2V rf2V s2V r3V rf3V s3V r4V rf4V s4V r5V rf5V s5V
  go_quiet (fail)
  go_wp2_with fail
  go_light
  have RN := hide (show (U.drewN nq).rowIs b 103 9 (rdC hand last st (at_ + 1) seen ⟨fok, x.had⟩ t) from RU.out.of_block rfl)
  have MN := hide (show IsMem (U.drewN nq) bm bw n f' from ⟨MU.out.head.of_block rfl, MU.out.row.of_block rfl, MU.out.most, MU.out.word⟩)
  have TN := hide (show Touch w (U.drewN nq) (fun k => k = b ∨ k = bw) from TU.out.trans' (S' := fun _ => False) ⟨rfl, rfl, rfl, Nat.le_refl _, fun _ _ _ => rfl⟩ (fun _ _ h => h.elim))
  refine bodyPost_ret (v := x.val) ?res rfl ⟨rfl, ?row, ?mem, ?tch⟩
  case row =>
    repeat (first | (with_reducible apply World.rowIs.alloc) | (with_reducible apply World.rowIs.drew) | (with_reducible refine World.rowIs.setOther ?_ ?side _; case side => (simp; omega)))
    with_reducible exact RN.out
  case mem =>
    repeat (first | (with_reducible apply IsMem.alloc) | (with_reducible apply IsMem.drew) | ((with_reducible refine IsMem.setOther ?_ ?_ ?_ _); rotate_left; (simp; omega); (simp; omega)))
    with_reducible exact MN.out
  case tch =>
    repeat (first | (with_reducible apply Touch.alloc) | (with_reducible apply Touch.drew) | (with_reducible refine Touch.setCell ?_ _ ?side _; case side => (first | (simp; done) | (simp; omega))))
    with_reducible exact TN.out
  case res => simp [results, Try.results107, go_sem, Stp.val, *]

set_option maxHeartbeats 4000000 in
theorem r_ts_last {w : World} {b bm bw n : Nat} {f f' : Nat → Int} {x : Stp} {hand last st at_ seen : Int} {fok : Bool} {t : Ans} (h : w.rowIs b 103 9 (rdC hand last st at_ seen ⟨fok, x.had⟩ t)) (hm : IsMem w bm bw n f) (h1 : b ≠ bm) (h2 : b ≠ bw) (ha : 1 ≤ at_ ∧ at_ ≤ 64) (a0 : ¬ at_ = 1) (a1 : last < at_ + 1) 
    (hx : stepOf n f ⟨hand, 1, at_, 0, 0, true⟩ = x) (hf' : wordsOf n f ⟨hand, 1, at_, 0, 0, true⟩ = f') :
    Calls Try.prog 107 #[.pointer (some ⟨b, 0, none⟩), .pointer (some ⟨bm, 0, none⟩)] w fun e w' => e = .returned x.val ∧
      w'.rowIs b 103 9 (rdC hand last 3 (at_ + 1) seen ⟨fok, x.had⟩ t) ∧ IsMem w' bm bw n f' ∧ Touch w w' (fun k => k = b ∨ k = bw) := by
  obtain ⟨⟨c0, fz0⟩, ⟨c1, fz1⟩, ⟨c2, fz2⟩, ⟨c3, fz3⟩, ⟨c4, fz4⟩, ⟨c5, fz5⟩, ⟨c6, fz6⟩, ⟨c7, fz7⟩, c8, fz8⟩ := r_facts h
  have hl := h.lt
  have lw := hm.row.lt
  have lm := hm.head.lt
  have hn3 : w.heap.size ≠ b := by omega
  have hn4 : w.heap.size ≠ bw := by omega
  have hn5 : w.heap.size ≠ bm := by omega
  obtain ⟨W1, hW1⟩ : ∃ W1, (w.alloc (.cells #[.int .i64 0, .int .i64 0, .int .i64 0, .int .u64 0, .int .u64 0, .bool false] 77)) = W1 := ⟨_, rfl⟩
  have R := hide (show W1.rowIs b 103 9 (rdC hand last st at_ seen ⟨fok, x.had⟩ t) from by
    rw [← hW1]
    skip
    repeat (first | (with_reducible refine World.rowIs.set ?_ _ _) | (with_reducible apply World.rowIs.alloc))
    exact h)
  have M := hide (show IsMem W1 bm bw n f from by
    rw [← hW1]
    repeat (first | (with_reducible apply IsMem.alloc) | ((with_reducible refine IsMem.setOther ?_ ?_ ?_ _); rotate_left; (simp; omega); (simp; omega)))
    exact hm)
  have RZ := hide (show W1.rowIs w.heap.size 77 6 zcell from by
    rw [← hW1]
    have := row0 w
    simpa using this)
  have T0 := hide (show Touch w W1 (fun k => k = b ∨ k = bw) from by
    rw [← hW1]
    repeat (first | (with_reducible apply Touch.alloc) | (with_reducible refine Touch.setCell ?_ _ ?side _; case side => simp))
    exact Touch.refl w _)
  have sz : W1.heap.size = w.heap.size + 1 := by rw [← hW1]; simp
  have lW1 : b < W1.heap.size := by omega
  obtain ⟨⟨e0, ef0⟩, ⟨e1, ef1⟩, ⟨e2, ef2⟩, ⟨e3, ef3⟩, ⟨e4, ef4⟩, ⟨e5, ef5⟩, ⟨e6, ef6⟩, ⟨e7, ef7⟩, e8, ef8⟩ := r_facts R.out
  have HX := hide hx
  have HF := hide hf'
  have HW : Hid (0 ≤ (⟨hand, 1, at_, 0, 0, true⟩ : Stp).put ∧ (⟨hand, 1, at_, 0, 0, true⟩ : Stp).put ≤ 18446744073709551615) := ⟨by show (0 : Int) ≤ 0; omega, by show (0 : Int) ≤ 18446744073709551615; omega⟩
  have g1 : wrap64 (at_ + 1) = at_ + 1 := by unfold wrap64; omega
  have a0' : (at_ == 1) = false := by simpa using a0
  clear hm h hx hf' 
  go_enter Try.func107, Try.ntmps107
  go_wp2_with fail
  clear hW1 c0 fz0 e0 ef0 c1 fz1 e1 ef1 c2 fz2 e2 ef2 c3 fz3 e3 ef3 c4 fz4 e4 ef4 c5 fz5 e5 ef5 c6 fz6 e6 ef6 c7 fz7 e7 ef7 c8 fz8 e8 ef8
  refine (load_any (R.out.cell (i := 0) (by omega)) (by omega) M.out HW.out HX.out HF.out).mono ?_
  rintro e w1 ⟨rfl, hm1, hg1⟩
  simp only [Stp.val]
  have lw1 := hg1.size
  have R1 := hide (show w1.rowIs b 103 9 (rdC hand last st at_ seen ⟨fok, x.had⟩ t) from R.out.of_block (hg1.block b (by omega) (by simpa using h2)))
  have RR := hide (show w1.rowIs w.heap.size 77 6 zcell from RZ.out.of_block (hg1.block w.heap.size (by omega) (by simpa using hn4)))
  have M1 := hide hm1
  have T1 := hide (T0.out.trans' (Touch.of_grown hg1) (fun k _ e => .inr (by simpa using e)))
  have l1 : b < w1.heap.size := by omega
  have l2 : w.heap.size < w1.heap.size := by omega
  have l3 : bw < w1.heap.size := by omega
  have l4 : bm < w1.heap.size := by omega
  clear hm1 hg1
  obtain ⟨⟨d0, df0⟩, ⟨d1, df1⟩, ⟨d2, df2⟩, ⟨d3, df3⟩, ⟨d4, df4⟩, ⟨d5, df5⟩, ⟨d6, df6⟩, ⟨d7, df7⟩, d8, df8⟩ := r_facts R1.out
  obtain ⟨⟨r0, rf0⟩, ⟨r1, rf1⟩, ⟨r2, rf2⟩, ⟨r3, rf3⟩, ⟨r4, rf4⟩, r5, rf5⟩ := res_facts RR.out
  obtain ⟨PV, hPV⟩ : ∃ W', w1 = W' := ⟨_, rfl⟩
  have tV : Touch w1 PV (fun k => k = b) := by
    rw [← hPV]
    exact (Touch.refl w1 _)
  have szp : PV.heap.size = w1.heap.size := by rw [← hPV] <;> first | (simp; done) | rfl | (simp; rfl)
  have RP := hide (show PV.rowIs b 103 9 (rdC hand last st at_ seen ⟨fok, x.had⟩ t) from by
    rw [← hPV]
    exact R1.out)
  obtain ⟨V, hV⟩ : ∃ W', (w1.alloc (.cells #[.int .i64 x.hand, .int .i64 x.act, .int .i64 x.at_, .int .u64 x.had, .int .u64 x.put, .bool x.ok] 77)) = W' := ⟨_, rfl⟩
  have hV' : PV.alloc (.cells #[.int .i64 x.hand, .int .i64 x.act, .int .i64 x.at_, .int .u64 x.had, .int .u64 x.put, .bool x.ok] 77) = V := by rw [← hPV]; exact hV
  have RV := hide (show V.rowIs b 103 9 (rdC hand last st at_ seen ⟨fok, x.had⟩ t) from by rw [← hV']; exact RP.out.alloc _)
  have QV := hide (show V.rowIs w.heap.size 77 6 zcell from by rw [← hV']; exact (RR.out.of_block (tV.block _ (by omega) (by omega))).alloc _)
  have MV := hide (show IsMem V bm bw n f' from by
    rw [← hV']
    exact IsMem.alloc ⟨M1.out.head.of_block (tV.block _ M1.out.head.lt (by omega)), M1.out.row.of_block (tV.block _ M1.out.row.lt (by omega)), M1.out.most, M1.out.word⟩ _)
  have TV := hide (show Touch w V (fun k => k = b ∨ k = bw) from by rw [← hV']; exact (T1.out.trans' tV (fun k _ h => .inl h)).alloc _)
  have SV := hide (show V.rangeAt w1.heap.size 0 [Value.int .i64 x.hand, .int .i64 x.act, .int .i64 x.at_, .int .u64 x.had, .int .u64 x.put, .bool x.ok] from by
    rw [← hV', ← szp]
    exact cell_range (b := 0) (cs := [Value.int .i64 x.hand, .int .i64 x.act, .int .i64 x.at_, .int .u64 x.had, .int .u64 x.put, .bool x.ok]))
  have szV : V.heap.size = w1.heap.size + 1 := by rw [← hV', World.size_alloc, szp]
  clear tV hV' hPV RP szp
  have lbV : b < V.heap.size := by omega
  have lrV : w.heap.size < V.heap.size := by omega
  have lqV : w1.heap.size < V.heap.size := by omega
  obtain ⟨⟨dV0, dfV0⟩, ⟨dV1, dfV1⟩, ⟨dV2, dfV2⟩, ⟨dV3, dfV3⟩, ⟨dV4, dfV4⟩, ⟨dV5, dfV5⟩, ⟨dV6, dfV6⟩, ⟨dV7, dfV7⟩, dV8, dfV8⟩ := r_facts RV.out
  obtain ⟨⟨r0V, rf0V⟩, ⟨r1V, rf1V⟩, ⟨r2V, rf2V⟩, ⟨r3V, rf3V⟩, ⟨r4V, rf4V⟩, r5V, rf5V⟩ := res_facts QV.out
  have s0V : V.cell? ⟨w1.heap.size, 0, none⟩ = some (.int .i64 x.hand) := by have := SV.out 0 _ rfl; simpa using this
  have s1V : V.cell? ⟨w1.heap.size, 1, none⟩ = some (.int .i64 x.act) := by have := SV.out 1 _ rfl; simpa using this
  have s2V : V.cell? ⟨w1.heap.size, 2, none⟩ = some (.int .i64 x.at_) := by have := SV.out 2 _ rfl; simpa using this
  have s3V : V.cell? ⟨w1.heap.size, 3, none⟩ = some (.int .u64 x.had) := by have := SV.out 3 _ rfl; simpa using this
  have s4V : V.cell? ⟨w1.heap.size, 4, none⟩ = some (.int .u64 x.put) := by have := SV.out 4 _ rfl; simpa using this
  have s5V : V.cell? ⟨w1.heap.size, 5, none⟩ = some (.bool x.ok) := by have := SV.out 5 _ rfl; simpa using this
  go_wp2_with fail
  clear hV d0 df0 d1 df1 d2 df2 d3 df3 d4 df4 d5 df5 d6 df6 d7 df7 d8 df8 r0 rf0 r1 rf1 r2 rf2 r3 rf3 r4 rf4 r5 rf5
  go_quiet (fail)
  obtain ⟨U, hU⟩ : ∃ W', ((V.drewN nq).setCell ⟨b, 3, none⟩ (.int .i64 (at_ + 1))) = W' := ⟨_, rfl⟩
  have tU : Touch V U (fun k => k = b) := by
    rw [← hU]
    exact Touch.trans' (S' := fun k => k = b) (⟨rfl, rfl, rfl, Nat.le_refl _, fun _ _ _ => rfl⟩ : Touch V (V.drewN nq) (fun k => k = b)) (Touch.setCell (S := fun k => k = b) (Touch.refl (V.drewN nq) _) ⟨b, 3, none⟩ (.inl rfl) _) (fun k _ h => h)
  have RU := hide (show U.rowIs b 103 9 (rdC hand last st (at_ + 1) seen ⟨fok, x.had⟩ t) from by
    rw [← hU]
    exact World.rowIs.congr (World.rowIs.set (show World.rowIs (V.drewN nq) b 103 9 _ from RV.out.of_block rfl) 3 _) (fun i hi => r_at hand last st at_ seen x.had fok t (at_ + 1) i hi))
  have QU := hide (QV.out.of_block (tU.block _ (by omega) (by omega)))
  have MU := hide (show IsMem U bm bw n f' from ⟨MV.out.head.of_block (tU.block _ MV.out.head.lt (by omega)), MV.out.row.of_block (tU.block _ MV.out.row.lt (by omega)), MV.out.most, MV.out.word⟩)
  have TU := hide (show Touch w U (fun k => k = b ∨ k = bw) from TV.out.trans' tU (fun k _ h => .inl h))
  have SU := hide (rangeAt_block SV.out (tU.block w1.heap.size (by omega) (by omega)))
  have szU : U.heap.size = V.heap.size := by rw [← hU] <;> first | (simp; done) | rfl | (simp; rfl)
  clear tU 
  have lbU : b < U.heap.size := by omega
  have lrU : w.heap.size < U.heap.size := by omega
  have lqU : w1.heap.size < U.heap.size := by omega
  obtain ⟨⟨dU0, dfU0⟩, ⟨dU1, dfU1⟩, ⟨dU2, dfU2⟩, ⟨dU3, dfU3⟩, ⟨dU4, dfU4⟩, ⟨dU5, dfU5⟩, ⟨dU6, dfU6⟩, ⟨dU7, dfU7⟩, dU8, dfU8⟩ := r_facts RU.out
  obtain ⟨⟨r0U, rf0U⟩, ⟨r1U, rf1U⟩, ⟨r2U, rf2U⟩, ⟨r3U, rf3U⟩, ⟨r4U, rf4U⟩, r5U, rf5U⟩ := res_facts QU.out
  have s0U : U.cell? ⟨w1.heap.size, 0, none⟩ = some (.int .i64 x.hand) := by have := SU.out 0 _ rfl; simpa using this
  have s1U : U.cell? ⟨w1.heap.size, 1, none⟩ = some (.int .i64 x.act) := by have := SU.out 1 _ rfl; simpa using this
  have s2U : U.cell? ⟨w1.heap.size, 2, none⟩ = some (.int .i64 x.at_) := by have := SU.out 2 _ rfl; simpa using this
  have s3U : U.cell? ⟨w1.heap.size, 3, none⟩ = some (.int .u64 x.had) := by have := SU.out 3 _ rfl; simpa using this
  have s4U : U.cell? ⟨w1.heap.size, 4, none⟩ = some (.int .u64 x.put) := by have := SU.out 4 _ rfl; simpa using this
  have s5U : U.cell? ⟨w1.heap.size, 5, none⟩ = some (.bool x.ok) := by have := SU.out 5 _ rfl; simpa using this
  go_wp2_with fail
  clear hU dV0 dfV0 dV1 dfV1 dV2 dfV2 dV3 dfV3 dV4 dfV4 dV5 dfV5 dV6 dfV6 dV7 dfV7 dV8 dfV8 r0V rf0V s0V r1V rf1V s1V r2V rf2V s2V r3V rf3V s3V r4V rf4V s4V r5V rf5V s5V
  go_quiet (fail)
  go_wp2_with fail
  go_light
  have RN := hide (show (U.drewN nq).rowIs b 103 9 (rdC hand last st (at_ + 1) seen ⟨fok, x.had⟩ t) from RU.out.of_block rfl)
  have MN := hide (show IsMem (U.drewN nq) bm bw n f' from ⟨MU.out.head.of_block rfl, MU.out.row.of_block rfl, MU.out.most, MU.out.word⟩)
  have TN := hide (show Touch w (U.drewN nq) (fun k => k = b ∨ k = bw) from TU.out.trans' (S' := fun _ => False) ⟨rfl, rfl, rfl, Nat.le_refl _, fun _ _ _ => rfl⟩ (fun _ _ h => h.elim))
  refine bodyPost_ret (v := x.val) ?res rfl ⟨rfl, ?row, ?mem, ?tch⟩
  case row =>
    refine World.rowIs.congr ?_ (fun i hi => r_st hand last st (at_ + 1) seen x.had fok t 3 i hi)
    repeat (first | (with_reducible apply World.rowIs.alloc) | (with_reducible apply World.rowIs.drew) | (with_reducible refine World.rowIs.setOther ?_ ?side _; case side => (simp; omega)))
    with_reducible refine World.rowIs.set ?_ 2 _
    repeat (first | (with_reducible apply World.rowIs.alloc) | (with_reducible apply World.rowIs.drew) | (with_reducible refine World.rowIs.setOther ?_ ?side _; case side => (simp; omega)))
    with_reducible exact RN.out
  case mem =>
    repeat (first | (with_reducible apply IsMem.alloc) | (with_reducible apply IsMem.drew) | ((with_reducible refine IsMem.setOther ?_ ?_ ?_ _); rotate_left; (simp; omega); (simp; omega)))
    with_reducible exact MN.out
  case tch =>
    repeat (first | (with_reducible apply Touch.alloc) | (with_reducible apply Touch.drew) | (with_reducible refine Touch.setCell ?_ _ ?side _; case side => (first | (simp; done) | (simp; omega))))
    with_reducible exact TN.out
  case res => simp [results, Try.results107, go_sem, Stp.val, *]

set_option maxHeartbeats 4000000 in
theorem r_tn_more {w : World} {b bm bw n : Nat} {f f' : Nat → Int} {x : Stp} {hand last st at_ seen fov : Int} {fok : Bool} {t : Ans} (h : w.rowIs b 103 9 (rdC hand last st at_ seen ⟨fok, fov⟩ t)) (hm : IsMem w bm bw n f) (h1 : b ≠ bm) (h2 : b ≠ bw) (ha : 1 ≤ at_ ∧ at_ ≤ 64) (a0 : ¬ at_ = 1) (a2 : ¬ x.had = fov) (a1 : ¬ last < at_ + 1) 
    (hx : stepOf n f ⟨hand, 1, at_, 0, 0, true⟩ = x) (hf' : wordsOf n f ⟨hand, 1, at_, 0, 0, true⟩ = f') :
    Calls Try.prog 107 #[.pointer (some ⟨b, 0, none⟩), .pointer (some ⟨bm, 0, none⟩)] w fun e w' => e = .returned x.val ∧
      w'.rowIs b 103 9 (rdC hand last st (at_ + 1) seen ⟨false, fov⟩ t) ∧ IsMem w' bm bw n f' ∧ Touch w w' (fun k => k = b ∨ k = bw) := by
  obtain ⟨⟨c0, fz0⟩, ⟨c1, fz1⟩, ⟨c2, fz2⟩, ⟨c3, fz3⟩, ⟨c4, fz4⟩, ⟨c5, fz5⟩, ⟨c6, fz6⟩, ⟨c7, fz7⟩, c8, fz8⟩ := r_facts h
  have hl := h.lt
  have lw := hm.row.lt
  have lm := hm.head.lt
  have hn3 : w.heap.size ≠ b := by omega
  have hn4 : w.heap.size ≠ bw := by omega
  have hn5 : w.heap.size ≠ bm := by omega
  obtain ⟨W1, hW1⟩ : ∃ W1, (w.alloc (.cells #[.int .i64 0, .int .i64 0, .int .i64 0, .int .u64 0, .int .u64 0, .bool false] 77)) = W1 := ⟨_, rfl⟩
  have R := hide (show W1.rowIs b 103 9 (rdC hand last st at_ seen ⟨fok, fov⟩ t) from by
    rw [← hW1]
    skip
    repeat (first | (with_reducible refine World.rowIs.set ?_ _ _) | (with_reducible apply World.rowIs.alloc))
    exact h)
  have M := hide (show IsMem W1 bm bw n f from by
    rw [← hW1]
    repeat (first | (with_reducible apply IsMem.alloc) | ((with_reducible refine IsMem.setOther ?_ ?_ ?_ _); rotate_left; (simp; omega); (simp; omega)))
    exact hm)
  have RZ := hide (show W1.rowIs w.heap.size 77 6 zcell from by
    rw [← hW1]
    have := row0 w
    simpa using this)
  have T0 := hide (show Touch w W1 (fun k => k = b ∨ k = bw) from by
    rw [← hW1]
    repeat (first | (with_reducible apply Touch.alloc) | (with_reducible refine Touch.setCell ?_ _ ?side _; case side => simp))
    exact Touch.refl w _)
  have sz : W1.heap.size = w.heap.size + 1 := by rw [← hW1]; simp
  have lW1 : b < W1.heap.size := by omega
  obtain ⟨⟨e0, ef0⟩, ⟨e1, ef1⟩, ⟨e2, ef2⟩, ⟨e3, ef3⟩, ⟨e4, ef4⟩, ⟨e5, ef5⟩, ⟨e6, ef6⟩, ⟨e7, ef7⟩, e8, ef8⟩ := r_facts R.out
  have HX := hide hx
  have HF := hide hf'
  have HW : Hid (0 ≤ (⟨hand, 1, at_, 0, 0, true⟩ : Stp).put ∧ (⟨hand, 1, at_, 0, 0, true⟩ : Stp).put ≤ 18446744073709551615) := ⟨by show (0 : Int) ≤ 0; omega, by show (0 : Int) ≤ 18446744073709551615; omega⟩
  have g1 : wrap64 (at_ + 1) = at_ + 1 := by unfold wrap64; omega
  have a0' : (at_ == 1) = false := by simpa using a0
  have a2' : (x.had != fov) = true := by simpa using a2
  clear hm h hx hf' 
  go_enter Try.func107, Try.ntmps107
  go_wp2_with fail
  clear hW1 c0 fz0 e0 ef0 c1 fz1 e1 ef1 c2 fz2 e2 ef2 c3 fz3 e3 ef3 c4 fz4 e4 ef4 c5 fz5 e5 ef5 c6 fz6 e6 ef6 c7 fz7 e7 ef7 c8 fz8 e8 ef8
  refine (load_any (R.out.cell (i := 0) (by omega)) (by omega) M.out HW.out HX.out HF.out).mono ?_
  rintro e w1 ⟨rfl, hm1, hg1⟩
  simp only [Stp.val]
  have lw1 := hg1.size
  have R1 := hide (show w1.rowIs b 103 9 (rdC hand last st at_ seen ⟨fok, fov⟩ t) from R.out.of_block (hg1.block b (by omega) (by simpa using h2)))
  have RR := hide (show w1.rowIs w.heap.size 77 6 zcell from RZ.out.of_block (hg1.block w.heap.size (by omega) (by simpa using hn4)))
  have M1 := hide hm1
  have T1 := hide (T0.out.trans' (Touch.of_grown hg1) (fun k _ e => .inr (by simpa using e)))
  have l1 : b < w1.heap.size := by omega
  have l2 : w.heap.size < w1.heap.size := by omega
  have l3 : bw < w1.heap.size := by omega
  have l4 : bm < w1.heap.size := by omega
  clear hm1 hg1
  obtain ⟨⟨d0, df0⟩, ⟨d1, df1⟩, ⟨d2, df2⟩, ⟨d3, df3⟩, ⟨d4, df4⟩, ⟨d5, df5⟩, ⟨d6, df6⟩, ⟨d7, df7⟩, d8, df8⟩ := r_facts R1.out
  obtain ⟨⟨r0, rf0⟩, ⟨r1, rf1⟩, ⟨r2, rf2⟩, ⟨r3, rf3⟩, ⟨r4, rf4⟩, r5, rf5⟩ := res_facts RR.out
  obtain ⟨PV, hPV⟩ : ∃ W', w1 = W' := ⟨_, rfl⟩
  have tV : Touch w1 PV (fun k => k = b) := by
    rw [← hPV]
    exact (Touch.refl w1 _)
  have szp : PV.heap.size = w1.heap.size := by rw [← hPV] <;> first | (simp; done) | rfl | (simp; rfl)
  have RP := hide (show PV.rowIs b 103 9 (rdC hand last st at_ seen ⟨fok, fov⟩ t) from by
    rw [← hPV]
    exact R1.out)
  obtain ⟨V, hV⟩ : ∃ W', (w1.alloc (.cells #[.int .i64 x.hand, .int .i64 x.act, .int .i64 x.at_, .int .u64 x.had, .int .u64 x.put, .bool x.ok] 77)) = W' := ⟨_, rfl⟩
  have hV' : PV.alloc (.cells #[.int .i64 x.hand, .int .i64 x.act, .int .i64 x.at_, .int .u64 x.had, .int .u64 x.put, .bool x.ok] 77) = V := by rw [← hPV]; exact hV
  have RV := hide (show V.rowIs b 103 9 (rdC hand last st at_ seen ⟨fok, fov⟩ t) from by rw [← hV']; exact RP.out.alloc _)
  have QV := hide (show V.rowIs w.heap.size 77 6 zcell from by rw [← hV']; exact (RR.out.of_block (tV.block _ (by omega) (by omega))).alloc _)
  have MV := hide (show IsMem V bm bw n f' from by
    rw [← hV']
    exact IsMem.alloc ⟨M1.out.head.of_block (tV.block _ M1.out.head.lt (by omega)), M1.out.row.of_block (tV.block _ M1.out.row.lt (by omega)), M1.out.most, M1.out.word⟩ _)
  have TV := hide (show Touch w V (fun k => k = b ∨ k = bw) from by rw [← hV']; exact (T1.out.trans' tV (fun k _ h => .inl h)).alloc _)
  have SV := hide (show V.rangeAt w1.heap.size 0 [Value.int .i64 x.hand, .int .i64 x.act, .int .i64 x.at_, .int .u64 x.had, .int .u64 x.put, .bool x.ok] from by
    rw [← hV', ← szp]
    exact cell_range (b := 0) (cs := [Value.int .i64 x.hand, .int .i64 x.act, .int .i64 x.at_, .int .u64 x.had, .int .u64 x.put, .bool x.ok]))
  have szV : V.heap.size = w1.heap.size + 1 := by rw [← hV', World.size_alloc, szp]
  clear tV hV' hPV RP szp
  have lbV : b < V.heap.size := by omega
  have lrV : w.heap.size < V.heap.size := by omega
  have lqV : w1.heap.size < V.heap.size := by omega
  obtain ⟨⟨dV0, dfV0⟩, ⟨dV1, dfV1⟩, ⟨dV2, dfV2⟩, ⟨dV3, dfV3⟩, ⟨dV4, dfV4⟩, ⟨dV5, dfV5⟩, ⟨dV6, dfV6⟩, ⟨dV7, dfV7⟩, dV8, dfV8⟩ := r_facts RV.out
  obtain ⟨⟨r0V, rf0V⟩, ⟨r1V, rf1V⟩, ⟨r2V, rf2V⟩, ⟨r3V, rf3V⟩, ⟨r4V, rf4V⟩, r5V, rf5V⟩ := res_facts QV.out
  have s0V : V.cell? ⟨w1.heap.size, 0, none⟩ = some (.int .i64 x.hand) := by have := SV.out 0 _ rfl; simpa using this
  have s1V : V.cell? ⟨w1.heap.size, 1, none⟩ = some (.int .i64 x.act) := by have := SV.out 1 _ rfl; simpa using this
  have s2V : V.cell? ⟨w1.heap.size, 2, none⟩ = some (.int .i64 x.at_) := by have := SV.out 2 _ rfl; simpa using this
  have s3V : V.cell? ⟨w1.heap.size, 3, none⟩ = some (.int .u64 x.had) := by have := SV.out 3 _ rfl; simpa using this
  have s4V : V.cell? ⟨w1.heap.size, 4, none⟩ = some (.int .u64 x.put) := by have := SV.out 4 _ rfl; simpa using this
  have s5V : V.cell? ⟨w1.heap.size, 5, none⟩ = some (.bool x.ok) := by have := SV.out 5 _ rfl; simpa using this
  go_wp2_with fail
  clear hV d0 df0 d1 df1 d2 df2 d3 df3 d4 df4 d5 df5 d6 df6 d7 df7 d8 df8 r0 rf0 r1 rf1 r2 rf2 r3 rf3 r4 rf4 r5 rf5
  go_quiet (fail)
  obtain ⟨U, hU⟩ : ∃ W', (((V.drewN nq).setCell ⟨b, 5, none⟩ (.bool false)).setCell ⟨b, 3, none⟩ (.int .i64 (at_ + 1))) = W' := ⟨_, rfl⟩
  have tU : Touch V U (fun k => k = b) := by
    rw [← hU]
    exact Touch.trans' (S' := fun k => k = b) (⟨rfl, rfl, rfl, Nat.le_refl _, fun _ _ _ => rfl⟩ : Touch V (V.drewN nq) (fun k => k = b)) (Touch.setCell (S := fun k => k = b) (Touch.setCell (S := fun k => k = b) (Touch.refl (V.drewN nq) _) ⟨b, 5, none⟩ (.inl rfl) _) ⟨b, 3, none⟩ (.inl rfl) _) (fun k _ h => h)
  have RU := hide (show U.rowIs b 103 9 (rdC hand last st (at_ + 1) seen ⟨false, fov⟩ t) from by
    rw [← hU]
    exact World.rowIs.congr (World.rowIs.set (World.rowIs.set (show World.rowIs (V.drewN nq) b 103 9 _ from RV.out.of_block rfl) 5 _) 3 _) (fun i hi => r_no hand last st at_ seen fov fok t (at_ + 1) i hi))
  have QU := hide (QV.out.of_block (tU.block _ (by omega) (by omega)))
  have MU := hide (show IsMem U bm bw n f' from ⟨MV.out.head.of_block (tU.block _ MV.out.head.lt (by omega)), MV.out.row.of_block (tU.block _ MV.out.row.lt (by omega)), MV.out.most, MV.out.word⟩)
  have TU := hide (show Touch w U (fun k => k = b ∨ k = bw) from TV.out.trans' tU (fun k _ h => .inl h))
  have SU := hide (rangeAt_block SV.out (tU.block w1.heap.size (by omega) (by omega)))
  have szU : U.heap.size = V.heap.size := by rw [← hU] <;> first | (simp; done) | rfl | (simp; rfl)
  clear tU 
  have lbU : b < U.heap.size := by omega
  have lrU : w.heap.size < U.heap.size := by omega
  have lqU : w1.heap.size < U.heap.size := by omega
  obtain ⟨⟨dU0, dfU0⟩, ⟨dU1, dfU1⟩, ⟨dU2, dfU2⟩, ⟨dU3, dfU3⟩, ⟨dU4, dfU4⟩, ⟨dU5, dfU5⟩, ⟨dU6, dfU6⟩, ⟨dU7, dfU7⟩, dU8, dfU8⟩ := r_facts RU.out
  obtain ⟨⟨r0U, rf0U⟩, ⟨r1U, rf1U⟩, ⟨r2U, rf2U⟩, ⟨r3U, rf3U⟩, ⟨r4U, rf4U⟩, r5U, rf5U⟩ := res_facts QU.out
  have s0U : U.cell? ⟨w1.heap.size, 0, none⟩ = some (.int .i64 x.hand) := by have := SU.out 0 _ rfl; simpa using this
  have s1U : U.cell? ⟨w1.heap.size, 1, none⟩ = some (.int .i64 x.act) := by have := SU.out 1 _ rfl; simpa using this
  have s2U : U.cell? ⟨w1.heap.size, 2, none⟩ = some (.int .i64 x.at_) := by have := SU.out 2 _ rfl; simpa using this
  have s3U : U.cell? ⟨w1.heap.size, 3, none⟩ = some (.int .u64 x.had) := by have := SU.out 3 _ rfl; simpa using this
  have s4U : U.cell? ⟨w1.heap.size, 4, none⟩ = some (.int .u64 x.put) := by have := SU.out 4 _ rfl; simpa using this
  have s5U : U.cell? ⟨w1.heap.size, 5, none⟩ = some (.bool x.ok) := by have := SU.out 5 _ rfl; simpa using this
  go_wp2_with fail
  clear hU dV0 dfV0 dV1 dfV1 dV2 dfV2 dV3 dfV3 dV4 dfV4 dV5 dfV5 dV6 dfV6 dV7 dfV7 dV8 dfV8 r0V rf0V s0V r1V rf1V s1V r2V rf2V s2V r3V rf3V s3V r4V rf4V s4V r5V rf5V s5V
  go_quiet (fail)
  go_wp2_with fail
  go_light
  have RN := hide (show (U.drewN nq).rowIs b 103 9 (rdC hand last st (at_ + 1) seen ⟨false, fov⟩ t) from RU.out.of_block rfl)
  have MN := hide (show IsMem (U.drewN nq) bm bw n f' from ⟨MU.out.head.of_block rfl, MU.out.row.of_block rfl, MU.out.most, MU.out.word⟩)
  have TN := hide (show Touch w (U.drewN nq) (fun k => k = b ∨ k = bw) from TU.out.trans' (S' := fun _ => False) ⟨rfl, rfl, rfl, Nat.le_refl _, fun _ _ _ => rfl⟩ (fun _ _ h => h.elim))
  refine bodyPost_ret (v := x.val) ?res rfl ⟨rfl, ?row, ?mem, ?tch⟩
  case row =>
    repeat (first | (with_reducible apply World.rowIs.alloc) | (with_reducible apply World.rowIs.drew) | (with_reducible refine World.rowIs.setOther ?_ ?side _; case side => (simp; omega)))
    with_reducible exact RN.out
  case mem =>
    repeat (first | (with_reducible apply IsMem.alloc) | (with_reducible apply IsMem.drew) | ((with_reducible refine IsMem.setOther ?_ ?_ ?_ _); rotate_left; (simp; omega); (simp; omega)))
    with_reducible exact MN.out
  case tch =>
    repeat (first | (with_reducible apply Touch.alloc) | (with_reducible apply Touch.drew) | (with_reducible refine Touch.setCell ?_ _ ?side _; case side => (first | (simp; done) | (simp; omega))))
    with_reducible exact TN.out
  case res => simp [results, Try.results107, go_sem, Stp.val, *]

set_option maxHeartbeats 4000000 in
theorem r_tn_last {w : World} {b bm bw n : Nat} {f f' : Nat → Int} {x : Stp} {hand last st at_ seen fov : Int} {fok : Bool} {t : Ans} (h : w.rowIs b 103 9 (rdC hand last st at_ seen ⟨fok, fov⟩ t)) (hm : IsMem w bm bw n f) (h1 : b ≠ bm) (h2 : b ≠ bw) (ha : 1 ≤ at_ ∧ at_ ≤ 64) (a0 : ¬ at_ = 1) (a2 : ¬ x.had = fov) (a1 : last < at_ + 1) 
    (hx : stepOf n f ⟨hand, 1, at_, 0, 0, true⟩ = x) (hf' : wordsOf n f ⟨hand, 1, at_, 0, 0, true⟩ = f') :
    Calls Try.prog 107 #[.pointer (some ⟨b, 0, none⟩), .pointer (some ⟨bm, 0, none⟩)] w fun e w' => e = .returned x.val ∧
      w'.rowIs b 103 9 (rdC hand last 3 (at_ + 1) seen ⟨false, fov⟩ t) ∧ IsMem w' bm bw n f' ∧ Touch w w' (fun k => k = b ∨ k = bw) := by
  obtain ⟨⟨c0, fz0⟩, ⟨c1, fz1⟩, ⟨c2, fz2⟩, ⟨c3, fz3⟩, ⟨c4, fz4⟩, ⟨c5, fz5⟩, ⟨c6, fz6⟩, ⟨c7, fz7⟩, c8, fz8⟩ := r_facts h
  have hl := h.lt
  have lw := hm.row.lt
  have lm := hm.head.lt
  have hn3 : w.heap.size ≠ b := by omega
  have hn4 : w.heap.size ≠ bw := by omega
  have hn5 : w.heap.size ≠ bm := by omega
  obtain ⟨W1, hW1⟩ : ∃ W1, (w.alloc (.cells #[.int .i64 0, .int .i64 0, .int .i64 0, .int .u64 0, .int .u64 0, .bool false] 77)) = W1 := ⟨_, rfl⟩
  have R := hide (show W1.rowIs b 103 9 (rdC hand last st at_ seen ⟨fok, fov⟩ t) from by
    rw [← hW1]
    skip
    repeat (first | (with_reducible refine World.rowIs.set ?_ _ _) | (with_reducible apply World.rowIs.alloc))
    exact h)
  have M := hide (show IsMem W1 bm bw n f from by
    rw [← hW1]
    repeat (first | (with_reducible apply IsMem.alloc) | ((with_reducible refine IsMem.setOther ?_ ?_ ?_ _); rotate_left; (simp; omega); (simp; omega)))
    exact hm)
  have RZ := hide (show W1.rowIs w.heap.size 77 6 zcell from by
    rw [← hW1]
    have := row0 w
    simpa using this)
  have T0 := hide (show Touch w W1 (fun k => k = b ∨ k = bw) from by
    rw [← hW1]
    repeat (first | (with_reducible apply Touch.alloc) | (with_reducible refine Touch.setCell ?_ _ ?side _; case side => simp))
    exact Touch.refl w _)
  have sz : W1.heap.size = w.heap.size + 1 := by rw [← hW1]; simp
  have lW1 : b < W1.heap.size := by omega
  obtain ⟨⟨e0, ef0⟩, ⟨e1, ef1⟩, ⟨e2, ef2⟩, ⟨e3, ef3⟩, ⟨e4, ef4⟩, ⟨e5, ef5⟩, ⟨e6, ef6⟩, ⟨e7, ef7⟩, e8, ef8⟩ := r_facts R.out
  have HX := hide hx
  have HF := hide hf'
  have HW : Hid (0 ≤ (⟨hand, 1, at_, 0, 0, true⟩ : Stp).put ∧ (⟨hand, 1, at_, 0, 0, true⟩ : Stp).put ≤ 18446744073709551615) := ⟨by show (0 : Int) ≤ 0; omega, by show (0 : Int) ≤ 18446744073709551615; omega⟩
  have g1 : wrap64 (at_ + 1) = at_ + 1 := by unfold wrap64; omega
  have a0' : (at_ == 1) = false := by simpa using a0
  have a2' : (x.had != fov) = true := by simpa using a2
  clear hm h hx hf' 
  go_enter Try.func107, Try.ntmps107
  go_wp2_with fail
  clear hW1 c0 fz0 e0 ef0 c1 fz1 e1 ef1 c2 fz2 e2 ef2 c3 fz3 e3 ef3 c4 fz4 e4 ef4 c5 fz5 e5 ef5 c6 fz6 e6 ef6 c7 fz7 e7 ef7 c8 fz8 e8 ef8
  refine (load_any (R.out.cell (i := 0) (by omega)) (by omega) M.out HW.out HX.out HF.out).mono ?_
  rintro e w1 ⟨rfl, hm1, hg1⟩
  simp only [Stp.val]
  have lw1 := hg1.size
  have R1 := hide (show w1.rowIs b 103 9 (rdC hand last st at_ seen ⟨fok, fov⟩ t) from R.out.of_block (hg1.block b (by omega) (by simpa using h2)))
  have RR := hide (show w1.rowIs w.heap.size 77 6 zcell from RZ.out.of_block (hg1.block w.heap.size (by omega) (by simpa using hn4)))
  have M1 := hide hm1
  have T1 := hide (T0.out.trans' (Touch.of_grown hg1) (fun k _ e => .inr (by simpa using e)))
  have l1 : b < w1.heap.size := by omega
  have l2 : w.heap.size < w1.heap.size := by omega
  have l3 : bw < w1.heap.size := by omega
  have l4 : bm < w1.heap.size := by omega
  clear hm1 hg1
  obtain ⟨⟨d0, df0⟩, ⟨d1, df1⟩, ⟨d2, df2⟩, ⟨d3, df3⟩, ⟨d4, df4⟩, ⟨d5, df5⟩, ⟨d6, df6⟩, ⟨d7, df7⟩, d8, df8⟩ := r_facts R1.out
  obtain ⟨⟨r0, rf0⟩, ⟨r1, rf1⟩, ⟨r2, rf2⟩, ⟨r3, rf3⟩, ⟨r4, rf4⟩, r5, rf5⟩ := res_facts RR.out
  obtain ⟨PV, hPV⟩ : ∃ W', w1 = W' := ⟨_, rfl⟩
  have tV : Touch w1 PV (fun k => k = b) := by
    rw [← hPV]
    exact (Touch.refl w1 _)
  have szp : PV.heap.size = w1.heap.size := by rw [← hPV] <;> first | (simp; done) | rfl | (simp; rfl)
  have RP := hide (show PV.rowIs b 103 9 (rdC hand last st at_ seen ⟨fok, fov⟩ t) from by
    rw [← hPV]
    exact R1.out)
  obtain ⟨V, hV⟩ : ∃ W', (w1.alloc (.cells #[.int .i64 x.hand, .int .i64 x.act, .int .i64 x.at_, .int .u64 x.had, .int .u64 x.put, .bool x.ok] 77)) = W' := ⟨_, rfl⟩
  have hV' : PV.alloc (.cells #[.int .i64 x.hand, .int .i64 x.act, .int .i64 x.at_, .int .u64 x.had, .int .u64 x.put, .bool x.ok] 77) = V := by rw [← hPV]; exact hV
  have RV := hide (show V.rowIs b 103 9 (rdC hand last st at_ seen ⟨fok, fov⟩ t) from by rw [← hV']; exact RP.out.alloc _)
  have QV := hide (show V.rowIs w.heap.size 77 6 zcell from by rw [← hV']; exact (RR.out.of_block (tV.block _ (by omega) (by omega))).alloc _)
  have MV := hide (show IsMem V bm bw n f' from by
    rw [← hV']
    exact IsMem.alloc ⟨M1.out.head.of_block (tV.block _ M1.out.head.lt (by omega)), M1.out.row.of_block (tV.block _ M1.out.row.lt (by omega)), M1.out.most, M1.out.word⟩ _)
  have TV := hide (show Touch w V (fun k => k = b ∨ k = bw) from by rw [← hV']; exact (T1.out.trans' tV (fun k _ h => .inl h)).alloc _)
  have SV := hide (show V.rangeAt w1.heap.size 0 [Value.int .i64 x.hand, .int .i64 x.act, .int .i64 x.at_, .int .u64 x.had, .int .u64 x.put, .bool x.ok] from by
    rw [← hV', ← szp]
    exact cell_range (b := 0) (cs := [Value.int .i64 x.hand, .int .i64 x.act, .int .i64 x.at_, .int .u64 x.had, .int .u64 x.put, .bool x.ok]))
  have szV : V.heap.size = w1.heap.size + 1 := by rw [← hV', World.size_alloc, szp]
  clear tV hV' hPV RP szp
  have lbV : b < V.heap.size := by omega
  have lrV : w.heap.size < V.heap.size := by omega
  have lqV : w1.heap.size < V.heap.size := by omega
  obtain ⟨⟨dV0, dfV0⟩, ⟨dV1, dfV1⟩, ⟨dV2, dfV2⟩, ⟨dV3, dfV3⟩, ⟨dV4, dfV4⟩, ⟨dV5, dfV5⟩, ⟨dV6, dfV6⟩, ⟨dV7, dfV7⟩, dV8, dfV8⟩ := r_facts RV.out
  obtain ⟨⟨r0V, rf0V⟩, ⟨r1V, rf1V⟩, ⟨r2V, rf2V⟩, ⟨r3V, rf3V⟩, ⟨r4V, rf4V⟩, r5V, rf5V⟩ := res_facts QV.out
  have s0V : V.cell? ⟨w1.heap.size, 0, none⟩ = some (.int .i64 x.hand) := by have := SV.out 0 _ rfl; simpa using this
  have s1V : V.cell? ⟨w1.heap.size, 1, none⟩ = some (.int .i64 x.act) := by have := SV.out 1 _ rfl; simpa using this
  have s2V : V.cell? ⟨w1.heap.size, 2, none⟩ = some (.int .i64 x.at_) := by have := SV.out 2 _ rfl; simpa using this
  have s3V : V.cell? ⟨w1.heap.size, 3, none⟩ = some (.int .u64 x.had) := by have := SV.out 3 _ rfl; simpa using this
  have s4V : V.cell? ⟨w1.heap.size, 4, none⟩ = some (.int .u64 x.put) := by have := SV.out 4 _ rfl; simpa using this
  have s5V : V.cell? ⟨w1.heap.size, 5, none⟩ = some (.bool x.ok) := by have := SV.out 5 _ rfl; simpa using this
  go_wp2_with fail
  clear hV d0 df0 d1 df1 d2 df2 d3 df3 d4 df4 d5 df5 d6 df6 d7 df7 d8 df8 r0 rf0 r1 rf1 r2 rf2 r3 rf3 r4 rf4 r5 rf5
  go_quiet (fail)
  obtain ⟨U, hU⟩ : ∃ W', (((V.drewN nq).setCell ⟨b, 5, none⟩ (.bool false)).setCell ⟨b, 3, none⟩ (.int .i64 (at_ + 1))) = W' := ⟨_, rfl⟩
  have tU : Touch V U (fun k => k = b) := by
    rw [← hU]
    exact Touch.trans' (S' := fun k => k = b) (⟨rfl, rfl, rfl, Nat.le_refl _, fun _ _ _ => rfl⟩ : Touch V (V.drewN nq) (fun k => k = b)) (Touch.setCell (S := fun k => k = b) (Touch.setCell (S := fun k => k = b) (Touch.refl (V.drewN nq) _) ⟨b, 5, none⟩ (.inl rfl) _) ⟨b, 3, none⟩ (.inl rfl) _) (fun k _ h => h)
  have RU := hide (show U.rowIs b 103 9 (rdC hand last st (at_ + 1) seen ⟨false, fov⟩ t) from by
    rw [← hU]
    exact World.rowIs.congr (World.rowIs.set (World.rowIs.set (show World.rowIs (V.drewN nq) b 103 9 _ from RV.out.of_block rfl) 5 _) 3 _) (fun i hi => r_no hand last st at_ seen fov fok t (at_ + 1) i hi))
  have QU := hide (QV.out.of_block (tU.block _ (by omega) (by omega)))
  have MU := hide (show IsMem U bm bw n f' from ⟨MV.out.head.of_block (tU.block _ MV.out.head.lt (by omega)), MV.out.row.of_block (tU.block _ MV.out.row.lt (by omega)), MV.out.most, MV.out.word⟩)
  have TU := hide (show Touch w U (fun k => k = b ∨ k = bw) from TV.out.trans' tU (fun k _ h => .inl h))
  have SU := hide (rangeAt_block SV.out (tU.block w1.heap.size (by omega) (by omega)))
  have szU : U.heap.size = V.heap.size := by rw [← hU] <;> first | (simp; done) | rfl | (simp; rfl)
  clear tU 
  have lbU : b < U.heap.size := by omega
  have lrU : w.heap.size < U.heap.size := by omega
  have lqU : w1.heap.size < U.heap.size := by omega
  obtain ⟨⟨dU0, dfU0⟩, ⟨dU1, dfU1⟩, ⟨dU2, dfU2⟩, ⟨dU3, dfU3⟩, ⟨dU4, dfU4⟩, ⟨dU5, dfU5⟩, ⟨dU6, dfU6⟩, ⟨dU7, dfU7⟩, dU8, dfU8⟩ := r_facts RU.out
  obtain ⟨⟨r0U, rf0U⟩, ⟨r1U, rf1U⟩, ⟨r2U, rf2U⟩, ⟨r3U, rf3U⟩, ⟨r4U, rf4U⟩, r5U, rf5U⟩ := res_facts QU.out
  have s0U : U.cell? ⟨w1.heap.size, 0, none⟩ = some (.int .i64 x.hand) := by have := SU.out 0 _ rfl; simpa using this
  have s1U : U.cell? ⟨w1.heap.size, 1, none⟩ = some (.int .i64 x.act) := by have := SU.out 1 _ rfl; simpa using this
  have s2U : U.cell? ⟨w1.heap.size, 2, none⟩ = some (.int .i64 x.at_) := by have := SU.out 2 _ rfl; simpa using this
  have s3U : U.cell? ⟨w1.heap.size, 3, none⟩ = some (.int .u64 x.had) := by have := SU.out 3 _ rfl; simpa using this
  have s4U : U.cell? ⟨w1.heap.size, 4, none⟩ = some (.int .u64 x.put) := by have := SU.out 4 _ rfl; simpa using this
  have s5U : U.cell? ⟨w1.heap.size, 5, none⟩ = some (.bool x.ok) := by have := SU.out 5 _ rfl; simpa using this
  go_wp2_with fail
  clear hU dV0 dfV0 dV1 dfV1 dV2 dfV2 dV3 dfV3 dV4 dfV4 dV5 dfV5 dV6 dfV6 dV7 dfV7 dV8 dfV8 r0V rf0V s0V r1V rf1V s1V r2V rf2V s2V r3V rf3V s3V r4V rf4V s4V r5V rf5V s5V
  go_quiet (fail)
  go_wp2_with fail
  go_light
  have RN := hide (show (U.drewN nq).rowIs b 103 9 (rdC hand last st (at_ + 1) seen ⟨false, fov⟩ t) from RU.out.of_block rfl)
  have MN := hide (show IsMem (U.drewN nq) bm bw n f' from ⟨MU.out.head.of_block rfl, MU.out.row.of_block rfl, MU.out.most, MU.out.word⟩)
  have TN := hide (show Touch w (U.drewN nq) (fun k => k = b ∨ k = bw) from TU.out.trans' (S' := fun _ => False) ⟨rfl, rfl, rfl, Nat.le_refl _, fun _ _ _ => rfl⟩ (fun _ _ h => h.elim))
  refine bodyPost_ret (v := x.val) ?res rfl ⟨rfl, ?row, ?mem, ?tch⟩
  case row =>
    refine World.rowIs.congr ?_ (fun i hi => r_st hand last st (at_ + 1) seen fov false t 3 i hi)
    repeat (first | (with_reducible apply World.rowIs.alloc) | (with_reducible apply World.rowIs.drew) | (with_reducible refine World.rowIs.setOther ?_ ?side _; case side => (simp; omega)))
    with_reducible refine World.rowIs.set ?_ 2 _
    repeat (first | (with_reducible apply World.rowIs.alloc) | (with_reducible apply World.rowIs.drew) | (with_reducible refine World.rowIs.setOther ?_ ?side _; case side => (simp; omega)))
    with_reducible exact RN.out
  case mem =>
    repeat (first | (with_reducible apply IsMem.alloc) | (with_reducible apply IsMem.drew) | ((with_reducible refine IsMem.setOther ?_ ?_ ?_ _); rotate_left; (simp; omega); (simp; omega)))
    with_reducible exact MN.out
  case tch =>
    repeat (first | (with_reducible apply Touch.alloc) | (with_reducible apply Touch.drew) | (with_reducible refine Touch.setCell ?_ _ ?side _; case side => (first | (simp; done) | (simp; omega))))
    with_reducible exact TN.out
  case res => simp [results, Try.results107, go_sem, Stp.val, *]

end Seq
end Go.Proofs.Ytkiojiibppdjjaa
