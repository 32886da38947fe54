/-
  Lemmas: EpochD.
-/
import Derived.Test.YtbohmahjpolapaaTp21
/-
  The tasks of an epoch: a Reap: its looks, its asking, the next place.
-/
namespace Go.Proofs.Ytbohmahjpolapaa
open Go.RowKit
set_option linter.unusedVariables false
set_option linter.unusedSimpArgs false
set_option maxRecDepth 20000
namespace Epoch

set_option maxHeartbeats 4000000 in
theorem p_look_any {w : World} {b bm bw n : Nat} {f f' : Nat → Int} {x : Stp} {hand room st nx seen given mask : Int} {t : Ans} (h : w.rowIs b 120 9 (rpC hand room st nx seen given mask t)) (hm : IsMem w bm bw n f) (h1 : b ≠ bm) (h2 : b ≠ bw) {th : Int} 
    (hx : stepOf n f ⟨hand, 1, 0, 0, 0, true⟩ = x) (hf' : wordsOf n f ⟨hand, 1, 0, 0, 0, true⟩ = f') :
    Calls Try.prog 119 #[.pointer (some ⟨b, 0, none⟩), .pointer (some ⟨bm, 0, none⟩), .int .i64 th] w fun e w' => e = .returned x.val ∧
      w'.rowIs b 120 9 (rpC hand room th 0 x.had given mask t) ∧ IsMem w' bm bw n f' ∧ Touch w w' (fun k => k = b ∨ k = bw) := by
  obtain ⟨⟨c0, fz0⟩, ⟨c1, fz1⟩, ⟨c2, fz2⟩, ⟨c3, fz3⟩, ⟨c4, fz4⟩, ⟨c5, fz5⟩, ⟨c6, fz6⟩, ⟨c7, fz7⟩, c8, fz8⟩ := p_facts h
  have hl := h.lt
  have lw := hm.row.lt
  have lm := hm.head.lt
  have hn3 : w.heap.size ≠ b := by omega
  have hn4 : w.heap.size ≠ bw := by omega
  have hn5 : w.heap.size ≠ bm := by omega
  obtain ⟨W1, hW1⟩ : ∃ W1, (w.alloc (.cells #[.int .i64 0, .int .i64 0, .int .i64 0, .int .u64 0, .int .u64 0, .bool false] 47)) = W1 := ⟨_, rfl⟩
  have R := hide (show W1.rowIs b 120 9 (rpC hand room st nx seen given mask t) from by
    rw [← hW1]
    skip
    repeat (first | (with_reducible refine World.rowIs.set ?_ _ _) | (with_reducible apply World.rowIs.alloc))
    exact h)
  have M := hide (show IsMem W1 bm bw n f from by
    rw [← hW1]
    repeat (first | (with_reducible apply IsMem.alloc) | ((with_reducible refine IsMem.setOther ?_ ?_ ?_ _); rotate_left; (simp; omega); (simp; omega)))
    exact hm)
  have RZ := hide (show W1.rowIs w.heap.size 47 6 zcell from by
    rw [← hW1]
    have := row0 w
    simpa using this)
  have T0 := hide (show Touch w W1 (fun k => k = b ∨ k = bw) from by
    rw [← hW1]
    repeat (first | (with_reducible apply Touch.alloc) | (with_reducible refine Touch.setCell ?_ _ ?side _; case side => simp))
    exact Touch.refl w _)
  have sz : W1.heap.size = w.heap.size + 1 := by rw [← hW1]; simp
  have lW1 : b < W1.heap.size := by omega
  obtain ⟨⟨e0, ef0⟩, ⟨e1, ef1⟩, ⟨e2, ef2⟩, ⟨e3, ef3⟩, ⟨e4, ef4⟩, ⟨e5, ef5⟩, ⟨e6, ef6⟩, ⟨e7, ef7⟩, e8, ef8⟩ := p_facts R.out
  have HX := hide hx
  have HF := hide hf'
  have HW : Hid (0 ≤ (⟨hand, 1, 0, 0, 0, true⟩ : Stp).put ∧ (⟨hand, 1, 0, 0, 0, true⟩ : Stp).put ≤ 18446744073709551615) := ⟨by show (0 : Int) ≤ 0; omega, by show (0 : Int) ≤ 18446744073709551615; omega⟩
  clear hm h hx hf' 
  go_enter Try.func119, Try.ntmps119
  go_wp2_with fail
  clear hW1 c0 fz0 e0 ef0 c1 fz1 e1 ef1 c2 fz2 e2 ef2 c3 fz3 e3 ef3 c4 fz4 e4 ef4 c5 fz5 e5 ef5 c6 fz6 e6 ef6 c7 fz7 e7 ef7 c8 fz8 e8 ef8
  refine (load_any (R.out.cell (i := 0) (by omega)) (by omega) M.out HW.out HX.out HF.out).mono ?_
  rintro e w1 ⟨rfl, hm1, hg1⟩
  simp only [Stp.val]
  have lw1 := hg1.size
  have R1 := hide (show w1.rowIs b 120 9 (rpC hand room st nx seen given mask t) from R.out.of_block (hg1.block b (by omega) (by simpa using h2)))
  have RR := hide (show w1.rowIs w.heap.size 47 6 zcell from RZ.out.of_block (hg1.block w.heap.size (by omega) (by simpa using hn4)))
  have M1 := hide hm1
  have T1 := hide (T0.out.trans' (Touch.of_grown hg1) (fun k _ e => .inr (by simpa using e)))
  have l1 : b < w1.heap.size := by omega
  have l2 : w.heap.size < w1.heap.size := by omega
  have l3 : bw < w1.heap.size := by omega
  have l4 : bm < w1.heap.size := by omega
  clear hm1 hg1
  obtain ⟨⟨d0, df0⟩, ⟨d1, df1⟩, ⟨d2, df2⟩, ⟨d3, df3⟩, ⟨d4, df4⟩, ⟨d5, df5⟩, ⟨d6, df6⟩, ⟨d7, df7⟩, d8, df8⟩ := p_facts R1.out
  obtain ⟨⟨r0, rf0⟩, ⟨r1, rf1⟩, ⟨r2, rf2⟩, ⟨r3, rf3⟩, ⟨r4, rf4⟩, r5, rf5⟩ := res_facts RR.out
  go_wp2_with fail
  go_light
  refine bodyPost_ret (v := x.val) ?res rfl ⟨rfl, ?row, ?mem, ?tch⟩
  case row =>
    refine World.rowIs.congr ?_ (fun i hi => p_look hand room st nx seen given mask t x.had 0 th i hi)
    repeat (first | (with_reducible apply World.rowIs.alloc) | (with_reducible apply World.rowIs.drew) | (with_reducible refine World.rowIs.setOther ?_ ?side _; case side => (simp; omega)))
    with_reducible refine World.rowIs.set ?_ 4 _
    repeat (first | (with_reducible apply World.rowIs.alloc) | (with_reducible apply World.rowIs.drew) | (with_reducible refine World.rowIs.setOther ?_ ?side _; case side => (simp; omega)))
    with_reducible refine World.rowIs.set ?_ 5 _
    repeat (first | (with_reducible apply World.rowIs.alloc) | (with_reducible apply World.rowIs.drew) | (with_reducible refine World.rowIs.setOther ?_ ?side _; case side => (simp; omega)))
    with_reducible refine World.rowIs.set ?_ 6 _
    repeat (first | (with_reducible apply World.rowIs.alloc) | (with_reducible apply World.rowIs.drew) | (with_reducible refine World.rowIs.setOther ?_ ?side _; case side => (simp; omega)))
    with_reducible exact R1.out
  case mem =>
    repeat (first | (with_reducible apply IsMem.alloc) | (with_reducible apply IsMem.drew) | ((with_reducible refine IsMem.setOther ?_ ?_ ?_ _); rotate_left; (simp; omega); (simp; omega)))
    with_reducible exact M1.out
  case tch =>
    repeat (first | (with_reducible apply Touch.alloc) | (with_reducible apply Touch.drew) | (with_reducible refine Touch.setCell ?_ _ ?side _; case side => (first | (simp; done) | (simp; omega))))
    with_reducible exact T1.out
  case res => simp [results, Try.results119, go_sem, Stp.val, *]

set_option maxHeartbeats 4000000 in
theorem goon_more {w : World} {b : Nat} {hand room st nx seen given mask : Int} {t : Ans} (h : w.rowIs b 120 9 (rpC hand room st nx seen given mask t)) (hn : 0 ≤ nx ∧ nx ≤ 64) (a1 : nx + 1 < room) :
    Calls Try.prog 118 #[.pointer (some ⟨b, 0, none⟩)] w fun e w' => e = .returned (.int .i64 0) ∧ w'.rowIs b 120 9 (rpC hand room st (nx + 1) seen given mask t) ∧ Touch w w' (fun k => k = b) := by
  have g1 : wrap64 (nx + 1) = nx + 1 := by unfold wrap64; omega
  obtain ⟨⟨c0, fz0⟩, ⟨c1, fz1⟩, ⟨c2, fz2⟩, ⟨c3, fz3⟩, ⟨c4, fz4⟩, ⟨c5, fz5⟩, ⟨c6, fz6⟩, ⟨c7, fz7⟩, c8, fz8⟩ := p_facts h
  have hl := h.lt
  obtain ⟨V, hV⟩ : ∃ V, w.setCell ⟨b, 5, none⟩ (.int .i64 (nx + 1)) = V := ⟨_, rfl⟩
  have RV := hide (show V.rowIs b 120 9 (rpC hand room st (nx + 1) seen given mask t) from by
    rw [← hV]
    exact World.rowIs.congr (World.rowIs.set h 5 _) (fun i hi => p_nx hand room st nx seen given mask t (nx + 1) i hi))
  have TV := hide (show Touch w V (fun k => k = b) from by rw [← hV]; exact Touch.setCell (S := fun k => k = b) (Touch.refl w _) ⟨b, 5, none⟩ (.inl rfl) _)
  have lV : b < V.heap.size := by rw [← hV]; simpa using hl
  obtain ⟨⟨d0, df0⟩, ⟨d1, df1⟩, ⟨d2, df2⟩, ⟨d3, df3⟩, ⟨d4, df4⟩, ⟨d5, df5⟩, ⟨d6, df6⟩, ⟨d7, df7⟩, d8, df8⟩ := p_facts RV.out
  clear h hn
  go_enter Try.func118, Try.ntmps118
  go_wp2_with fail
  clear hV c0 fz0 c1 fz1 c2 fz2 c3 fz3 c4 fz4 c5 fz5 c6 fz6 c7 fz7 c8 fz8
  go_quiet (fail)
  go_wp2_with fail
  go_ret
  refine ⟨rfl, ?_, ?_⟩
  · exact RV.out.of_block rfl
  · exact TV.out.trans' (S' := fun _ => False) ⟨rfl, rfl, rfl, Nat.le_refl _, fun _ _ _ => rfl⟩ (fun _ _ h => h.elim)

set_option maxHeartbeats 4000000 in
theorem goon_end {w : World} {b : Nat} {hand room st nx seen given mask : Int} {t : Ans} (h : w.rowIs b 120 9 (rpC hand room st nx seen given mask t)) (hn : 0 ≤ nx ∧ nx ≤ 64) (a1 : ¬ nx + 1 < room) :
    Calls Try.prog 118 #[.pointer (some ⟨b, 0, none⟩)] w fun e w' => e = .returned (.int .i64 1) ∧ w'.rowIs b 120 9 (rpC hand room st (nx + 1) seen given mask ⟨true, mask⟩) ∧ Touch w w' (fun k => k = b) := by
  have g1 : wrap64 (nx + 1) = nx + 1 := by unfold wrap64; omega
  obtain ⟨⟨c0, fz0⟩, ⟨c1, fz1⟩, ⟨c2, fz2⟩, ⟨c3, fz3⟩, ⟨c4, fz4⟩, ⟨c5, fz5⟩, ⟨c6, fz6⟩, ⟨c7, fz7⟩, c8, fz8⟩ := p_facts h
  have hl := h.lt
  obtain ⟨V, hV⟩ : ∃ V, w.setCell ⟨b, 5, none⟩ (.int .i64 (nx + 1)) = V := ⟨_, rfl⟩
  have RV := hide (show V.rowIs b 120 9 (rpC hand room st (nx + 1) seen given mask t) from by
    rw [← hV]
    exact World.rowIs.congr (World.rowIs.set h 5 _) (fun i hi => p_nx hand room st nx seen given mask t (nx + 1) i hi))
  have TV := hide (show Touch w V (fun k => k = b) from by rw [← hV]; exact Touch.setCell (S := fun k => k = b) (Touch.refl w _) ⟨b, 5, none⟩ (.inl rfl) _)
  have lV : b < V.heap.size := by rw [← hV]; simpa using hl
  obtain ⟨⟨d0, df0⟩, ⟨d1, df1⟩, ⟨d2, df2⟩, ⟨d3, df3⟩, ⟨d4, df4⟩, ⟨d5, df5⟩, ⟨d6, df6⟩, ⟨d7, df7⟩, d8, df8⟩ := p_facts RV.out
  clear h hn
  go_enter Try.func118, Try.ntmps118
  go_wp2_with fail
  clear hV c0 fz0 c1 fz1 c2 fz2 c3 fz3 c4 fz4 c5 fz5 c6 fz6 c7 fz7 c8 fz8
  go_quiet (fail)
  go_wp2_with fail
  go_ret
  refine ⟨rfl, ?_, ?_⟩
  · exact World.rowIs.congr (World.rowIs.set (World.rowIs.set (show World.rowIs (V.drewN nq) b 120 9 (rpC hand room st (nx + 1) seen given mask t) from RV.out.of_block rfl) 1 _) 2 _) (fun i hi => p_told hand room st (nx + 1) seen given mask t mask i hi)
  · refine Touch.setCell (S := fun k => k = b) (Touch.setCell (S := fun k => k = b) ?_ ⟨b, 1, none⟩ (.inl rfl) _) ⟨b, 2, none⟩ (.inl rfl) _
    exact TV.out.trans' (S' := fun _ => False) ⟨rfl, rfl, rfl, Nat.le_refl _, fun _ _ _ => rfl⟩ (fun _ _ h => h.elim)

end Epoch
end Go.Proofs.Ytbohmahjpolapaa
