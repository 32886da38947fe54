/-
  Lemmas: DealD.
-/
import Derived.Test.YtdgolkdedghajaaTq25
/-
  The tasks of a deal: a Draw.
-/
namespace Go.Proofs.Ytdgolkdedghajaa
open Go.RowKit
set_option linter.unusedVariables false
set_option linter.unusedSimpArgs false
set_option maxRecDepth 20000
namespace Deal

set_option maxHeartbeats 4000000 in
theorem d_begin {w : World} {b bm bw n : Nat} {f f' : Nat → Int} {x : Stp} {hand room st fst en val : Int} {t : Ans} (h : w.rowIs b 89 8 (mvC hand room st fst en val t)) (hm : IsMem w bm bw n f) (h1 : b ≠ bm) (h2 : b ≠ bw) {e1 : Int} (he1 : u64 (x.had - 1) = e1) 
    (hx : stepOf n f ⟨hand, 1, 1, 0, 0, true⟩ = x) (hf' : wordsOf n f ⟨hand, 1, 1, 0, 0, true⟩ = f') :
    Calls Try.prog 117 #[.pointer (some ⟨b, 0, none⟩), .pointer (some ⟨bm, 0, none⟩)] w fun e w' => e = .returned (.tuple #[x.val, .int .i64 0]) ∧
      w'.rowIs b 89 8 (mvC hand room 1 fst e1 val t) ∧ IsMem w' bm bw n f' ∧ Touch w w' (fun k => k = b ∨ k = bw) := by
  obtain ⟨⟨c0, fz0⟩, ⟨c1, fz1⟩, ⟨c2, fz2⟩, ⟨c3, fz3⟩, ⟨c4, fz4⟩, ⟨c5, fz5⟩, ⟨c6, fz6⟩, c7, fz7⟩ := mv_facts h
  have hl := h.lt
  have lw := hm.row.lt
  have lm := hm.head.lt
  have hn3 : w.heap.size ≠ b := by omega
  have hn4 : w.heap.size ≠ bw := by omega
  have hn5 : w.heap.size ≠ bm := by omega
  obtain ⟨W1, hW1⟩ : ∃ W1, (w.alloc (.cells #[.int .i64 0, .int .i64 0, .int .i64 0, .int .u64 0, .int .u64 0, .bool false] 55)) = W1 := ⟨_, rfl⟩
  have R := hide (show W1.rowIs b 89 8 (mvC hand room st fst en val t) from by
    rw [← hW1]
    skip
    repeat (first | (with_reducible refine World.rowIs.set ?_ _ _) | (with_reducible apply World.rowIs.alloc))
    exact h)
  have M := hide (show IsMem W1 bm bw n f from by
    rw [← hW1]
    repeat (first | (with_reducible apply IsMem.alloc) | ((with_reducible refine IsMem.setOther ?_ ?_ ?_ _); rotate_left; (simp; omega); (simp; omega)))
    exact hm)
  have RZ := hide (show W1.rowIs w.heap.size 55 6 zcell from by
    rw [← hW1]
    repeat (with_reducible refine World.rowIs.setOther ?_ ?side _; case side => (simp; omega))
    exact row0 w)
  have T0 := hide (show Touch w W1 (fun k => k = b ∨ k = bw) from by
    rw [← hW1]
    repeat (first | (with_reducible apply Touch.alloc) | (with_reducible refine Touch.setCell ?_ _ ?side _; case side => simp))
    exact Touch.refl w _)
  have sz : W1.heap.size = w.heap.size + 1 := by rw [← hW1]; simp
  have HX := hide hx
  have HF := hide hf'
  have HW : Hid (0 ≤ (⟨hand, 1, 1, 0, 0, true⟩ : Stp).put ∧ (⟨hand, 1, 1, 0, 0, true⟩ : Stp).put ≤ 18446744073709551615) := ⟨by show (0 : Int) ≤ 0; omega, by show (0 : Int) ≤ 18446744073709551615; omega⟩
  have g1 := wrap_u64' (x.had - 1)
  rw [he1] at g1
  clear hm h hx hf' he1
  go_enter Try.func117, Try.ntmps117
  go_wp2_with fail
  clear hW1 c0 fz0 c1 fz1 c2 fz2 c3 fz3 c4 fz4 c5 fz5 c6 fz6 c7 fz7
  refine (load_any (R.out.cell (i := 0) (by omega)) (by omega) M.out HW.out HX.out HF.out).mono ?_
  rintro e w1 ⟨rfl, hm1, hg1⟩
  simp only [Stp.val]
  have lw1 := hg1.size
  have R1 := hide (show w1.rowIs b 89 8 (mvC hand room st fst en val t) from R.out.of_block (hg1.block b (by omega) (by simpa using h2)))
  have RR := hide (show w1.rowIs w.heap.size 55 6 zcell from RZ.out.of_block (hg1.block w.heap.size (by omega) (by simpa using hn4)))
  have M1 := hide hm1
  have T1 := hide (T0.out.trans' (Touch.of_grown hg1) (fun k _ e => .inr (by simpa using e)))
  have l1 : b < w1.heap.size := by omega
  have l2 : w.heap.size < w1.heap.size := by omega
  have l3 : bw < w1.heap.size := by omega
  have l4 : bm < w1.heap.size := by omega
  clear hm1 hg1
  obtain ⟨⟨d0, df0⟩, ⟨d1, df1⟩, ⟨d2, df2⟩, ⟨d3, df3⟩, ⟨d4, df4⟩, ⟨d5, df5⟩, ⟨d6, df6⟩, d7, df7⟩ := mv_facts R1.out
  obtain ⟨⟨r0, rf0⟩, ⟨r1, rf1⟩, ⟨r2, rf2⟩, ⟨r3, rf3⟩, ⟨r4, rf4⟩, r5, rf5⟩ := res_facts RR.out
  go_wp2_with fail
  go_light
  refine bodyPost_ret (v := .tuple #[x.val, .int .i64 0]) ?res rfl ⟨rfl, ?row, ?mem, ?tch⟩
  case row =>
    refine World.rowIs.congr ?_ (fun i hi => mv_en hand room st fst en val t 1 e1 i hi)
    repeat (first | (with_reducible apply World.rowIs.alloc) | (with_reducible apply World.rowIs.drew) | (with_reducible refine World.rowIs.setOther ?_ ?side _; case side => (simp; omega)))
    with_reducible refine World.rowIs.set ?_ 2 _
    repeat (first | (with_reducible apply World.rowIs.alloc) | (with_reducible apply World.rowIs.drew) | (with_reducible refine World.rowIs.setOther ?_ ?side _; case side => (simp; omega)))
    with_reducible refine World.rowIs.set ?_ 4 _
    repeat (first | (with_reducible apply World.rowIs.alloc) | (with_reducible apply World.rowIs.drew) | (with_reducible refine World.rowIs.setOther ?_ ?side _; case side => (simp; omega)))
    with_reducible exact R1.out
  case mem =>
    repeat (first | (with_reducible apply IsMem.alloc) | (with_reducible apply IsMem.drew) | ((with_reducible refine IsMem.setOther ?_ ?_ ?_ _); rotate_left; (simp; omega); (simp; omega)))
    with_reducible exact M1.out
  case tch =>
    repeat (first | (with_reducible apply Touch.alloc) | (with_reducible apply Touch.drew) | (with_reducible refine Touch.setCell ?_ _ ?side _; case side => (first | (simp; done) | (simp; omega))))
    with_reducible exact T1.out
  case res => simp [results, Try.results117, go_sem, Stp.val, *]

set_option maxHeartbeats 4000000 in
theorem d_lessen {w : World} {b bm bw n : Nat} {f f' : Nat → Int} {x : Stp} {hand room st fst en val : Int} {t : Ans} (h : w.rowIs b 89 8 (mvC hand room st fst en val t)) (hm : IsMem w bm bw n f) (h1 : b ≠ bm) (h2 : b ≠ bw) (hv : 0 ≤ en ∧ en ≤ 18446744073709551615) 
    (hx : stepOf n f ⟨hand, 2, 1, 0, en, true⟩ = x) (hf' : wordsOf n f ⟨hand, 2, 1, 0, en, true⟩ = f') :
    Calls Try.prog 118 #[.pointer (some ⟨b, 0, none⟩), .pointer (some ⟨bm, 0, none⟩)] w fun e w' => e = .returned (.tuple #[x.val, .int .i64 0]) ∧
      w'.rowIs b 89 8 (mvC hand room 2 fst en val t) ∧ IsMem w' bm bw n f' ∧ Touch w w' (fun k => k = b ∨ k = bw) := by
  obtain ⟨⟨c0, fz0⟩, ⟨c1, fz1⟩, ⟨c2, fz2⟩, ⟨c3, fz3⟩, ⟨c4, fz4⟩, ⟨c5, fz5⟩, ⟨c6, fz6⟩, c7, fz7⟩ := mv_facts h
  have hl := h.lt
  have lw := hm.row.lt
  have lm := hm.head.lt
  have hn3 : w.heap.size ≠ b := by omega
  have hn4 : w.heap.size ≠ bw := by omega
  have hn5 : w.heap.size ≠ bm := by omega
  obtain ⟨W1, hW1⟩ : ∃ W1, ((w.alloc (.cells #[.int .i64 0, .int .i64 0, .int .i64 0, .int .u64 0, .int .u64 0, .bool false] 55)).setCell ⟨b, 2, none⟩ (.int .i64 2)) = W1 := ⟨_, rfl⟩
  have R := hide (show W1.rowIs b 89 8 (mvC hand room 2 fst en val t) from by
    rw [← hW1]
    refine World.rowIs.congr ?_ (fun i hi => mv_st hand room st fst en val t 2 i hi)
    repeat (first | (with_reducible refine World.rowIs.set ?_ _ _) | (with_reducible apply World.rowIs.alloc))
    exact h)
  have M := hide (show IsMem W1 bm bw n f from by
    rw [← hW1]
    repeat (first | (with_reducible apply IsMem.alloc) | ((with_reducible refine IsMem.setOther ?_ ?_ ?_ _); rotate_left; (simp; omega); (simp; omega)))
    exact hm)
  have RZ := hide (show W1.rowIs w.heap.size 55 6 zcell from by
    rw [← hW1]
    repeat (with_reducible refine World.rowIs.setOther ?_ ?side _; case side => (simp; omega))
    exact row0 w)
  have T0 := hide (show Touch w W1 (fun k => k = b ∨ k = bw) from by
    rw [← hW1]
    repeat (first | (with_reducible apply Touch.alloc) | (with_reducible refine Touch.setCell ?_ _ ?side _; case side => simp))
    exact Touch.refl w _)
  have sz : W1.heap.size = w.heap.size + 1 := by rw [← hW1]; simp
  have HX := hide hx
  have HF := hide hf'
  have HW : Hid (0 ≤ (⟨hand, 2, 1, 0, en, true⟩ : Stp).put ∧ (⟨hand, 2, 1, 0, en, true⟩ : Stp).put ≤ 18446744073709551615) := hide hv
  clear hm h hx hf' hv
  go_enter Try.func118, Try.ntmps118
  go_wp2_with fail
  clear hW1 c0 fz0 c1 fz1 c2 fz2 c3 fz3 c4 fz4 c5 fz5 c6 fz6 c7 fz7
  obtain ⟨dS, hdS1, hdS2⟩ := row46
  have HD := hide (And.intro hdS1 hdS2)
  clear hdS1 hdS2
  refine RG.region (ks := [(0, 10), (1, 11), (2, 12), (3, 13), (4, 14), (5, 15), (6, 16), (7, 17), (8, 18), (9, 19), (11, 5)]) (vals := fun i => match i with
      | 0 => .pointer (some ⟨b, 0, none⟩)
      | 1 => .pointer (some ⟨b, 0, none⟩)
      | 2 => .pointer (some ⟨b, 0, none⟩)
      | 3 => .pointer (some ⟨bm, 0, none⟩)
      | 4 => .pointer (some ⟨b, 0, none⟩)
      | 5 => .pointer (some ⟨b, 0, none⟩)
      | 6 => .pointer (some ⟨b, 0, none⟩)
      | 7 => .pointer (some ⟨b, 4, none⟩)
      | 8 => .int .u64 en
      | 9 => .agg #[.int .i64 x.hand, .int .i64 x.act, .int .i64 x.at_, .int .u64 x.had, .int .u64 x.put, .bool x.ok]
      | 11 => .int .i64 0
      | _ => undef) (x := 2) (WI := fun L v w' => RG.SR b 89 8 (mvC hand room 2 fst en val t) bm bw n f f' x w.heap.size W1 (L 9) (L 10) w') (by kernel_rfl) ?gg ?bk rfl ?dd ?xx (RG.SR.start R.out M.out RZ.out) ?does ?fin
  case gg =>
    intro i o ho
    have hi : i < 12 := by have := (Array.getElem?_eq_some_iff.1 ho).1; simpa using this
    match i, hi with
    | 0, _ | 1, _ | 2, _ | 3, _ | 4, _ | 5, _ | 6, _ | 7, _ | 8, _ | 9, _ | 10, _ | 11, _ => injection ho with ho; subst ho; rfl
  case bk =>
    intro i o ho
    have hi : i < 12 := by have := (Array.getElem?_eq_some_iff.1 ho).1; simpa using this
    match i, hi with
    | 0, _ | 1, _ | 2, _ | 3, _ | 4, _ | 5, _ | 6, _ | 7, _ | 8, _ | 9, _ | 10, _ | 11, _ => injection ho with ho; subst ho; simp [Region.binds]
  case dd =>
    intro k hk
    have hk' : k < 20 := by
      simp [RetN.D] at hk
      omega
    simpa using hk'
  case xx => simp
  case does =>
    intro i o ho
    have hi : i < 12 := by have := (Array.getElem?_eq_some_iff.1 ho).1; simpa using this
    match i, hi with
    | 0, _ => injection ho with ho; subst ho; exact RG.Does.read rfl (fun L v w' h => RG.SR.skip (by decide) (by decide) h) (fun L a w' hI hd => ex_move rfl (hI.fix 0 (Reg.notD rfl) (by decide)))
    | 1, _ => injection ho with ho; subst ho; exact RG.Does.read rfl (fun L v w' h => RG.SR.skip (by decide) (by decide) h) (fun L a w' hI hd => ex_nil rfl (hI.pure 0 _ _ rfl (hd ⟨0, .data⟩ (by simp) rfl)))
    | 2, _ => injection ho with ho; subst ho; exact RG.Does.read rfl (fun L v w' h => RG.SR.skip (by decide) (by decide) h) (fun L a w' hI hd => ex_field rfl (hI.pure 1 _ _ rfl (hd ⟨1, .data⟩ (by simp) rfl)) (fieldTd w' _))
    | 3, _ => injection ho with ho; subst ho; exact RG.Does.read rfl (fun L v w' h => RG.SR.skip (by decide) (by decide) h) (fun L a w' hI hd => ex_move rfl (hI.fix 1 (Reg.notD rfl) (by decide)))
    | 4, _ => injection ho with ho; subst ho; exact RG.Does.read rfl (fun L v w' h => RG.SR.skip (by decide) (by decide) h) (fun L a w' hI hd => ex_move rfl (hI.fix 0 (Reg.notD rfl) (by decide)))
    | 5, _ => injection ho with ho; subst ho; exact RG.Does.read rfl (fun L v w' h => RG.SR.skip (by decide) (by decide) h) (fun L a w' hI hd => ex_nil rfl (hI.pure 4 _ _ rfl (hd ⟨4, .data⟩ (by simp) rfl)))
    | 6, _ => injection ho with ho; subst ho; exact RG.Does.read rfl (fun L v w' h => RG.SR.skip (by decide) (by decide) h) (fun L a w' hI hd => ex_field rfl (hI.pure 5 _ _ rfl (hd ⟨5, .data⟩ (by simp) rfl)) (fieldTd w' _))
    | 7, _ => injection ho with ho; subst ho; exact RG.Does.read rfl (fun L v w' h => RG.SR.skip (by decide) (by decide) h) (fun L a w' hI hd => ex_field rfl (hI.pure 6 _ _ rfl (hd ⟨6, .data⟩ (by simp) rfl)) (fieldM4 w' _))
    | 8, _ => injection ho with ho; subst ho; exact RG.Does.read rfl (fun L v w' h => RG.SR.skip (by decide) (by decide) h) (fun L a w' hI hd => ex_load rfl (hI.pure 7 _ _ rfl (hd ⟨7, .data⟩ (by simp) rfl)) (aggU w') (hI.world.row.cell (i := 4) (by omega)))
    | 9, _ => injection ho with ho; subst ho; exact RG.Does.call rfl (fun L a w' hI hd => call4 rfl (hI.pure 2 _ _ rfl (hd ⟨2, .data⟩ (by simp) rfl)) (hI.pure 3 _ _ rfl (hd ⟨3, .data⟩ (by simp) rfl)) rfl (hI.pure 8 _ _ rfl (hd ⟨8, .data⟩ (by simp) rfl)) rfl (callStore _ _)) (SRcalls h2 hn4 (by decide) ((fun w h hm => store_any (h.cell (i := 0) (by omega)) h.lt hm HW.out HX.out HF.out)))
    | 10, _ => injection ho with ho; subst ho; exact RG.Does.put (ls := x.cells) rfl rfl rfl size46 (by simp [Stp.cells, Value.oneCell']) (fun L a w' hI hL hd => ⟨(hI.pure 9 _ _ rfl (hd ⟨9, .data⟩ (by simp) rfl)), by obtain ⟨e2, e3⟩ := RG.SR.put hI.world (hd ⟨9, .data⟩ (by simp) rfl) (Ne.symm hn3) (Ne.symm hn5) (Ne.symm hn4); exact ⟨w.heap.size, 0, hI.fix 4 (Reg.notD rfl) (by decide), e2, by show RG.SR _ _ _ _ _ _ _ _ _ _ _ _ (upd L 10 true 9) (upd L 10 true 10) _; rw [upd_same, upd_other _ _ (show 9 ≠ 10 by decide)]; exact e3⟩⟩)
    | 11, _ => injection ho with ho; subst ho; exact RG.Does.read rfl (fun L v w' h => RG.SR.skip (by decide) (by decide) h) (fun L a w' hI hd => ex_assign rfl rfl)
  case fin =>
    intro L a' w' hI hall
    rename_i K2 hK2
    refine hK2 _ _ ?_
    have hw := hI.world
    simp only [hall 9 (by decide), hall 10 (by decide), if_true] at hw
    have rE := hw.sto rfl
    have pE : a'.eval (.tmp 4) = .pointer (some ⟨w.heap.size, 0, none⟩) := hI.fix 4 (Reg.notD rfl) (by decide)
    have pe : a'.eval (.tmp 5) = .int .i64 0 := hI.pure 11 5 _ rfl (hall 11 (by decide))
    have hdf : a'.defers = [] := hI.df
    have hS := run_loadVar_mid (P := Try.prog) w' w.heap.size 0 _ _ dS rE HD.out.1 HD.out.2 size46
    have hres := results_ct (Q := Try.prog) (fn := Try.f118) (tmps := a'.tmps) (t := 4) (t' := 5) (W := w') (by rfl) pE hS
    rw [show a'.tmps.getD 5 undef = .int .i64 0 from pe] at hres
    go_wp2
    exact bodyPost_ret (v := .tuple #[x.val, .int .i64 0]) hres hdf ⟨rfl, hw.row, by simpa using hw.mem, T0.out.trans' hw.tch (fun k hk h => by rcases h with h | h; exact .inr h; omega)⟩

set_option maxHeartbeats 4000000 in
theorem d_none {w : World} {b bm bw n : Nat} {f f' : Nat → Int} {x : Stp} {hand room st fst en val : Int} {t : Ans} (h : w.rowIs b 89 8 (mvC hand room st fst en val t)) (hm : IsMem w bm bw n f) (h1 : b ≠ bm) (h2 : b ≠ bw) {ah : Int} (hah : ahd en x.had = ah) (a1 : ah < 0) 
    (hx : stepOf n f ⟨hand, 1, 0, 0, 0, true⟩ = x) (hf' : wordsOf n f ⟨hand, 1, 0, 0, 0, true⟩ = f') :
    Calls Try.prog 119 #[.pointer (some ⟨b, 0, none⟩), .pointer (some ⟨bm, 0, none⟩)] w fun e w' => e = .returned (.tuple #[x.val, .int .i64 0]) ∧
      w'.rowIs b 89 8 (mvC hand room 5 x.had en val t) ∧ IsMem w' bm bw n f' ∧ Touch w w' (fun k => k = b ∨ k = bw) := by
  obtain ⟨⟨c0, fz0⟩, ⟨c1, fz1⟩, ⟨c2, fz2⟩, ⟨c3, fz3⟩, ⟨c4, fz4⟩, ⟨c5, fz5⟩, ⟨c6, fz6⟩, c7, fz7⟩ := mv_facts h
  have hl := h.lt
  have lw := hm.row.lt
  have lm := hm.head.lt
  have hn3 : w.heap.size ≠ b := by omega
  have hn4 : w.heap.size ≠ bw := by omega
  have hn5 : w.heap.size ≠ bm := by omega
  obtain ⟨W1, hW1⟩ : ∃ W1, (w.alloc (.cells #[.int .i64 0, .int .i64 0, .int .i64 0, .int .u64 0, .int .u64 0, .bool false] 55)) = W1 := ⟨_, rfl⟩
  have R := hide (show W1.rowIs b 89 8 (mvC hand room st fst en val t) from by
    rw [← hW1]
    skip
    repeat (first | (with_reducible refine World.rowIs.set ?_ _ _) | (with_reducible apply World.rowIs.alloc))
    exact h)
  have M := hide (show IsMem W1 bm bw n f from by
    rw [← hW1]
    repeat (first | (with_reducible apply IsMem.alloc) | ((with_reducible refine IsMem.setOther ?_ ?_ ?_ _); rotate_left; (simp; omega); (simp; omega)))
    exact hm)
  have RZ := hide (show W1.rowIs w.heap.size 55 6 zcell from by
    rw [← hW1]
    repeat (with_reducible refine World.rowIs.setOther ?_ ?side _; case side => (simp; omega))
    exact row0 w)
  have T0 := hide (show Touch w W1 (fun k => k = b ∨ k = bw) from by
    rw [← hW1]
    repeat (first | (with_reducible apply Touch.alloc) | (with_reducible refine Touch.setCell ?_ _ ?side _; case side => simp))
    exact Touch.refl w _)
  have sz : W1.heap.size = w.heap.size + 1 := by rw [← hW1]; simp
  have HX := hide hx
  have HF := hide hf'
  have HW : Hid (0 ≤ (⟨hand, 1, 0, 0, 0, true⟩ : Stp).put ∧ (⟨hand, 1, 0, 0, 0, true⟩ : Stp).put ≤ 18446744073709551615) := ⟨by show (0 : Int) ≤ 0; omega, by show (0 : Int) ≤ 18446744073709551615; omega⟩
  have HAH := hide hah
  clear hm h hx hf' hah
  go_enter Try.func119, Try.ntmps119
  go_wp2_with fail
  clear hW1 c0 fz0 c1 fz1 c2 fz2 c3 fz3 c4 fz4 c5 fz5 c6 fz6 c7 fz7
  refine (load_any (R.out.cell (i := 0) (by omega)) (by omega) M.out HW.out HX.out HF.out).mono ?_
  rintro e w1 ⟨rfl, hm1, hg1⟩
  simp only [Stp.val]
  have lw1 := hg1.size
  have R1 : w1.rowIs b 89 8 (mvC hand room st fst en val t) := R.out.of_block (hg1.block b (by omega) (by simpa using h2))
  have RR : w1.rowIs w.heap.size 55 6 zcell := RZ.out.of_block (hg1.block w.heap.size (by omega) (by simpa using hn4))
  have T1 := T0.out.trans' (Touch.of_grown hg1) (fun k _ e => .inr (by simpa using e))
  have l1 : b < w1.heap.size := by omega
  have l2 : w.heap.size < w1.heap.size := by omega
  have l3 : bw < w1.heap.size := by omega
  have l4 : bm < w1.heap.size := by omega
  have SQ : (w1.alloc (.cells #[.int .i64 x.hand, .int .i64 x.act, .int .i64 x.at_, .int .u64 x.had, .int .u64 x.put, .bool x.ok] 55)).rowIs w1.heap.size 55 6 (fun i => (#[.int .i64 x.hand, .int .i64 x.act, .int .i64 x.at_, .int .u64 x.had, .int .u64 x.put, .bool x.ok] : Array Value).getD i undef) := rowIs_cells _ 55 _ 6 rfl (fun i hi => by
    match i, hi with
    | 0, _ | 1, _ | 2, _ | 3, _ | 4, _ | 5, _ => rfl)
  obtain ⟨V, hV⟩ : ∃ V, (((w1.setCell ⟨b, 3, none⟩ (.int .u64 x.had)).setCell ⟨b, 2, none⟩ (.int .i64 3)).alloc (.cells #[.int .i64 x.hand, .int .i64 x.act, .int .i64 x.at_, .int .u64 x.had, .int .u64 x.put, .bool x.ok] 55)) = V := ⟨_, rfl⟩
  have RV := hide (show V.rowIs b 89 8 (mvC hand room 3 x.had en val t) from by
    rw [← hV]
    refine World.rowIs.congr ?_ (fun i hi => mv_fst hand room st fst en val t 3 x.had i hi)
    apply World.rowIs.alloc
    refine World.rowIs.set ?_ 2 _
    refine World.rowIs.set ?_ 3 _
    exact R1)
  have RRV := hide (show V.rowIs w.heap.size 55 6 zcell from by
    rw [← hV]
    apply World.rowIs.alloc
    repeat (with_reducible refine World.rowIs.setOther ?_ ?side _; case side => (simp; omega))
    exact RR)
  have MV := hide (show IsMem V bm bw n f' from by
    rw [← hV]
    apply IsMem.alloc
    repeat ((with_reducible refine IsMem.setOther ?_ ?_ ?_ _); rotate_left; (simp; omega); (simp; omega))
    exact hm1)
  have TV := hide (show Touch w V (fun k => k = b ∨ k = bw) from by
    rw [← hV]
    apply Touch.alloc
    repeat (with_reducible refine Touch.setCell ?_ _ ?side _; case side => simp)
    exact T1)
  have SV := hide (show V.rowIs w1.heap.size 55 6 (fun i => (#[.int .i64 x.hand, .int .i64 x.act, .int .i64 x.at_, .int .u64 x.had, .int .u64 x.put, .bool x.ok] : Array Value).getD i undef) from by
    rw [← hV]
    exact rowIs_new (by simp) _ _ _ 6 rfl (fun i hi => by match i, hi with | 0, _ | 1, _ | 2, _ | 3, _ | 4, _ | 5, _ => rfl))
  have szv : V.heap.size = w1.heap.size + 1 := by rw [← hV]; simp
  have k1 : b < V.heap.size := by omega
  have k2 : w.heap.size < V.heap.size := by omega
  have k3 : w1.heap.size < V.heap.size := by omega
  have e0 : w1.cell? ⟨b, 0, none⟩ = some (.int .i64 hand) := R1.cell (i := 0) (by omega)
  have e3' : w1.cell? ⟨b, 3, none⟩ = some (.int .u64 fst) := R1.cell (i := 3) (by omega)
  have ef3' := R1.frozen 3
  have e2' : w1.cell? ⟨b, 2, none⟩ = some (.int .i64 st) := R1.cell (i := 2) (by omega)
  have ef2' := R1.frozen 2
  obtain ⟨⟨d0, df0⟩, ⟨d1, df1⟩, ⟨d2, df2⟩, ⟨d3, df3⟩, ⟨d4, df4⟩, ⟨d5, df5⟩, ⟨d6, df6⟩, d7, df7⟩ := mv_facts RV.out
  obtain ⟨⟨r0, rf0⟩, ⟨r1, rf1⟩, ⟨r2, rf2⟩, ⟨r3, rf3⟩, ⟨r4, rf4⟩, r5, rf5⟩ := res_facts RRV.out
  have s0 : V.cell? ⟨w1.heap.size, 0, none⟩ = some (.int .i64 x.hand) := SV.out.cell (i := 0) (by omega)
  have s1 : V.cell? ⟨w1.heap.size, 1, none⟩ = some (.int .i64 x.act) := SV.out.cell (i := 1) (by omega)
  have s2 : V.cell? ⟨w1.heap.size, 2, none⟩ = some (.int .i64 x.at_) := SV.out.cell (i := 2) (by omega)
  have s3 : V.cell? ⟨w1.heap.size, 3, none⟩ = some (.int .u64 x.had) := SV.out.cell (i := 3) (by omega)
  have s4 : V.cell? ⟨w1.heap.size, 4, none⟩ = some (.int .u64 x.put) := SV.out.cell (i := 4) (by omega)
  have s5 : V.cell? ⟨w1.heap.size, 5, none⟩ = some (.bool x.ok) := SV.out.cell (i := 5) (by omega)
  clear hm1 hg1 R1 RR T1 SQ
  go_wp2_with fail
  refine (there_any RV.out.lt (RV.out.cell (i := 3) (by omega)) (RV.out.cell (i := 4) (by omega))).mono ?_
  rintro e w2 ⟨rfl, m, hw2⟩
  simp only [HAH.out]
  have Rn := hide (show w2.rowIs b 89 8 (mvC hand room 3 x.had en val t) from by rw [hw2]; exact RV.out.of_block rfl)
  have RRn := hide (show w2.rowIs w.heap.size 55 6 zcell from by rw [hw2]; exact RRV.out.of_block rfl)
  have Sn := hide (show w2.rowIs w1.heap.size 55 6 (fun i => (#[.int .i64 x.hand, .int .i64 x.act, .int .i64 x.at_, .int .u64 x.had, .int .u64 x.put, .bool x.ok] : Array Value).getD i undef) from by rw [hw2]; exact SV.out.of_block rfl)
  have Mn := hide (show IsMem w2 bm bw n f' from by rw [hw2]; exact ⟨MV.out.head.of_block rfl, MV.out.row.of_block rfl, MV.out.most, MV.out.word⟩)
  have Tn := hide (show Touch w w2 (fun k => k = b ∨ k = bw) from by rw [hw2]; exact TV.out.trans' (S' := fun _ => False) ⟨rfl, rfl, rfl, Nat.le_refl _, fun _ _ _ => rfl⟩ (fun _ _ h => h.elim))
  have szn : w2.heap.size = w1.heap.size + 1 := by rw [hw2]; exact szv
  clear hV hw2 RV RRV SV MV TV szv k1 k2 k3
  have k1 : b < w2.heap.size := by omega
  have k2 : w.heap.size < w2.heap.size := by omega
  have k3 : w1.heap.size < w2.heap.size := by omega
  have p2 : w2.cell? ⟨b, 2, none⟩ = some (.int .i64 3) := Rn.out.cell (i := 2) (by omega)
  have pf2 := Rn.out.frozen 2
  obtain ⟨⟨o0, of0⟩, ⟨o1, of1⟩, ⟨o2, of2⟩, ⟨o3, of3⟩, ⟨o4, of4⟩, o5, of5⟩ := res_facts RRn.out
  have q0 : w2.cell? ⟨w1.heap.size, 0, none⟩ = some (.int .i64 x.hand) := Sn.out.cell (i := 0) (by omega)
  have q1 : w2.cell? ⟨w1.heap.size, 1, none⟩ = some (.int .i64 x.act) := Sn.out.cell (i := 1) (by omega)
  have q2 : w2.cell? ⟨w1.heap.size, 2, none⟩ = some (.int .i64 x.at_) := Sn.out.cell (i := 2) (by omega)
  have q3 : w2.cell? ⟨w1.heap.size, 3, none⟩ = some (.int .u64 x.had) := Sn.out.cell (i := 3) (by omega)
  have q4 : w2.cell? ⟨w1.heap.size, 4, none⟩ = some (.int .u64 x.put) := Sn.out.cell (i := 4) (by omega)
  have q5 : w2.cell? ⟨w1.heap.size, 5, none⟩ = some (.bool x.ok) := Sn.out.cell (i := 5) (by omega)
  go_wp2_with fail
  go_light
  refine bodyPost_ret (v := .tuple #[x.val, .int .i64 0]) ?res rfl ⟨rfl, ?row, ?mem, ?tch⟩
  case row =>
    refine World.rowIs.congr ?_ (fun i hi => mv_st hand room 3 x.had en val t 5 i hi)
    repeat (first | (with_reducible apply World.rowIs.alloc) | (with_reducible apply World.rowIs.drew) | (with_reducible refine World.rowIs.setOther ?_ ?side _; case side => (simp; omega)))
    with_reducible refine World.rowIs.set ?_ 2 _
    repeat (first | (with_reducible apply World.rowIs.alloc) | (with_reducible apply World.rowIs.drew) | (with_reducible refine World.rowIs.setOther ?_ ?side _; case side => (simp; omega)))
    with_reducible exact Rn.out
  case mem =>
    repeat (first | (with_reducible apply IsMem.alloc) | (with_reducible apply IsMem.drew) | ((with_reducible refine IsMem.setOther ?_ ?_ ?_ _); rotate_left; (simp; omega); (simp; omega)))
    with_reducible exact Mn.out
  case tch =>
    repeat (first | (with_reducible apply Touch.alloc) | (with_reducible apply Touch.drew) | (with_reducible refine Touch.setCell ?_ _ ?side _; case side => (first | (simp; done) | (simp; omega))))
    with_reducible exact Tn.out
  case res => simp [results, Try.results119, go_sem, Stp.val, *]

set_option maxHeartbeats 4000000 in
theorem d_some {w : World} {b bm bw n : Nat} {f f' : Nat → Int} {x : Stp} {hand room st fst en val : Int} {t : Ans} (h : w.rowIs b 89 8 (mvC hand room st fst en val t)) (hm : IsMem w bm bw n f) (h1 : b ≠ bm) (h2 : b ≠ bw) {ah : Int} (hah : ahd en x.had = ah) (a1 : ¬ ah < 0) 
    (hx : stepOf n f ⟨hand, 1, 0, 0, 0, true⟩ = x) (hf' : wordsOf n f ⟨hand, 1, 0, 0, 0, true⟩ = f') :
    Calls Try.prog 119 #[.pointer (some ⟨b, 0, none⟩), .pointer (some ⟨bm, 0, none⟩)] w fun e w' => e = .returned (.tuple #[x.val, .int .i64 0]) ∧
      w'.rowIs b 89 8 (mvC hand room 3 x.had en val t) ∧ IsMem w' bm bw n f' ∧ Touch w w' (fun k => k = b ∨ k = bw) := by
  obtain ⟨⟨c0, fz0⟩, ⟨c1, fz1⟩, ⟨c2, fz2⟩, ⟨c3, fz3⟩, ⟨c4, fz4⟩, ⟨c5, fz5⟩, ⟨c6, fz6⟩, c7, fz7⟩ := mv_facts h
  have hl := h.lt
  have lw := hm.row.lt
  have lm := hm.head.lt
  have hn3 : w.heap.size ≠ b := by omega
  have hn4 : w.heap.size ≠ bw := by omega
  have hn5 : w.heap.size ≠ bm := by omega
  obtain ⟨W1, hW1⟩ : ∃ W1, (w.alloc (.cells #[.int .i64 0, .int .i64 0, .int .i64 0, .int .u64 0, .int .u64 0, .bool false] 55)) = W1 := ⟨_, rfl⟩
  have R := hide (show W1.rowIs b 89 8 (mvC hand room st fst en val t) from by
    rw [← hW1]
    skip
    repeat (first | (with_reducible refine World.rowIs.set ?_ _ _) | (with_reducible apply World.rowIs.alloc))
    exact h)
  have M := hide (show IsMem W1 bm bw n f from by
    rw [← hW1]
    repeat (first | (with_reducible apply IsMem.alloc) | ((with_reducible refine IsMem.setOther ?_ ?_ ?_ _); rotate_left; (simp; omega); (simp; omega)))
    exact hm)
  have RZ := hide (show W1.rowIs w.heap.size 55 6 zcell from by
    rw [← hW1]
    repeat (with_reducible refine World.rowIs.setOther ?_ ?side _; case side => (simp; omega))
    exact row0 w)
  have T0 := hide (show Touch w W1 (fun k => k = b ∨ k = bw) from by
    rw [← hW1]
    repeat (first | (with_reducible apply Touch.alloc) | (with_reducible refine Touch.setCell ?_ _ ?side _; case side => simp))
    exact Touch.refl w _)
  have sz : W1.heap.size = w.heap.size + 1 := by rw [← hW1]; simp
  have HX := hide hx
  have HF := hide hf'
  have HW : Hid (0 ≤ (⟨hand, 1, 0, 0, 0, true⟩ : Stp).put ∧ (⟨hand, 1, 0, 0, 0, true⟩ : Stp).put ≤ 18446744073709551615) := ⟨by show (0 : Int) ≤ 0; omega, by show (0 : Int) ≤ 18446744073709551615; omega⟩
  have HAH := hide hah
  clear hm h hx hf' hah
  go_enter Try.func119, Try.ntmps119
  go_wp2_with fail
  clear hW1 c0 fz0 c1 fz1 c2 fz2 c3 fz3 c4 fz4 c5 fz5 c6 fz6 c7 fz7
  refine (load_any (R.out.cell (i := 0) (by omega)) (by omega) M.out HW.out HX.out HF.out).mono ?_
  rintro e w1 ⟨rfl, hm1, hg1⟩
  simp only [Stp.val]
  have lw1 := hg1.size
  have R1 : w1.rowIs b 89 8 (mvC hand room st fst en val t) := R.out.of_block (hg1.block b (by omega) (by simpa using h2))
  have RR : w1.rowIs w.heap.size 55 6 zcell := RZ.out.of_block (hg1.block w.heap.size (by omega) (by simpa using hn4))
  have T1 := T0.out.trans' (Touch.of_grown hg1) (fun k _ e => .inr (by simpa using e))
  have l1 : b < w1.heap.size := by omega
  have l2 : w.heap.size < w1.heap.size := by omega
  have l3 : bw < w1.heap.size := by omega
  have l4 : bm < w1.heap.size := by omega
  have SQ : (w1.alloc (.cells #[.int .i64 x.hand, .int .i64 x.act, .int .i64 x.at_, .int .u64 x.had, .int .u64 x.put, .bool x.ok] 55)).rowIs w1.heap.size 55 6 (fun i => (#[.int .i64 x.hand, .int .i64 x.act, .int .i64 x.at_, .int .u64 x.had, .int .u64 x.put, .bool x.ok] : Array Value).getD i undef) := rowIs_cells _ 55 _ 6 rfl (fun i hi => by
    match i, hi with
    | 0, _ | 1, _ | 2, _ | 3, _ | 4, _ | 5, _ => rfl)
  obtain ⟨V, hV⟩ : ∃ V, (((w1.setCell ⟨b, 3, none⟩ (.int .u64 x.had)).setCell ⟨b, 2, none⟩ (.int .i64 3)).alloc (.cells #[.int .i64 x.hand, .int .i64 x.act, .int .i64 x.at_, .int .u64 x.had, .int .u64 x.put, .bool x.ok] 55)) = V := ⟨_, rfl⟩
  have RV := hide (show V.rowIs b 89 8 (mvC hand room 3 x.had en val t) from by
    rw [← hV]
    refine World.rowIs.congr ?_ (fun i hi => mv_fst hand room st fst en val t 3 x.had i hi)
    apply World.rowIs.alloc
    refine World.rowIs.set ?_ 2 _
    refine World.rowIs.set ?_ 3 _
    exact R1)
  have RRV := hide (show V.rowIs w.heap.size 55 6 zcell from by
    rw [← hV]
    apply World.rowIs.alloc
    repeat (with_reducible refine World.rowIs.setOther ?_ ?side _; case side => (simp; omega))
    exact RR)
  have MV := hide (show IsMem V bm bw n f' from by
    rw [← hV]
    apply IsMem.alloc
    repeat ((with_reducible refine IsMem.setOther ?_ ?_ ?_ _); rotate_left; (simp; omega); (simp; omega))
    exact hm1)
  have TV := hide (show Touch w V (fun k => k = b ∨ k = bw) from by
    rw [← hV]
    apply Touch.alloc
    repeat (with_reducible refine Touch.setCell ?_ _ ?side _; case side => simp)
    exact T1)
  have SV := hide (show V.rowIs w1.heap.size 55 6 (fun i => (#[.int .i64 x.hand, .int .i64 x.act, .int .i64 x.at_, .int .u64 x.had, .int .u64 x.put, .bool x.ok] : Array Value).getD i undef) from by
    rw [← hV]
    exact rowIs_new (by simp) _ _ _ 6 rfl (fun i hi => by match i, hi with | 0, _ | 1, _ | 2, _ | 3, _ | 4, _ | 5, _ => rfl))
  have szv : V.heap.size = w1.heap.size + 1 := by rw [← hV]; simp
  have k1 : b < V.heap.size := by omega
  have k2 : w.heap.size < V.heap.size := by omega
  have k3 : w1.heap.size < V.heap.size := by omega
  have e0 : w1.cell? ⟨b, 0, none⟩ = some (.int .i64 hand) := R1.cell (i := 0) (by omega)
  have e3' : w1.cell? ⟨b, 3, none⟩ = some (.int .u64 fst) := R1.cell (i := 3) (by omega)
  have ef3' := R1.frozen 3
  have e2' : w1.cell? ⟨b, 2, none⟩ = some (.int .i64 st) := R1.cell (i := 2) (by omega)
  have ef2' := R1.frozen 2
  obtain ⟨⟨d0, df0⟩, ⟨d1, df1⟩, ⟨d2, df2⟩, ⟨d3, df3⟩, ⟨d4, df4⟩, ⟨d5, df5⟩, ⟨d6, df6⟩, d7, df7⟩ := mv_facts RV.out
  obtain ⟨⟨r0, rf0⟩, ⟨r1, rf1⟩, ⟨r2, rf2⟩, ⟨r3, rf3⟩, ⟨r4, rf4⟩, r5, rf5⟩ := res_facts RRV.out
  have s0 : V.cell? ⟨w1.heap.size, 0, none⟩ = some (.int .i64 x.hand) := SV.out.cell (i := 0) (by omega)
  have s1 : V.cell? ⟨w1.heap.size, 1, none⟩ = some (.int .i64 x.act) := SV.out.cell (i := 1) (by omega)
  have s2 : V.cell? ⟨w1.heap.size, 2, none⟩ = some (.int .i64 x.at_) := SV.out.cell (i := 2) (by omega)
  have s3 : V.cell? ⟨w1.heap.size, 3, none⟩ = some (.int .u64 x.had) := SV.out.cell (i := 3) (by omega)
  have s4 : V.cell? ⟨w1.heap.size, 4, none⟩ = some (.int .u64 x.put) := SV.out.cell (i := 4) (by omega)
  have s5 : V.cell? ⟨w1.heap.size, 5, none⟩ = some (.bool x.ok) := SV.out.cell (i := 5) (by omega)
  clear hm1 hg1 R1 RR T1 SQ
  go_wp2_with fail
  refine (there_any RV.out.lt (RV.out.cell (i := 3) (by omega)) (RV.out.cell (i := 4) (by omega))).mono ?_
  rintro e w2 ⟨rfl, m, hw2⟩
  simp only [HAH.out]
  have Rn := hide (show w2.rowIs b 89 8 (mvC hand room 3 x.had en val t) from by rw [hw2]; exact RV.out.of_block rfl)
  have RRn := hide (show w2.rowIs w.heap.size 55 6 zcell from by rw [hw2]; exact RRV.out.of_block rfl)
  have Sn := hide (show w2.rowIs w1.heap.size 55 6 (fun i => (#[.int .i64 x.hand, .int .i64 x.act, .int .i64 x.at_, .int .u64 x.had, .int .u64 x.put, .bool x.ok] : Array Value).getD i undef) from by rw [hw2]; exact SV.out.of_block rfl)
  have Mn := hide (show IsMem w2 bm bw n f' from by rw [hw2]; exact ⟨MV.out.head.of_block rfl, MV.out.row.of_block rfl, MV.out.most, MV.out.word⟩)
  have Tn := hide (show Touch w w2 (fun k => k = b ∨ k = bw) from by rw [hw2]; exact TV.out.trans' (S' := fun _ => False) ⟨rfl, rfl, rfl, Nat.le_refl _, fun _ _ _ => rfl⟩ (fun _ _ h => h.elim))
  have szn : w2.heap.size = w1.heap.size + 1 := by rw [hw2]; exact szv
  clear hV hw2 RV RRV SV MV TV szv k1 k2 k3
  have k1 : b < w2.heap.size := by omega
  have k2 : w.heap.size < w2.heap.size := by omega
  have k3 : w1.heap.size < w2.heap.size := by omega
  have p2 : w2.cell? ⟨b, 2, none⟩ = some (.int .i64 3) := Rn.out.cell (i := 2) (by omega)
  have pf2 := Rn.out.frozen 2
  obtain ⟨⟨o0, of0⟩, ⟨o1, of1⟩, ⟨o2, of2⟩, ⟨o3, of3⟩, ⟨o4, of4⟩, o5, of5⟩ := res_facts RRn.out
  have q0 : w2.cell? ⟨w1.heap.size, 0, none⟩ = some (.int .i64 x.hand) := Sn.out.cell (i := 0) (by omega)
  have q1 : w2.cell? ⟨w1.heap.size, 1, none⟩ = some (.int .i64 x.act) := Sn.out.cell (i := 1) (by omega)
  have q2 : w2.cell? ⟨w1.heap.size, 2, none⟩ = some (.int .i64 x.at_) := Sn.out.cell (i := 2) (by omega)
  have q3 : w2.cell? ⟨w1.heap.size, 3, none⟩ = some (.int .u64 x.had) := Sn.out.cell (i := 3) (by omega)
  have q4 : w2.cell? ⟨w1.heap.size, 4, none⟩ = some (.int .u64 x.put) := Sn.out.cell (i := 4) (by omega)
  have q5 : w2.cell? ⟨w1.heap.size, 5, none⟩ = some (.bool x.ok) := Sn.out.cell (i := 5) (by omega)
  go_wp2_with fail
  go_light
  refine bodyPost_ret (v := .tuple #[x.val, .int .i64 0]) ?res rfl ⟨rfl, ?row, ?mem, ?tch⟩
  case row =>
    repeat (first | (with_reducible apply World.rowIs.alloc) | (with_reducible apply World.rowIs.drew) | (with_reducible refine World.rowIs.setOther ?_ ?side _; case side => (simp; omega)))
    with_reducible exact Rn.out
  case mem =>
    repeat (first | (with_reducible apply IsMem.alloc) | (with_reducible apply IsMem.drew) | ((with_reducible refine IsMem.setOther ?_ ?_ ?_ _); rotate_left; (simp; omega); (simp; omega)))
    with_reducible exact Mn.out
  case tch =>
    repeat (first | (with_reducible apply Touch.alloc) | (with_reducible apply Touch.drew) | (with_reducible refine Touch.setCell ?_ _ ?side _; case side => (first | (simp; done) | (simp; omega))))
    with_reducible exact Tn.out
  case res => simp [results, Try.results119, go_sem, Stp.val, *]

end Deal
end Go.Proofs.Ytdgolkdedghajaa
