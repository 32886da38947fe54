/-
  Lemmas: DealB2.
-/
import Derived.Test.YtdgolkdedghajaaTq22
/-
  The tasks of a deal: a Lay, its stores.
-/
namespace Go.Proofs.Ytdgolkdedghajaa
open Go.RowKit
set_option linter.unusedVariables false
set_option linter.unusedSimpArgs false
set_option maxRecDepth 20000
namespace Deal

set_option maxHeartbeats 4000000 in
theorem l_touch {w : World} {b bm bw n : Nat} {f f' : Nat → Int} {x : Stp} {hand room st fst en val : Int} {t : Ans} (h : w.rowIs b 87 8 (mvC hand room st fst en val t)) (hm : IsMem w bm bw n f) (h1 : b ≠ bm) (h2 : b ≠ bw) (hr : 1 ≤ room ∧ room ≤ 64) (hnum : 0 ≤ en ∧ en ≤ 18446744073709551615) (hv : 0 ≤ val ∧ val ≤ 18446744073709551615) {pl : Int} (hpl : plc room en = pl) 
    (hx : stepOf n f ⟨hand, 2, pl, 0, val, true⟩ = x) (hf' : wordsOf n f ⟨hand, 2, pl, 0, val, true⟩ = f') :
    Calls Try.prog 101 #[.pointer (some ⟨b, 0, none⟩), .pointer (some ⟨bm, 0, none⟩)] w fun e w' => e = .returned (.tuple #[x.val, .int .i64 0]) ∧
      w'.rowIs b 87 8 (mvC hand room 5 fst en val t) ∧ IsMem w' bm bw n f' ∧ Touch w w' (fun k => k = b ∨ k = bw) := by
  obtain ⟨⟨c0, fz0⟩, ⟨c1, fz1⟩, ⟨c2, fz2⟩, ⟨c3, fz3⟩, ⟨c4, fz4⟩, ⟨c5, fz5⟩, ⟨c6, fz6⟩, c7, fz7⟩ := mv_facts h
  have hl := h.lt
  have lw := hm.row.lt
  have lm := hm.head.lt
  have hn3 : w.heap.size ≠ b := by omega
  have hn4 : w.heap.size ≠ bw := by omega
  have hn5 : w.heap.size ≠ bm := by omega
  obtain ⟨W1, hW1⟩ : ∃ W1, ((w.alloc (.cells #[.int .i64 0, .int .i64 0, .int .i64 0, .int .u64 0, .int .u64 0, .bool false] 55)).setCell ⟨b, 2, none⟩ (.int .i64 5)) = W1 := ⟨_, rfl⟩
  have R := hide (show W1.rowIs b 87 8 (mvC hand room 5 fst en val t) from by
    rw [← hW1]
    refine World.rowIs.congr ?_ (fun i hi => mv_st hand room st fst en val t 5 i hi)
    repeat (first | (with_reducible refine World.rowIs.set ?_ _ _) | (with_reducible apply World.rowIs.alloc))
    exact h)
  have M := hide (show IsMem W1 bm bw n f from by
    rw [← hW1]
    repeat (first | (with_reducible apply IsMem.alloc) | ((with_reducible refine IsMem.setOther ?_ ?_ ?_ _); rotate_left; (simp; omega); (simp; omega)))
    exact hm)
  have RZ := hide (show W1.rowIs w.heap.size 55 6 zcell from by
    rw [← hW1]
    repeat (with_reducible refine World.rowIs.setOther ?_ ?side _; case side => (simp; omega))
    exact row0 w)
  have T0 := hide (show Touch w W1 (fun k => k = b ∨ k = bw) from by
    rw [← hW1]
    repeat (first | (with_reducible apply Touch.alloc) | (with_reducible refine Touch.setCell ?_ _ ?side _; case side => simp))
    exact Touch.refl w _)
  have sz : W1.heap.size = w.heap.size + 1 := by rw [← hW1]; simp
  have HX := hide hx
  have HF := hide hf'
  have HW : Hid (0 ≤ (⟨hand, 2, pl, 0, val, true⟩ : Stp).put ∧ (⟨hand, 2, pl, 0, val, true⟩ : Stp).put ≤ 18446744073709551615) := hide hv
  have HRM := hide hr
  have HNM := hide hnum
  have HPL := hide hpl
  clear hm h hx hf' hr hnum hv hpl
  go_enter Try.func101, Try.ntmps101
  go_wp2_with fail
  clear hW1 c0 fz0 c1 fz1 c2 fz2 c3 fz3 c4 fz4 c5 fz5 c6 fz6 c7 fz7
  obtain ⟨dS, hdS1, hdS2⟩ := row46
  have HD := hide (And.intro hdS1 hdS2)
  clear hdS1 hdS2
  refine RG.region (ks := [(0, 10), (1, 11), (2, 12), (3, 13), (4, 14), (5, 15), (6, 16), (7, 17), (8, 18), (9, 19), (10, 20), (11, 21), (12, 22), (13, 23), (14, 24), (15, 25), (16, 26), (17, 27), (18, 28), (20, 5)]) (vals := fun i => match i with
      | 0 => .pointer (some ⟨b, 0, none⟩)
      | 1 => .pointer (some ⟨b, 0, none⟩)
      | 2 => .pointer (some ⟨b, 0, none⟩)
      | 3 => .pointer (some ⟨bm, 0, none⟩)
      | 4 => .pointer (some ⟨b, 0, none⟩)
      | 5 => .pointer (some ⟨b, 0, none⟩)
      | 6 => .pointer (some ⟨b, 0, none⟩)
      | 7 => .pointer (some ⟨b, 0, none⟩)
      | 8 => .pointer (some ⟨b, 0, none⟩)
      | 9 => .pointer (some ⟨b, 0, none⟩)
      | 10 => .pointer (some ⟨b, 4, none⟩)
      | 11 => .int .u64 en
      | 12 => .int .i64 pl
      | 13 => .pointer (some ⟨b, 0, none⟩)
      | 14 => .pointer (some ⟨b, 0, none⟩)
      | 15 => .pointer (some ⟨b, 0, none⟩)
      | 16 => .pointer (some ⟨b, 5, none⟩)
      | 17 => .int .u64 val
      | 18 => .agg #[.int .i64 x.hand, .int .i64 x.act, .int .i64 x.at_, .int .u64 x.had, .int .u64 x.put, .bool x.ok]
      | 20 => .int .i64 0
      | _ => undef) (x := 2) (WI := fun L v w' => RG.SR b 87 8 (mvC hand room 5 fst en val t) bm bw n f f' x w.heap.size W1 (L 18) (L 19) w') (by kernel_rfl) ?gg ?bk rfl ?dd ?xx (RG.SR.start R.out M.out RZ.out) ?does ?fin
  case gg =>
    intro i o ho
    have hi : i < 21 := by have := (Array.getElem?_eq_some_iff.1 ho).1; simpa using this
    match i, hi with
    | 0, _ | 1, _ | 2, _ | 3, _ | 4, _ | 5, _ | 6, _ | 7, _ | 8, _ | 9, _ | 10, _ | 11, _ | 12, _ | 13, _ | 14, _ | 15, _ | 16, _ | 17, _ | 18, _ | 19, _ | 20, _ => injection ho with ho; subst ho; rfl
  case bk =>
    intro i o ho
    have hi : i < 21 := by have := (Array.getElem?_eq_some_iff.1 ho).1; simpa using this
    match i, hi with
    | 0, _ | 1, _ | 2, _ | 3, _ | 4, _ | 5, _ | 6, _ | 7, _ | 8, _ | 9, _ | 10, _ | 11, _ | 12, _ | 13, _ | 14, _ | 15, _ | 16, _ | 17, _ | 18, _ | 19, _ | 20, _ => injection ho with ho; subst ho; simp [Region.binds]
  case dd =>
    intro k hk
    have hk' : k < 29 := by
      simp [RetN.D] at hk
      omega
    simpa using hk'
  case xx => simp
  case does =>
    intro i o ho
    have hi : i < 21 := by have := (Array.getElem?_eq_some_iff.1 ho).1; simpa using this
    match i, hi with
    | 0, _ => injection ho with ho; subst ho; exact RG.Does.read rfl (fun L v w' h => RG.SR.skip (by decide) (by decide) h) (fun L a w' hI hd => ex_move rfl (hI.fix 0 (Reg.notD rfl) (by decide)))
    | 1, _ => injection ho with ho; subst ho; exact RG.Does.read rfl (fun L v w' h => RG.SR.skip (by decide) (by decide) h) (fun L a w' hI hd => ex_nil rfl (hI.pure 0 _ _ rfl (hd ⟨0, .data⟩ (by simp) rfl)))
    | 2, _ => injection ho with ho; subst ho; exact RG.Does.read rfl (fun L v w' h => RG.SR.skip (by decide) (by decide) h) (fun L a w' hI hd => ex_field rfl (hI.pure 1 _ _ rfl (hd ⟨1, .data⟩ (by simp) rfl)) (fieldTl w' _))
    | 3, _ => injection ho with ho; subst ho; exact RG.Does.read rfl (fun L v w' h => RG.SR.skip (by decide) (by decide) h) (fun L a w' hI hd => ex_move rfl (hI.fix 1 (Reg.notD rfl) (by decide)))
    | 4, _ => injection ho with ho; subst ho; exact RG.Does.read rfl (fun L v w' h => RG.SR.skip (by decide) (by decide) h) (fun L a w' hI hd => ex_move rfl (hI.fix 0 (Reg.notD rfl) (by decide)))
    | 5, _ => injection ho with ho; subst ho; exact RG.Does.read rfl (fun L v w' h => RG.SR.skip (by decide) (by decide) h) (fun L a w' hI hd => ex_nil rfl (hI.pure 4 _ _ rfl (hd ⟨4, .data⟩ (by simp) rfl)))
    | 6, _ => injection ho with ho; subst ho; exact RG.Does.read rfl (fun L v w' h => RG.SR.skip (by decide) (by decide) h) (fun L a w' hI hd => ex_field rfl (hI.pure 5 _ _ rfl (hd ⟨5, .data⟩ (by simp) rfl)) (fieldTl w' _))
    | 7, _ => injection ho with ho; subst ho; exact RG.Does.read rfl (fun L v w' h => RG.SR.skip (by decide) (by decide) h) (fun L a w' hI hd => ex_move rfl (hI.fix 0 (Reg.notD rfl) (by decide)))
    | 8, _ => injection ho with ho; subst ho; exact RG.Does.read rfl (fun L v w' h => RG.SR.skip (by decide) (by decide) h) (fun L a w' hI hd => ex_nil rfl (hI.pure 7 _ _ rfl (hd ⟨7, .data⟩ (by simp) rfl)))
    | 9, _ => injection ho with ho; subst ho; exact RG.Does.read rfl (fun L v w' h => RG.SR.skip (by decide) (by decide) h) (fun L a w' hI hd => ex_field rfl (hI.pure 8 _ _ rfl (hd ⟨8, .data⟩ (by simp) rfl)) (fieldTl w' _))
    | 10, _ => injection ho with ho; subst ho; exact RG.Does.read rfl (fun L v w' h => RG.SR.skip (by decide) (by decide) h) (fun L a w' hI hd => ex_field rfl (hI.pure 9 _ _ rfl (hd ⟨9, .data⟩ (by simp) rfl)) (fieldM4 w' _))
    | 11, _ => injection ho with ho; subst ho; exact RG.Does.read rfl (fun L v w' h => RG.SR.skip (by decide) (by decide) h) (fun L a w' hI hd => ex_load rfl (hI.pure 10 _ _ rfl (hd ⟨10, .data⟩ (by simp) rfl)) (aggU w') (hI.world.row.cell (i := 4) (by omega)))
    | 12, _ => injection ho with ho; subst ho; exact RG.Does.call rfl (fun L a w' hI hd => call2 rfl (hI.pure 6 _ _ rfl (hd ⟨6, .data⟩ (by simp) rfl)) (hI.pure 11 _ _ rfl (hd ⟨11, .data⟩ (by simp) rfl)) rfl (callPlace _ _)) (fun L v w' h hL => (place_any h.row.lt (h.row.cell (i := 1) (by omega)) HRM.out.1 HRM.out.2 HNM.out).mono (by rintro e w'' ⟨rfl, rfl⟩; exact ⟨congrArg (fun z => Ending.returned (.int .i64 z)) HPL.out, RG.SR.skip (by decide) (by decide) h⟩))
    | 13, _ => injection ho with ho; subst ho; exact RG.Does.read rfl (fun L v w' h => RG.SR.skip (by decide) (by decide) h) (fun L a w' hI hd => ex_move rfl (hI.fix 0 (Reg.notD rfl) (by decide)))
    | 14, _ => injection ho with ho; subst ho; exact RG.Does.read rfl (fun L v w' h => RG.SR.skip (by decide) (by decide) h) (fun L a w' hI hd => ex_nil rfl (hI.pure 13 _ _ rfl (hd ⟨13, .data⟩ (by simp) rfl)))
    | 15, _ => injection ho with ho; subst ho; exact RG.Does.read rfl (fun L v w' h => RG.SR.skip (by decide) (by decide) h) (fun L a w' hI hd => ex_field rfl (hI.pure 14 _ _ rfl (hd ⟨14, .data⟩ (by simp) rfl)) (fieldTl w' _))
    | 16, _ => injection ho with ho; subst ho; exact RG.Does.read rfl (fun L v w' h => RG.SR.skip (by decide) (by decide) h) (fun L a w' hI hd => ex_field rfl (hI.pure 15 _ _ rfl (hd ⟨15, .data⟩ (by simp) rfl)) (fieldM5 w' _))
    | 17, _ => injection ho with ho; subst ho; exact RG.Does.read rfl (fun L v w' h => RG.SR.skip (by decide) (by decide) h) (fun L a w' hI hd => ex_load rfl (hI.pure 16 _ _ rfl (hd ⟨16, .data⟩ (by simp) rfl)) (aggU w') (hI.world.row.cell (i := 5) (by omega)))
    | 18, _ => injection ho with ho; subst ho; exact RG.Does.call rfl (fun L a w' hI hd => call4 rfl (hI.pure 2 _ _ rfl (hd ⟨2, .data⟩ (by simp) rfl)) (hI.pure 3 _ _ rfl (hd ⟨3, .data⟩ (by simp) rfl)) (hI.pure 12 _ _ rfl (hd ⟨12, .data⟩ (by simp) rfl)) (hI.pure 17 _ _ rfl (hd ⟨17, .data⟩ (by simp) rfl)) rfl (callStore _ _)) (SRcalls h2 hn4 (by decide) ((fun w h hm => store_any (h.cell (i := 0) (by omega)) h.lt hm HW.out HX.out HF.out)))
    | 19, _ => injection ho with ho; subst ho; exact RG.Does.put (ls := x.cells) rfl rfl rfl size46 (by simp [Stp.cells, Value.oneCell']) (fun L a w' hI hL hd => ⟨(hI.pure 18 _ _ rfl (hd ⟨18, .data⟩ (by simp) rfl)), by obtain ⟨e2, e3⟩ := RG.SR.put hI.world (hd ⟨18, .data⟩ (by simp) rfl) (Ne.symm hn3) (Ne.symm hn5) (Ne.symm hn4); exact ⟨w.heap.size, 0, hI.fix 4 (Reg.notD rfl) (by decide), e2, by show RG.SR _ _ _ _ _ _ _ _ _ _ _ _ (upd L 19 true 18) (upd L 19 true 19) _; rw [upd_same, upd_other _ _ (show 18 ≠ 19 by decide)]; exact e3⟩⟩)
    | 20, _ => injection ho with ho; subst ho; exact RG.Does.read rfl (fun L v w' h => RG.SR.skip (by decide) (by decide) h) (fun L a w' hI hd => ex_assign rfl rfl)
  case fin =>
    intro L a' w' hI hall
    rename_i K2 hK2
    refine hK2 _ _ ?_
    have hw := hI.world
    simp only [hall 18 (by decide), hall 19 (by decide), if_true] at hw
    have rE := hw.sto rfl
    have pE : a'.eval (.tmp 4) = .pointer (some ⟨w.heap.size, 0, none⟩) := hI.fix 4 (Reg.notD rfl) (by decide)
    have pe : a'.eval (.tmp 5) = .int .i64 0 := hI.pure 20 5 _ rfl (hall 20 (by decide))
    have hdf : a'.defers = [] := hI.df
    have hS := run_loadVar_mid (P := Try.prog) w' w.heap.size 0 _ _ dS rE HD.out.1 HD.out.2 size46
    have hres := results_ct (Q := Try.prog) (fn := Try.f101) (tmps := a'.tmps) (t := 4) (t' := 5) (W := w') (by rfl) pE hS
    rw [show a'.tmps.getD 5 undef = .int .i64 0 from pe] at hres
    go_wp2
    exact bodyPost_ret (v := .tuple #[x.val, .int .i64 0]) hres hdf ⟨rfl, hw.row, by simpa using hw.mem, T0.out.trans' hw.tch (fun k hk h => by rcases h with h | h; exact .inr h; omega)⟩

set_option maxHeartbeats 4000000 in
theorem l_settle {w : World} {b bm bw n : Nat} {f f' : Nat → Int} {x : Stp} {hand room st fst en val : Int} {t : Ans} (h : w.rowIs b 87 8 (mvC hand room st fst en val t)) (hm : IsMem w bm bw n f) (h1 : b ≠ bm) (h2 : b ≠ bw) 
    (hx : stepOf n f ⟨hand, 2, 1, 0, u64 (en + 1), true⟩ = x) (hf' : wordsOf n f ⟨hand, 2, 1, 0, u64 (en + 1), true⟩ = f') :
    Calls Try.prog 102 #[.pointer (some ⟨b, 0, none⟩), .pointer (some ⟨bm, 0, none⟩)] w fun e w' => e = .returned (.tuple #[x.val, .int .i64 1]) ∧
      w'.rowIs b 87 8 (mvC hand room st fst en val ⟨true, val⟩) ∧ IsMem w' bm bw n f' ∧ Touch w w' (fun k => k = b ∨ k = bw) := by
  obtain ⟨⟨c0, fz0⟩, ⟨c1, fz1⟩, ⟨c2, fz2⟩, ⟨c3, fz3⟩, ⟨c4, fz4⟩, ⟨c5, fz5⟩, ⟨c6, fz6⟩, c7, fz7⟩ := mv_facts h
  have hl := h.lt
  have lw := hm.row.lt
  have lm := hm.head.lt
  have hn3 : w.heap.size ≠ b := by omega
  have hn4 : w.heap.size ≠ bw := by omega
  have hn5 : w.heap.size ≠ bm := by omega
  obtain ⟨W1, hW1⟩ : ∃ W1, (w.alloc (.cells #[.int .i64 0, .int .i64 0, .int .i64 0, .int .u64 0, .int .u64 0, .bool false] 55)) = W1 := ⟨_, rfl⟩
  have R := hide (show W1.rowIs b 87 8 (mvC hand room st fst en val t) from by
    rw [← hW1]
    skip
    repeat (first | (with_reducible refine World.rowIs.set ?_ _ _) | (with_reducible apply World.rowIs.alloc))
    exact h)
  have M := hide (show IsMem W1 bm bw n f from by
    rw [← hW1]
    repeat (first | (with_reducible apply IsMem.alloc) | ((with_reducible refine IsMem.setOther ?_ ?_ ?_ _); rotate_left; (simp; omega); (simp; omega)))
    exact hm)
  have RZ := hide (show W1.rowIs w.heap.size 55 6 zcell from by
    rw [← hW1]
    repeat (with_reducible refine World.rowIs.setOther ?_ ?side _; case side => (simp; omega))
    exact row0 w)
  have T0 := hide (show Touch w W1 (fun k => k = b ∨ k = bw) from by
    rw [← hW1]
    repeat (first | (with_reducible apply Touch.alloc) | (with_reducible refine Touch.setCell ?_ _ ?side _; case side => simp))
    exact Touch.refl w _)
  have sz : W1.heap.size = w.heap.size + 1 := by rw [← hW1]; simp
  have HX := hide hx
  have HF := hide hf'
  have HW : Hid (0 ≤ (⟨hand, 2, 1, 0, u64 (en + 1), true⟩ : Stp).put ∧ (⟨hand, 2, 1, 0, u64 (en + 1), true⟩ : Stp).put ≤ 18446744073709551615) := ⟨u64_lo _, u64_hi _⟩
  clear hm h hx hf' 
  go_enter Try.func102, Try.ntmps102
  go_wp2_with fail
  refine (tell_any R.out).mono ?_
  rintro e w2 ⟨rfl, hw2⟩
  obtain rfl := hw2.symm
  go_wp2_with fail
  clear hW1 c0 fz0 c1 fz1 c2 fz2 c3 fz3 c4 fz4 c5 fz5 c6 fz6 c7 fz7
  generalize hW2 : (W1.setCell ⟨b, 6, none⟩ (.bool true)).setCell ⟨b, 7, none⟩ (.int .u64 val) = W2
  have R2 := hide (show W2.rowIs b 87 8 (mvC hand room st fst en val ⟨true, val⟩) from by
    rw [← hW2]
    exact World.rowIs.congr ((R.out.set 6 _).set 7 _) (fun i hi => mv_told hand room st fst en val t val i hi))
  have M2 := hide (show IsMem W2 bm bw n f from by
    rw [← hW2]
    repeat ((with_reducible refine IsMem.setOther ?_ ?_ ?_ _); rotate_left; (simp; omega); (simp; omega))
    exact M.out)
  have RZ2 := hide (show W2.rowIs w.heap.size 55 6 zcell from by
    rw [← hW2]
    repeat (with_reducible refine World.rowIs.setOther ?_ ?side _; case side => (simp; omega))
    exact RZ.out)
  have T02 := hide (show Touch w W2 (fun k => k = b ∨ k = bw) from by
    rw [← hW2]
    repeat (with_reducible refine Touch.setCell ?_ _ ?side _; case side => simp)
    exact T0.out)
  have sz2 : W2.heap.size = w.heap.size + 1 := by rw [← hW2]; simpa using sz
  clear hW2 R M RZ T0 sz
  obtain ⟨dS, hdS1, hdS2⟩ := row46
  have HD := hide (And.intro hdS1 hdS2)
  clear hdS1 hdS2
  refine RG.region (ks := [(0, 10), (1, 11), (2, 12), (3, 13), (4, 14), (5, 15), (6, 16), (7, 17), (8, 18), (9, 19), (10, 20), (12, 5)]) (vals := fun i => match i with
      | 0 => .pointer (some ⟨b, 0, none⟩)
      | 1 => .pointer (some ⟨b, 0, none⟩)
      | 2 => .pointer (some ⟨b, 0, none⟩)
      | 3 => .pointer (some ⟨bm, 0, none⟩)
      | 4 => .pointer (some ⟨b, 0, none⟩)
      | 5 => .pointer (some ⟨b, 0, none⟩)
      | 6 => .pointer (some ⟨b, 0, none⟩)
      | 7 => .pointer (some ⟨b, 4, none⟩)
      | 8 => .int .u64 en
      | 9 => .int .u64 (u64 (en + 1))
      | 10 => .agg #[.int .i64 x.hand, .int .i64 x.act, .int .i64 x.at_, .int .u64 x.had, .int .u64 x.put, .bool x.ok]
      | 12 => .int .i64 1
      | _ => undef) (x := 2) (WI := fun L v w' => RG.SR b 87 8 (mvC hand room st fst en val ⟨true, val⟩) bm bw n f f' x w.heap.size W2 (L 10) (L 11) w') (by kernel_rfl) ?gg ?bk rfl ?dd ?xx (RG.SR.start R2.out M2.out RZ2.out) ?does ?fin
  case gg =>
    intro i o ho
    have hi : i < 13 := by have := (Array.getElem?_eq_some_iff.1 ho).1; simpa using this
    match i, hi with
    | 0, _ | 1, _ | 2, _ | 3, _ | 4, _ | 5, _ | 6, _ | 7, _ | 8, _ | 9, _ | 10, _ | 11, _ | 12, _ => injection ho with ho; subst ho; rfl
  case bk =>
    intro i o ho
    have hi : i < 13 := by have := (Array.getElem?_eq_some_iff.1 ho).1; simpa using this
    match i, hi with
    | 0, _ | 1, _ | 2, _ | 3, _ | 4, _ | 5, _ | 6, _ | 7, _ | 8, _ | 9, _ | 10, _ | 11, _ | 12, _ => injection ho with ho; subst ho; simp [Region.binds]
  case dd =>
    intro k hk
    have hk' : k < 21 := by
      simp [RetN.D] at hk
      omega
    simpa using hk'
  case xx => simp
  case does =>
    intro i o ho
    have hi : i < 13 := by have := (Array.getElem?_eq_some_iff.1 ho).1; simpa using this
    match i, hi with
    | 0, _ => injection ho with ho; subst ho; exact RG.Does.read rfl (fun L v w' h => RG.SR.skip (by decide) (by decide) h) (fun L a w' hI hd => ex_move rfl (hI.fix 0 (Reg.notD rfl) (by decide)))
    | 1, _ => injection ho with ho; subst ho; exact RG.Does.read rfl (fun L v w' h => RG.SR.skip (by decide) (by decide) h) (fun L a w' hI hd => ex_nil rfl (hI.pure 0 _ _ rfl (hd ⟨0, .data⟩ (by simp) rfl)))
    | 2, _ => injection ho with ho; subst ho; exact RG.Does.read rfl (fun L v w' h => RG.SR.skip (by decide) (by decide) h) (fun L a w' hI hd => ex_field rfl (hI.pure 1 _ _ rfl (hd ⟨1, .data⟩ (by simp) rfl)) (fieldTl w' _))
    | 3, _ => injection ho with ho; subst ho; exact RG.Does.read rfl (fun L v w' h => RG.SR.skip (by decide) (by decide) h) (fun L a w' hI hd => ex_move rfl (hI.fix 1 (Reg.notD rfl) (by decide)))
    | 4, _ => injection ho with ho; subst ho; exact RG.Does.read rfl (fun L v w' h => RG.SR.skip (by decide) (by decide) h) (fun L a w' hI hd => ex_move rfl (hI.fix 0 (Reg.notD rfl) (by decide)))
    | 5, _ => injection ho with ho; subst ho; exact RG.Does.read rfl (fun L v w' h => RG.SR.skip (by decide) (by decide) h) (fun L a w' hI hd => ex_nil rfl (hI.pure 4 _ _ rfl (hd ⟨4, .data⟩ (by simp) rfl)))
    | 6, _ => injection ho with ho; subst ho; exact RG.Does.read rfl (fun L v w' h => RG.SR.skip (by decide) (by decide) h) (fun L a w' hI hd => ex_field rfl (hI.pure 5 _ _ rfl (hd ⟨5, .data⟩ (by simp) rfl)) (fieldTl w' _))
    | 7, _ => injection ho with ho; subst ho; exact RG.Does.read rfl (fun L v w' h => RG.SR.skip (by decide) (by decide) h) (fun L a w' hI hd => ex_field rfl (hI.pure 6 _ _ rfl (hd ⟨6, .data⟩ (by simp) rfl)) (fieldM4 w' _))
    | 8, _ => injection ho with ho; subst ho; exact RG.Does.read rfl (fun L v w' h => RG.SR.skip (by decide) (by decide) h) (fun L a w' hI hd => ex_load rfl (hI.pure 7 _ _ rfl (hd ⟨7, .data⟩ (by simp) rfl)) (aggU w') (hI.world.row.cell (i := 4) (by omega)))
    | 9, _ => injection ho with ho; subst ho; exact RG.Does.read rfl (fun L v w' h => RG.SR.skip (by decide) (by decide) h) (fun L a w' hI hd => ex_add1 rfl (hI.pure 8 _ _ rfl (hd ⟨8, .data⟩ (by simp) rfl)) rfl)
    | 10, _ => injection ho with ho; subst ho; exact RG.Does.call rfl (fun L a w' hI hd => call4 rfl (hI.pure 2 _ _ rfl (hd ⟨2, .data⟩ (by simp) rfl)) (hI.pure 3 _ _ rfl (hd ⟨3, .data⟩ (by simp) rfl)) rfl (hI.pure 9 _ _ rfl (hd ⟨9, .data⟩ (by simp) rfl)) rfl (callStore _ _)) (SRcalls h2 hn4 (by decide) ((fun w h hm => store_any (h.cell (i := 0) (by omega)) h.lt hm HW.out HX.out HF.out)))
    | 11, _ => injection ho with ho; subst ho; exact RG.Does.put (ls := x.cells) rfl rfl rfl size46 (by simp [Stp.cells, Value.oneCell']) (fun L a w' hI hL hd => ⟨(hI.pure 10 _ _ rfl (hd ⟨10, .data⟩ (by simp) rfl)), by obtain ⟨e2, e3⟩ := RG.SR.put hI.world (hd ⟨10, .data⟩ (by simp) rfl) (Ne.symm hn3) (Ne.symm hn5) (Ne.symm hn4); exact ⟨w.heap.size, 0, hI.fix 4 (Reg.notD rfl) (by decide), e2, by show RG.SR _ _ _ _ _ _ _ _ _ _ _ _ (upd L 11 true 10) (upd L 11 true 11) _; rw [upd_same, upd_other _ _ (show 10 ≠ 11 by decide)]; exact e3⟩⟩)
    | 12, _ => injection ho with ho; subst ho; exact RG.Does.read rfl (fun L v w' h => RG.SR.skip (by decide) (by decide) h) (fun L a w' hI hd => ex_assign rfl rfl)
  case fin =>
    intro L a' w' hI hall
    rename_i K2 hK2
    refine hK2 _ _ ?_
    have hw := hI.world
    simp only [hall 10 (by decide), hall 11 (by decide), if_true] at hw
    have rE := hw.sto rfl
    have pE : a'.eval (.tmp 4) = .pointer (some ⟨w.heap.size, 0, none⟩) := hI.fix 4 (Reg.notD rfl) (by decide)
    have pe : a'.eval (.tmp 5) = .int .i64 1 := hI.pure 12 5 _ rfl (hall 12 (by decide))
    have hdf : a'.defers = [] := hI.df
    have hS := run_loadVar_mid (P := Try.prog) w' w.heap.size 0 _ _ dS rE HD.out.1 HD.out.2 size46
    have hres := results_ct (Q := Try.prog) (fn := Try.f102) (tmps := a'.tmps) (t := 4) (t' := 5) (W := w') (by rfl) pE hS
    rw [show a'.tmps.getD 5 undef = .int .i64 1 from pe] at hres
    go_wp2
    exact bodyPost_ret (v := .tuple #[x.val, .int .i64 1]) hres hdf ⟨rfl, hw.row, by simpa using hw.mem, T02.out.trans' hw.tch (fun k hk h => by rcases h with h | h; exact .inr h; omega)⟩

end Deal
end Go.Proofs.Ytdgolkdedghajaa
