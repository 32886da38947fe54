/-
  Lemmas: EpochB.
-/
import Derived.Test.YtbohmahjpolapaaTp21
/-
  The tasks of an epoch: Enter, Leave, Retire.
-/
namespace Go.Proofs.Ytbohmahjpolapaa
open Go.RowKit
set_option linter.unusedVariables false
set_option linter.unusedSimpArgs false
set_option maxRecDepth 20000
namespace Epoch

set_option maxHeartbeats 4000000 in
theorem es0 {w : World} {b bm bw n : Nat} {f f' : Nat → Int} {x : Stp} {hand seen : Int}  {t : Ans} (h : w.rowIs b 111 5 (enC hand seen false t)) (hm : IsMem w bm bw n f) (h1 : b ≠ bm) (h2 : b ≠ bw) 
    (hx : stepOf n f ⟨hand, 1, 0, 0, 0, true⟩ = x) (hf' : wordsOf n f ⟨hand, 1, 0, 0, 0, true⟩ = f') :
    Calls Try.prog 102 #[.pointer (some ⟨b, 0, none⟩), .pointer (some ⟨bm, 0, none⟩)] w fun e w' => e = .returned (.tuple #[x.val, .int .i64 0]) ∧
      w'.rowIs b 111 5 (enC hand x.had true t) ∧ IsMem w' bm bw n f' ∧ Touch w w' (fun k => k = b ∨ k = bw) := by
  obtain ⟨⟨c0, fz0⟩, ⟨c1, fz1⟩, ⟨c2, fz2⟩, ⟨c3, fz3⟩, c4, fz4⟩ := e_facts h
  have hl := h.lt
  have lw := hm.row.lt
  have lm := hm.head.lt
  have hn3 : w.heap.size ≠ b := by omega
  have hn4 : w.heap.size ≠ bw := by omega
  have hn5 : w.heap.size ≠ bm := by omega
  obtain ⟨W1, hW1⟩ : ∃ W1, (w.alloc (.cells #[.int .i64 0, .int .i64 0, .int .i64 0, .int .u64 0, .int .u64 0, .bool false] 47)) = W1 := ⟨_, rfl⟩
  have R := hide (show W1.rowIs b 111 5 (enC hand seen false t) from by
    rw [← hW1]
    skip
    repeat (first | (with_reducible refine World.rowIs.set ?_ _ _) | (with_reducible apply World.rowIs.alloc))
    exact h)
  have M := hide (show IsMem W1 bm bw n f from by
    rw [← hW1]
    repeat (first | (with_reducible apply IsMem.alloc) | ((with_reducible refine IsMem.setOther ?_ ?_ ?_ _); rotate_left; (simp; omega); (simp; omega)))
    exact hm)
  have RZ := hide (show W1.rowIs w.heap.size 47 6 zcell from by
    rw [← hW1]
    have := row0 w
    simpa using this)
  have T0 := hide (show Touch w W1 (fun k => k = b ∨ k = bw) from by
    rw [← hW1]
    repeat (first | (with_reducible apply Touch.alloc) | (with_reducible refine Touch.setCell ?_ _ ?side _; case side => simp))
    exact Touch.refl w _)
  have sz : W1.heap.size = w.heap.size + 1 := by rw [← hW1]; simp
  have lW1 : b < W1.heap.size := by omega
  obtain ⟨⟨e0, ef0⟩, ⟨e1, ef1⟩, ⟨e2, ef2⟩, ⟨e3, ef3⟩, e4, ef4⟩ := e_facts R.out
  have HX := hide hx
  have HF := hide hf'
  have HW : Hid (0 ≤ (⟨hand, 1, 0, 0, 0, true⟩ : Stp).put ∧ (⟨hand, 1, 0, 0, 0, true⟩ : Stp).put ≤ 18446744073709551615) := ⟨by show (0 : Int) ≤ 0; omega, by show (0 : Int) ≤ 18446744073709551615; omega⟩
  clear hm h hx hf' 
  go_enter Try.func102, Try.ntmps102
  go_wp2_with fail
  clear hW1 c0 fz0 e0 ef0 c1 fz1 e1 ef1 c2 fz2 e2 ef2 c3 fz3 e3 ef3 c4 fz4 e4 ef4
  refine (load_any (R.out.cell (i := 0) (by omega)) (by omega) M.out HW.out HX.out HF.out).mono ?_
  rintro e w1 ⟨rfl, hm1, hg1⟩
  simp only [Stp.val]
  have lw1 := hg1.size
  have R1 := hide (show w1.rowIs b 111 5 (enC hand seen false t) from R.out.of_block (hg1.block b (by omega) (by simpa using h2)))
  have RR := hide (show w1.rowIs w.heap.size 47 6 zcell from RZ.out.of_block (hg1.block w.heap.size (by omega) (by simpa using hn4)))
  have M1 := hide hm1
  have T1 := hide (T0.out.trans' (Touch.of_grown hg1) (fun k _ e => .inr (by simpa using e)))
  have l1 : b < w1.heap.size := by omega
  have l2 : w.heap.size < w1.heap.size := by omega
  have l3 : bw < w1.heap.size := by omega
  have l4 : bm < w1.heap.size := by omega
  clear hm1 hg1
  obtain ⟨⟨d0, df0⟩, ⟨d1, df1⟩, ⟨d2, df2⟩, ⟨d3, df3⟩, d4, df4⟩ := e_facts R1.out
  obtain ⟨⟨r0, rf0⟩, ⟨r1, rf1⟩, ⟨r2, rf2⟩, ⟨r3, rf3⟩, ⟨r4, rf4⟩, r5, rf5⟩ := res_facts RR.out
  go_wp2_with fail
  go_light
  refine bodyPost_ret (v := .tuple #[x.val, .int .i64 0]) ?res rfl ⟨rfl, ?row, ?mem, ?tch⟩
  case row =>
    refine World.rowIs.congr ?_ (fun i hi => e_load hand seen false t x.had i hi)
    repeat (first | (with_reducible apply World.rowIs.alloc) | (with_reducible apply World.rowIs.drew) | (with_reducible refine World.rowIs.setOther ?_ ?side _; case side => (simp; omega)))
    with_reducible refine World.rowIs.set ?_ 4 _
    repeat (first | (with_reducible apply World.rowIs.alloc) | (with_reducible apply World.rowIs.drew) | (with_reducible refine World.rowIs.setOther ?_ ?side _; case side => (simp; omega)))
    with_reducible refine World.rowIs.set ?_ 3 _
    repeat (first | (with_reducible apply World.rowIs.alloc) | (with_reducible apply World.rowIs.drew) | (with_reducible refine World.rowIs.setOther ?_ ?side _; case side => (simp; omega)))
    with_reducible exact R1.out
  case mem =>
    repeat (first | (with_reducible apply IsMem.alloc) | (with_reducible apply IsMem.drew) | ((with_reducible refine IsMem.setOther ?_ ?_ ?_ _); rotate_left; (simp; omega); (simp; omega)))
    with_reducible exact M1.out
  case tch =>
    repeat (first | (with_reducible apply Touch.alloc) | (with_reducible apply Touch.drew) | (with_reducible refine Touch.setCell ?_ _ ?side _; case side => (first | (simp; done) | (simp; omega))))
    with_reducible exact T1.out
  case res => simp [results, Try.results102, go_sem, Stp.val, *]

set_option maxHeartbeats 4000000 in
theorem es1 {w : World} {b bm bw n : Nat} {f f' : Nat → Int} {x : Stp} {hand seen : Int}  {t : Ans} (h : w.rowIs b 111 5 (enC hand seen true t)) (hm : IsMem w bm bw n f) (h1 : b ≠ bm) (h2 : b ≠ bw) (hh : 0 ≤ hand ∧ hand < 8) {nv : Int} (hnv : u64 (seen + 1) = nv) 
    (hx : stepOf n f ⟨hand, 2, 1 + hand, 0, nv, true⟩ = x) (hf' : wordsOf n f ⟨hand, 2, 1 + hand, 0, nv, true⟩ = f') :
    Calls Try.prog 102 #[.pointer (some ⟨b, 0, none⟩), .pointer (some ⟨bm, 0, none⟩)] w fun e w' => e = .returned (.tuple #[x.val, .int .i64 1]) ∧
      w'.rowIs b 111 5 (enC hand seen true ⟨true, seen⟩) ∧ IsMem w' bm bw n f' ∧ Touch w w' (fun k => k = b ∨ k = bw) := by
  obtain ⟨⟨c0, fz0⟩, ⟨c1, fz1⟩, ⟨c2, fz2⟩, ⟨c3, fz3⟩, c4, fz4⟩ := e_facts h
  have hl := h.lt
  have lw := hm.row.lt
  have lm := hm.head.lt
  have hn3 : w.heap.size ≠ b := by omega
  have hn4 : w.heap.size ≠ bw := by omega
  have hn5 : w.heap.size ≠ bm := by omega
  obtain ⟨W1, hW1⟩ : ∃ W1, (((w.setCell ⟨b, 1, none⟩ (.bool true)).setCell ⟨b, 2, none⟩ (.int .u64 seen)).alloc (.cells #[.int .i64 0, .int .i64 0, .int .i64 0, .int .u64 0, .int .u64 0, .bool false] 47)) = W1 := ⟨_, rfl⟩
  have R := hide (show W1.rowIs b 111 5 (enC hand seen true ⟨true, seen⟩) from by
    rw [← hW1]
    refine World.rowIs.congr ?_ (fun i hi => e_told hand seen true t seen i hi)
    repeat (first | (with_reducible refine World.rowIs.set ?_ _ _) | (with_reducible apply World.rowIs.alloc))
    exact h)
  have M := hide (show IsMem W1 bm bw n f from by
    rw [← hW1]
    repeat (first | (with_reducible apply IsMem.alloc) | ((with_reducible refine IsMem.setOther ?_ ?_ ?_ _); rotate_left; (simp; omega); (simp; omega)))
    exact hm)
  have RZ := hide (show W1.rowIs w.heap.size 47 6 zcell from by
    rw [← hW1]
    have := row0 ((w.setCell ⟨b, 1, none⟩ (.bool true)).setCell ⟨b, 2, none⟩ (.int .u64 seen))
    simpa using this)
  have T0 := hide (show Touch w W1 (fun k => k = b ∨ k = bw) from by
    rw [← hW1]
    repeat (first | (with_reducible apply Touch.alloc) | (with_reducible refine Touch.setCell ?_ _ ?side _; case side => simp))
    exact Touch.refl w _)
  have sz : W1.heap.size = w.heap.size + 1 := by rw [← hW1]; simp
  have lW1 : b < W1.heap.size := by omega
  obtain ⟨⟨e0, ef0⟩, ⟨e1, ef1⟩, ⟨e2, ef2⟩, ⟨e3, ef3⟩, e4, ef4⟩ := e_facts R.out
  have HX := hide hx
  have HF := hide hf'
  have HW : Hid (0 ≤ (⟨hand, 2, 1 + hand, 0, nv, true⟩ : Stp).put ∧ (⟨hand, 2, 1 + hand, 0, nv, true⟩ : Stp).put ≤ 18446744073709551615) := (by rw [← hnv]; exact hide ⟨u64_lo _, u64_hi _⟩)
  have HNV := hide hnv
  have HH := hide hh
  clear hm h hx hf' hnv hh
  go_enter Try.func102, Try.ntmps102
  go_wp2_with fail
  clear hW1 c0 fz0 e0 ef0 c1 fz1 e1 ef1 c2 fz2 e2 ef2 c3 fz3 e3 ef3 c4 fz4 e4 ef4
  obtain ⟨dS, hdS1, hdS2⟩ := row46
  have HD := hide (And.intro hdS1 hdS2)
  clear hdS1 hdS2
  refine RG.region (ks := [(0, 35), (1, 36), (2, 37), (3, 38), (4, 39), (5, 40), (6, 41), (7, 42), (8, 43), (9, 44), (11, 5)]) (vals := fun i => match i with
      | 0 => .pointer (some ⟨b, 0, none⟩)
      | 1 => .pointer (some ⟨b, 0, none⟩)
      | 2 => .pointer (some ⟨b, 0, none⟩)
      | 3 => .pointer (some ⟨bm, 0, none⟩)
      | 4 => .pointer (some ⟨b, 0, none⟩)
      | 5 => .pointer (some ⟨b, 0, none⟩)
      | 6 => .pointer (some ⟨b, 3, none⟩)
      | 7 => .int .u64 seen
      | 8 => .int .u64 nv
      | 9 => .agg #[.int .i64 x.hand, .int .i64 x.act, .int .i64 x.at_, .int .u64 x.had, .int .u64 x.put, .bool x.ok]
      | 11 => .int .i64 1
      | _ => undef) (x := 2) (WI := fun L v w' => RG.SR b 111 5 (enC hand seen true ⟨true, seen⟩) bm bw n f f' x w.heap.size W1 (L 9) (L 10) w') (by kernel_rfl) ?gg ?bk rfl ?dd ?xx (RG.SR.start R.out M.out RZ.out) ?does ?fin
  case gg =>
    intro i o ho
    have hi : i < 12 := by have := (Array.getElem?_eq_some_iff.1 ho).1; simpa using this
    match i, hi with
    | 0, _ | 1, _ | 2, _ | 3, _ | 4, _ | 5, _ | 6, _ | 7, _ | 8, _ | 9, _ | 10, _ | 11, _ => injection ho with ho; subst ho; rfl
  case bk =>
    intro i o ho
    have hi : i < 12 := by have := (Array.getElem?_eq_some_iff.1 ho).1; simpa using this
    match i, hi with
    | 0, _ | 1, _ | 2, _ | 3, _ | 4, _ | 5, _ | 6, _ | 7, _ | 8, _ | 9, _ | 10, _ | 11, _ => injection ho with ho; subst ho; simp [Region.binds]
  case dd =>
    intro k hk
    have hk' : k < 45 := by
      simp [RetN.D] at hk
      omega
    simpa using hk'
  case xx => simp
  case does =>
    intro i o ho
    have hi : i < 12 := by have := (Array.getElem?_eq_some_iff.1 ho).1; simpa using this
    match i, hi with
    | 0, _ => injection ho with ho; subst ho; exact RG.Does.read rfl (fun L v w' h => RG.SR.skip (by decide) (by decide) h) (fun L a w' hI hd => ex_move rfl (hI.fix 0 (Reg.notD rfl) (by decide)))
    | 1, _ => injection ho with ho; subst ho; exact RG.Does.read rfl (fun L v w' h => RG.SR.skip (by decide) (by decide) h) (fun L a w' hI hd => ex_nil rfl (hI.pure 0 _ _ rfl (hd ⟨0, .data⟩ (by simp) rfl)))
    | 2, _ => injection ho with ho; subst ho; exact RG.Does.read rfl (fun L v w' h => RG.SR.skip (by decide) (by decide) h) (fun L a w' hI hd => ex_field rfl (hI.pure 1 _ _ rfl (hd ⟨1, .data⟩ (by simp) rfl)) (fieldEe0 w' _))
    | 3, _ => injection ho with ho; subst ho; exact RG.Does.read rfl (fun L v w' h => RG.SR.skip (by decide) (by decide) h) (fun L a w' hI hd => ex_move rfl (hI.fix 1 (Reg.notD rfl) (by decide)))
    | 4, _ => injection ho with ho; subst ho; exact RG.Does.read rfl (fun L v w' h => RG.SR.skip (by decide) (by decide) h) (fun L a w' hI hd => ex_move rfl (hI.fix 0 (Reg.notD rfl) (by decide)))
    | 5, _ => injection ho with ho; subst ho; exact RG.Does.read rfl (fun L v w' h => RG.SR.skip (by decide) (by decide) h) (fun L a w' hI hd => ex_nil rfl (hI.pure 4 _ _ rfl (hd ⟨4, .data⟩ (by simp) rfl)))
    | 6, _ => injection ho with ho; subst ho; exact RG.Does.read rfl (fun L v w' h => RG.SR.skip (by decide) (by decide) h) (fun L a w' hI hd => ex_field rfl (hI.pure 5 _ _ rfl (hd ⟨5, .data⟩ (by simp) rfl)) (fieldEe1 w' _))
    | 7, _ => injection ho with ho; subst ho; exact RG.Does.read rfl (fun L v w' h => RG.SR.skip (by decide) (by decide) h) (fun L a w' hI hd => ex_load rfl (hI.pure 6 _ _ rfl (hd ⟨6, .data⟩ (by simp) rfl)) (aggU w') (hI.world.row.cell (i := 3) (by omega)))
    | 8, _ => injection ho with ho; subst ho; exact RG.Does.read rfl (fun L v w' h => RG.SR.skip (by decide) (by decide) h) (fun L a w' hI hd => ex_addc rfl (hI.pure 7 _ _ rfl (hd ⟨7, .data⟩ (by simp) rfl)) rfl HNV.out)
    | 9, _ => injection ho with ho; subst ho; exact RG.Does.call rfl (fun L a w' hI hd => call3 rfl (hI.pure 2 _ _ rfl (hd ⟨2, .data⟩ (by simp) rfl)) (hI.pure 3 _ _ rfl (hd ⟨3, .data⟩ (by simp) rfl)) (hI.pure 8 _ _ rfl (hd ⟨8, .data⟩ (by simp) rfl)) rfl (callOwn _ _)) (SRcalls h2 hn4 (by decide) (fun w h hm => own_any h rfl (by decide) hm (by simpa using h2) HH.out HW.out HX.out HF.out))
    | 10, _ => injection ho with ho; subst ho; exact RG.Does.put (ls := x.cells) rfl rfl rfl size46 (by simp [Stp.cells, Value.oneCell']) (fun L a w' hI hL hd => ⟨(hI.pure 9 _ _ rfl (hd ⟨9, .data⟩ (by simp) rfl)), by obtain ⟨e2, e3⟩ := RG.SR.put hI.world (hd ⟨9, .data⟩ (by simp) rfl) (Ne.symm hn3) (Ne.symm hn5) (Ne.symm hn4); exact ⟨w.heap.size, 0, hI.fix 4 (Reg.notD rfl) (by decide), e2, by show RG.SR _ _ _ _ _ _ _ _ _ _ _ _ (upd L 10 true 9) (upd L 10 true 10) _; rw [upd_same, upd_other _ _ (show 9 ≠ 10 by decide)]; exact e3⟩⟩)
    | 11, _ => injection ho with ho; subst ho; exact RG.Does.read rfl (fun L v w' h => RG.SR.skip (by decide) (by decide) h) (fun L a w' hI hd => ex_assign rfl rfl)
  case fin =>
    intro L a' w' hI hall
    rename_i K2 hK2
    refine hK2 _ _ ?_
    have hw := hI.world
    simp only [hall 9 (by decide), hall 10 (by decide), if_true] at hw
    have rE := hw.sto rfl
    have pE : a'.eval (.tmp 4) = .pointer (some ⟨w.heap.size, 0, none⟩) := hI.fix 4 (Reg.notD rfl) (by decide)
    have pe : a'.eval (.tmp 5) = .int .i64 1 := hI.pure 11 5 _ rfl (hall 11 (by decide))
    have hdf : a'.defers = [] := hI.df
    have hS := run_loadVar_mid (P := Try.prog) w' w.heap.size 0 _ _ dS rE HD.out.1 HD.out.2 size46
    have hres := results_ct (Q := Try.prog) (fn := Try.f102) (tmps := a'.tmps) (t := 4) (t' := 5) (W := w') (by rfl) pE hS
    rw [show a'.tmps.getD 5 undef = .int .i64 1 from pe] at hres
    go_wp2
    exact bodyPost_ret (v := .tuple #[x.val, .int .i64 1]) hres hdf ⟨rfl, hw.row, by simpa using hw.mem, T0.out.trans' hw.tch (fun k hk h => by rcases h with h | h; exact .inr h; omega)⟩

set_option maxHeartbeats 4000000 in
theorem ls0 {w : World} {b bm bw n : Nat} {f f' : Nat → Int} {x : Stp} {hand : Int} {t : Ans} (h : w.rowIs b 114 3 (lvC hand t)) (hm : IsMem w bm bw n f) (h1 : b ≠ bm) (h2 : b ≠ bw) (hh : 0 ≤ hand ∧ hand < 8) 
    (hx : stepOf n f ⟨hand, 2, 1 + hand, 0, 0, true⟩ = x) (hf' : wordsOf n f ⟨hand, 2, 1 + hand, 0, 0, true⟩ = f') :
    Calls Try.prog 114 #[.pointer (some ⟨b, 0, none⟩), .pointer (some ⟨bm, 0, none⟩)] w fun e w' => e = .returned (.tuple #[x.val, .int .i64 1]) ∧
      w'.rowIs b 114 3 (lvC hand ⟨true, 0⟩) ∧ IsMem w' bm bw n f' ∧ Touch w w' (fun k => k = b ∨ k = bw) := by
  obtain ⟨⟨c0, fz0⟩, ⟨c1, fz1⟩, c2, fz2⟩ := l_facts h
  have hl := h.lt
  have lw := hm.row.lt
  have lm := hm.head.lt
  have hn3 : w.heap.size ≠ b := by omega
  have hn4 : w.heap.size ≠ bw := by omega
  have hn5 : w.heap.size ≠ bm := by omega
  obtain ⟨W1, hW1⟩ : ∃ W1, (((w.setCell ⟨b, 1, none⟩ (.bool true)).setCell ⟨b, 2, none⟩ (.int .u64 0)).alloc (.cells #[.int .i64 0, .int .i64 0, .int .i64 0, .int .u64 0, .int .u64 0, .bool false] 47)) = W1 := ⟨_, rfl⟩
  have R := hide (show W1.rowIs b 114 3 (lvC hand ⟨true, 0⟩) from by
    rw [← hW1]
    refine World.rowIs.congr ?_ (fun i hi => l_told hand t 0 i hi)
    repeat (first | (with_reducible refine World.rowIs.set ?_ _ _) | (with_reducible apply World.rowIs.alloc))
    exact h)
  have M := hide (show IsMem W1 bm bw n f from by
    rw [← hW1]
    repeat (first | (with_reducible apply IsMem.alloc) | ((with_reducible refine IsMem.setOther ?_ ?_ ?_ _); rotate_left; (simp; omega); (simp; omega)))
    exact hm)
  have RZ := hide (show W1.rowIs w.heap.size 47 6 zcell from by
    rw [← hW1]
    have := row0 ((w.setCell ⟨b, 1, none⟩ (.bool true)).setCell ⟨b, 2, none⟩ (.int .u64 0))
    simpa using this)
  have T0 := hide (show Touch w W1 (fun k => k = b ∨ k = bw) from by
    rw [← hW1]
    repeat (first | (with_reducible apply Touch.alloc) | (with_reducible refine Touch.setCell ?_ _ ?side _; case side => simp))
    exact Touch.refl w _)
  have sz : W1.heap.size = w.heap.size + 1 := by rw [← hW1]; simp
  have lW1 : b < W1.heap.size := by omega
  obtain ⟨⟨e0, ef0⟩, ⟨e1, ef1⟩, e2, ef2⟩ := l_facts R.out
  have HX := hide hx
  have HF := hide hf'
  have HW : Hid (0 ≤ (⟨hand, 2, 1 + hand, 0, 0, true⟩ : Stp).put ∧ (⟨hand, 2, 1 + hand, 0, 0, true⟩ : Stp).put ≤ 18446744073709551615) := ⟨by show (0 : Int) ≤ 0; omega, by show (0 : Int) ≤ 18446744073709551615; omega⟩
  have HH := hide hh
  clear hm h hx hf' hh
  go_enter Try.func114, Try.ntmps114
  go_wp2_with fail
  clear hW1 c0 fz0 e0 ef0 c1 fz1 e1 ef1 c2 fz2 e2 ef2
  refine (own_any R.out rfl (by decide) M.out (by simpa using h2) HH.out HW.out HX.out HF.out).mono ?_
  rintro e w1 ⟨rfl, hm1, hg1⟩
  simp only [Stp.val]
  have lw1 := hg1.size
  have R1 := hide (show w1.rowIs b 114 3 (lvC hand ⟨true, 0⟩) from R.out.of_block (hg1.block b (by omega) (by simpa using h2)))
  have RR := hide (show w1.rowIs w.heap.size 47 6 zcell from RZ.out.of_block (hg1.block w.heap.size (by omega) (by simpa using hn4)))
  have M1 := hide hm1
  have T1 := hide (T0.out.trans' (Touch.of_grown hg1) (fun k _ e => .inr (by simpa using e)))
  have l1 : b < w1.heap.size := by omega
  have l2 : w.heap.size < w1.heap.size := by omega
  have l3 : bw < w1.heap.size := by omega
  have l4 : bm < w1.heap.size := by omega
  clear hm1 hg1
  obtain ⟨⟨d0, df0⟩, ⟨d1, df1⟩, d2, df2⟩ := l_facts R1.out
  obtain ⟨⟨r0, rf0⟩, ⟨r1, rf1⟩, ⟨r2, rf2⟩, ⟨r3, rf3⟩, ⟨r4, rf4⟩, r5, rf5⟩ := res_facts RR.out
  go_wp2_with fail
  go_light
  refine bodyPost_ret (v := .tuple #[x.val, .int .i64 1]) ?res rfl ⟨rfl, ?row, ?mem, ?tch⟩
  case row =>
    repeat (first | (with_reducible apply World.rowIs.alloc) | (with_reducible apply World.rowIs.drew) | (with_reducible refine World.rowIs.setOther ?_ ?side _; case side => (simp; omega)))
    with_reducible exact R1.out
  case mem =>
    repeat (first | (with_reducible apply IsMem.alloc) | (with_reducible apply IsMem.drew) | ((with_reducible refine IsMem.setOther ?_ ?_ ?_ _); rotate_left; (simp; omega); (simp; omega)))
    with_reducible exact M1.out
  case tch =>
    repeat (first | (with_reducible apply Touch.alloc) | (with_reducible apply Touch.drew) | (with_reducible refine Touch.setCell ?_ _ ?side _; case side => (first | (simp; done) | (simp; omega))))
    with_reducible exact T1.out
  case res => simp [results, Try.results114, go_sem, Stp.val, *]

set_option maxHeartbeats 4000000 in
theorem rs0 {w : World} {b bm bw n : Nat} {f f' : Nat → Int} {x : Stp} {hand place seen : Int}  {t : Ans} (h : w.rowIs b 117 6 (rtC hand place seen false t)) (hm : IsMem w bm bw n f) (h1 : b ≠ bm) (h2 : b ≠ bw) 
    (hx : stepOf n f ⟨hand, 1, 0, 0, 0, true⟩ = x) (hf' : wordsOf n f ⟨hand, 1, 0, 0, 0, true⟩ = f') :
    Calls Try.prog 115 #[.pointer (some ⟨b, 0, none⟩), .pointer (some ⟨bm, 0, none⟩)] w fun e w' => e = .returned (.tuple #[x.val, .int .i64 0]) ∧
      w'.rowIs b 117 6 (rtC hand place x.had true t) ∧ IsMem w' bm bw n f' ∧ Touch w w' (fun k => k = b ∨ k = bw) := by
  obtain ⟨⟨c0, fz0⟩, ⟨c1, fz1⟩, ⟨c2, fz2⟩, ⟨c3, fz3⟩, ⟨c4, fz4⟩, c5, fz5⟩ := r_facts h
  have hl := h.lt
  have lw := hm.row.lt
  have lm := hm.head.lt
  have hn3 : w.heap.size ≠ b := by omega
  have hn4 : w.heap.size ≠ bw := by omega
  have hn5 : w.heap.size ≠ bm := by omega
  obtain ⟨W1, hW1⟩ : ∃ W1, (w.alloc (.cells #[.int .i64 0, .int .i64 0, .int .i64 0, .int .u64 0, .int .u64 0, .bool false] 47)) = W1 := ⟨_, rfl⟩
  have R := hide (show W1.rowIs b 117 6 (rtC hand place seen false t) from by
    rw [← hW1]
    skip
    repeat (first | (with_reducible refine World.rowIs.set ?_ _ _) | (with_reducible apply World.rowIs.alloc))
    exact h)
  have M := hide (show IsMem W1 bm bw n f from by
    rw [← hW1]
    repeat (first | (with_reducible apply IsMem.alloc) | ((with_reducible refine IsMem.setOther ?_ ?_ ?_ _); rotate_left; (simp; omega); (simp; omega)))
    exact hm)
  have RZ := hide (show W1.rowIs w.heap.size 47 6 zcell from by
    rw [← hW1]
    have := row0 w
    simpa using this)
  have T0 := hide (show Touch w W1 (fun k => k = b ∨ k = bw) from by
    rw [← hW1]
    repeat (first | (with_reducible apply Touch.alloc) | (with_reducible refine Touch.setCell ?_ _ ?side _; case side => simp))
    exact Touch.refl w _)
  have sz : W1.heap.size = w.heap.size + 1 := by rw [← hW1]; simp
  have lW1 : b < W1.heap.size := by omega
  obtain ⟨⟨e0, ef0⟩, ⟨e1, ef1⟩, ⟨e2, ef2⟩, ⟨e3, ef3⟩, ⟨e4, ef4⟩, e5, ef5⟩ := r_facts R.out
  have HX := hide hx
  have HF := hide hf'
  have HW : Hid (0 ≤ (⟨hand, 1, 0, 0, 0, true⟩ : Stp).put ∧ (⟨hand, 1, 0, 0, 0, true⟩ : Stp).put ≤ 18446744073709551615) := ⟨by show (0 : Int) ≤ 0; omega, by show (0 : Int) ≤ 18446744073709551615; omega⟩
  clear hm h hx hf' 
  go_enter Try.func115, Try.ntmps115
  go_wp2_with fail
  clear hW1 c0 fz0 e0 ef0 c1 fz1 e1 ef1 c2 fz2 e2 ef2 c3 fz3 e3 ef3 c4 fz4 e4 ef4 c5 fz5 e5 ef5
  refine (load_any (R.out.cell (i := 0) (by omega)) (by omega) M.out HW.out HX.out HF.out).mono ?_
  rintro e w1 ⟨rfl, hm1, hg1⟩
  simp only [Stp.val]
  have lw1 := hg1.size
  have R1 := hide (show w1.rowIs b 117 6 (rtC hand place seen false t) from R.out.of_block (hg1.block b (by omega) (by simpa using h2)))
  have RR := hide (show w1.rowIs w.heap.size 47 6 zcell from RZ.out.of_block (hg1.block w.heap.size (by omega) (by simpa using hn4)))
  have M1 := hide hm1
  have T1 := hide (T0.out.trans' (Touch.of_grown hg1) (fun k _ e => .inr (by simpa using e)))
  have l1 : b < w1.heap.size := by omega
  have l2 : w.heap.size < w1.heap.size := by omega
  have l3 : bw < w1.heap.size := by omega
  have l4 : bm < w1.heap.size := by omega
  clear hm1 hg1
  obtain ⟨⟨d0, df0⟩, ⟨d1, df1⟩, ⟨d2, df2⟩, ⟨d3, df3⟩, ⟨d4, df4⟩, d5, df5⟩ := r_facts R1.out
  obtain ⟨⟨r0, rf0⟩, ⟨r1, rf1⟩, ⟨r2, rf2⟩, ⟨r3, rf3⟩, ⟨r4, rf4⟩, r5, rf5⟩ := res_facts RR.out
  go_wp2_with fail
  go_light
  refine bodyPost_ret (v := .tuple #[x.val, .int .i64 0]) ?res rfl ⟨rfl, ?row, ?mem, ?tch⟩
  case row =>
    refine World.rowIs.congr ?_ (fun i hi => r_load hand place seen false t x.had i hi)
    repeat (first | (with_reducible apply World.rowIs.alloc) | (with_reducible apply World.rowIs.drew) | (with_reducible refine World.rowIs.setOther ?_ ?side _; case side => (simp; omega)))
    with_reducible refine World.rowIs.set ?_ 5 _
    repeat (first | (with_reducible apply World.rowIs.alloc) | (with_reducible apply World.rowIs.drew) | (with_reducible refine World.rowIs.setOther ?_ ?side _; case side => (simp; omega)))
    with_reducible refine World.rowIs.set ?_ 4 _
    repeat (first | (with_reducible apply World.rowIs.alloc) | (with_reducible apply World.rowIs.drew) | (with_reducible refine World.rowIs.setOther ?_ ?side _; case side => (simp; omega)))
    with_reducible exact R1.out
  case mem =>
    repeat (first | (with_reducible apply IsMem.alloc) | (with_reducible apply IsMem.drew) | ((with_reducible refine IsMem.setOther ?_ ?_ ?_ _); rotate_left; (simp; omega); (simp; omega)))
    with_reducible exact M1.out
  case tch =>
    repeat (first | (with_reducible apply Touch.alloc) | (with_reducible apply Touch.drew) | (with_reducible refine Touch.setCell ?_ _ ?side _; case side => (first | (simp; done) | (simp; omega))))
    with_reducible exact T1.out
  case res => simp [results, Try.results115, go_sem, Stp.val, *]

set_option maxHeartbeats 4000000 in
theorem rs1 {w : World} {b bm bw n : Nat} {f f' : Nat → Int} {x : Stp} {hand place seen : Int}  {t : Ans} (h : w.rowIs b 117 6 (rtC hand place seen true t)) (hm : IsMem w bm bw n f) (h1 : b ≠ bm) (h2 : b ≠ bw) (hp : 0 ≤ place ∧ place < 64) {nv : Int} (hnv : u64 (seen + 1) = nv) 
    (hx : stepOf n f ⟨hand, 5, 9 + place, 0, nv, true⟩ = x) (hf' : wordsOf n f ⟨hand, 5, 9 + place, 0, nv, true⟩ = f') :
    Calls Try.prog 115 #[.pointer (some ⟨b, 0, none⟩), .pointer (some ⟨bm, 0, none⟩)] w fun e w' => e = .returned (.tuple #[x.val, .int .i64 1]) ∧
      w'.rowIs b 117 6 (rtC hand place seen true ⟨x.ok, 0⟩) ∧ IsMem w' bm bw n f' ∧ Touch w w' (fun k => k = b ∨ k = bw) := by
  obtain ⟨⟨c0, fz0⟩, ⟨c1, fz1⟩, ⟨c2, fz2⟩, ⟨c3, fz3⟩, ⟨c4, fz4⟩, c5, fz5⟩ := r_facts h
  have hl := h.lt
  have lw := hm.row.lt
  have lm := hm.head.lt
  have hn3 : w.heap.size ≠ b := by omega
  have hn4 : w.heap.size ≠ bw := by omega
  have hn5 : w.heap.size ≠ bm := by omega
  obtain ⟨W1, hW1⟩ : ∃ W1, (w.alloc (.cells #[.int .i64 0, .int .i64 0, .int .i64 0, .int .u64 0, .int .u64 0, .bool false] 47)) = W1 := ⟨_, rfl⟩
  have R := hide (show W1.rowIs b 117 6 (rtC hand place seen true t) from by
    rw [← hW1]
    skip
    repeat (first | (with_reducible refine World.rowIs.set ?_ _ _) | (with_reducible apply World.rowIs.alloc))
    exact h)
  have M := hide (show IsMem W1 bm bw n f from by
    rw [← hW1]
    repeat (first | (with_reducible apply IsMem.alloc) | ((with_reducible refine IsMem.setOther ?_ ?_ ?_ _); rotate_left; (simp; omega); (simp; omega)))
    exact hm)
  have RZ := hide (show W1.rowIs w.heap.size 47 6 zcell from by
    rw [← hW1]
    have := row0 w
    simpa using this)
  have T0 := hide (show Touch w W1 (fun k => k = b ∨ k = bw) from by
    rw [← hW1]
    repeat (first | (with_reducible apply Touch.alloc) | (with_reducible refine Touch.setCell ?_ _ ?side _; case side => simp))
    exact Touch.refl w _)
  have sz : W1.heap.size = w.heap.size + 1 := by rw [← hW1]; simp
  have lW1 : b < W1.heap.size := by omega
  obtain ⟨⟨e0, ef0⟩, ⟨e1, ef1⟩, ⟨e2, ef2⟩, ⟨e3, ef3⟩, ⟨e4, ef4⟩, e5, ef5⟩ := r_facts R.out
  have HX := hide hx
  have HF := hide hf'
  have HW : Hid (0 ≤ (⟨hand, 5, 9 + place, 0, nv, true⟩ : Stp).put ∧ (⟨hand, 5, 9 + place, 0, nv, true⟩ : Stp).put ≤ 18446744073709551615) := (by rw [← hnv]; exact hide ⟨u64_lo _, u64_hi _⟩)
  have HNV := hide hnv
  have HPL := hide (show IntKind.i64.wrap (9 + place) = 9 + place from by rw [IntKind.wrap_i64]; omega)
  clear hm h hx hf' hnv hp
  go_enter Try.func115, Try.ntmps115
  go_wp2_with fail
  clear hW1 c0 fz0 e0 ef0 c1 fz1 e1 ef1 c2 fz2 e2 ef2 c3 fz3 e3 ef3 c4 fz4 e4 ef4 c5 fz5 e5 ef5
  refine RG.region (ks := [(0, 27), (1, 28), (2, 29), (3, 30), (4, 31), (5, 32), (6, 33), (7, 34), (8, 35), (9, 36), (10, 37), (11, 38), (12, 39), (13, 40), (14, 41)]) (vals := fun i => match i with
      | 0 => .pointer (some ⟨b, 0, none⟩)
      | 1 => .pointer (some ⟨b, 0, none⟩)
      | 2 => .pointer (some ⟨b, 0, none⟩)
      | 3 => .pointer (some ⟨bm, 0, none⟩)
      | 4 => .pointer (some ⟨b, 0, none⟩)
      | 5 => .pointer (some ⟨b, 0, none⟩)
      | 6 => .pointer (some ⟨b, 3, none⟩)
      | 7 => .int .i64 place
      | 8 => .int .i64 (9 + place)
      | 9 => .pointer (some ⟨b, 0, none⟩)
      | 10 => .pointer (some ⟨b, 0, none⟩)
      | 11 => .pointer (some ⟨b, 4, none⟩)
      | 12 => .int .u64 seen
      | 13 => .int .u64 nv
      | 14 => .agg #[.int .i64 x.hand, .int .i64 x.act, .int .i64 x.at_, .int .u64 x.had, .int .u64 x.put, .bool x.ok]
      | _ => undef) (x := 7) (WI := fun L v w' => RG.SW b 117 6 (rtC hand place seen true t) bm bw n f f' x w.heap.size W1 (L 14) (L 15) (L 16) v w') (by kernel_rfl) ?gg ?bk rfl ?dd ?xx (RG.SW.start R.out M.out RZ.out) ?does ?fin
  case gg =>
    intro i o ho
    have hi : i < 17 := by have := (Array.getElem?_eq_some_iff.1 ho).1; simpa using this
    match i, hi with
    | 0, _ | 1, _ | 2, _ | 3, _ | 4, _ | 5, _ | 6, _ | 7, _ | 8, _ | 9, _ | 10, _ | 11, _ | 12, _ | 13, _ | 14, _ | 15, _ | 16, _ => injection ho with ho; subst ho; rfl
  case bk =>
    intro i o ho
    have hi : i < 17 := by have := (Array.getElem?_eq_some_iff.1 ho).1; simpa using this
    match i, hi with
    | 0, _ | 1, _ | 2, _ | 3, _ | 4, _ | 5, _ | 6, _ | 7, _ | 8, _ | 9, _ | 10, _ | 11, _ | 12, _ | 13, _ | 14, _ | 15, _ | 16, _ => injection ho with ho; subst ho; simp [Region.binds]
  case dd =>
    intro k hk
    have hk' : k < 50 := by
      simp [RetN.D] at hk
      omega
    simpa using hk'
  case xx => simp
  case does =>
    intro i o ho
    have hi : i < 17 := by have := (Array.getElem?_eq_some_iff.1 ho).1; simpa using this
    match i, hi with
    | 0, _ => injection ho with ho; subst ho; exact RG.Does.read rfl (fun L v w' h => RG.SW.skip (by decide) (by decide) (by decide) h) (fun L a w' hI hd => ex_move rfl (hI.fix 0 (Reg.notD rfl) (by decide)))
    | 1, _ => injection ho with ho; subst ho; exact RG.Does.read rfl (fun L v w' h => RG.SW.skip (by decide) (by decide) (by decide) h) (fun L a w' hI hd => ex_nil rfl (hI.pure 0 _ _ rfl (hd ⟨0, .data⟩ (by simp) rfl)))
    | 2, _ => injection ho with ho; subst ho; exact RG.Does.read rfl (fun L v w' h => RG.SW.skip (by decide) (by decide) (by decide) h) (fun L a w' hI hd => ex_field rfl (hI.pure 1 _ _ rfl (hd ⟨1, .data⟩ (by simp) rfl)) (fieldEr0 w' _))
    | 3, _ => injection ho with ho; subst ho; exact RG.Does.read rfl (fun L v w' h => RG.SW.skip (by decide) (by decide) (by decide) h) (fun L a w' hI hd => ex_move rfl (hI.fix 1 (Reg.notD rfl) (by decide)))
    | 4, _ => injection ho with ho; subst ho; exact RG.Does.read rfl (fun L v w' h => RG.SW.skip (by decide) (by decide) (by decide) h) (fun L a w' hI hd => ex_move rfl (hI.fix 0 (Reg.notD rfl) (by decide)))
    | 5, _ => injection ho with ho; subst ho; exact RG.Does.read rfl (fun L v w' h => RG.SW.skip (by decide) (by decide) (by decide) h) (fun L a w' hI hd => ex_nil rfl (hI.pure 4 _ _ rfl (hd ⟨4, .data⟩ (by simp) rfl)))
    | 6, _ => injection ho with ho; subst ho; exact RG.Does.read rfl (fun L v w' h => RG.SW.skip (by decide) (by decide) (by decide) h) (fun L a w' hI hd => ex_field rfl (hI.pure 5 _ _ rfl (hd ⟨5, .data⟩ (by simp) rfl)) (fieldEr1 w' _))
    | 7, _ => injection ho with ho; subst ho; exact RG.Does.read rfl (fun L v w' h => RG.SW.skip (by decide) (by decide) (by decide) h) (fun L a w' hI hd => ex_load rfl (hI.pure 6 _ _ rfl (hd ⟨6, .data⟩ (by simp) rfl)) (aggI w') (hI.world.row.cell (i := 3) (by omega)))
    | 8, _ => injection ho with ho; subst ho; exact RG.Does.read rfl (fun L v w' h => RG.SW.skip (by decide) (by decide) (by decide) h) (fun L a w' hI hd => ex_addi rfl rfl (hI.pure 7 _ _ rfl (hd ⟨7, .data⟩ (by simp) rfl)) HPL.out)
    | 9, _ => injection ho with ho; subst ho; exact RG.Does.read rfl (fun L v w' h => RG.SW.skip (by decide) (by decide) (by decide) h) (fun L a w' hI hd => ex_move rfl (hI.fix 0 (Reg.notD rfl) (by decide)))
    | 10, _ => injection ho with ho; subst ho; exact RG.Does.read rfl (fun L v w' h => RG.SW.skip (by decide) (by decide) (by decide) h) (fun L a w' hI hd => ex_nil rfl (hI.pure 9 _ _ rfl (hd ⟨9, .data⟩ (by simp) rfl)))
    | 11, _ => injection ho with ho; subst ho; exact RG.Does.read rfl (fun L v w' h => RG.SW.skip (by decide) (by decide) (by decide) h) (fun L a w' hI hd => ex_field rfl (hI.pure 10 _ _ rfl (hd ⟨10, .data⟩ (by simp) rfl)) (fieldEr2 w' _))
    | 12, _ => injection ho with ho; subst ho; exact RG.Does.read rfl (fun L v w' h => RG.SW.skip (by decide) (by decide) (by decide) h) (fun L a w' hI hd => ex_load rfl (hI.pure 11 _ _ rfl (hd ⟨11, .data⟩ (by simp) rfl)) (aggU w') (hI.world.row.cell (i := 4) (by omega)))
    | 13, _ => injection ho with ho; subst ho; exact RG.Does.read rfl (fun L v w' h => RG.SW.skip (by decide) (by decide) (by decide) h) (fun L a w' hI hd => ex_addc rfl (hI.pure 12 _ _ rfl (hd ⟨12, .data⟩ (by simp) rfl)) rfl HNV.out)
    | 14, _ => injection ho with ho; subst ho; exact RG.Does.call rfl (fun L a w' hI hd => call5 rfl (hI.pure 2 _ _ rfl (hd ⟨2, .data⟩ (by simp) rfl)) (hI.pure 3 _ _ rfl (hd ⟨3, .data⟩ (by simp) rfl)) (hI.pure 8 _ _ rfl (hd ⟨8, .data⟩ (by simp) rfl)) rfl (hI.pure 13 _ _ rfl (hd ⟨13, .data⟩ (by simp) rfl)) rfl (callCas _ _)) (SWcalls h2 hn4 (by decide) (by decide) (fun w h hm => cas_any (h.cell (i := 0) (by omega)) h.lt hm HW.out HX.out HF.out))
    | 15, _ => injection ho with ho; subst ho; exact RG.Does.make (u := fun w' => .pointer (some ⟨w'.heap.size, 0, none⟩)) rfl rfl (fun ev w' => alloc46 rfl) (fun L v w' h hL => by show RG.SW _ _ _ _ _ _ _ _ _ _ _ _ (upd L 15 true 14) (upd L 15 true 15) (upd L 15 true 16) _ _; rw [upd_same, upd_other _ _ (show 14 ≠ 15 by decide), upd_other _ _ (show 16 ≠ 15 by decide)]; exact RG.SW.make h hL)
    | 16, _ => injection ho with ho; subst ho; exact RG.Does.put (ls := x.cells) rfl rfl rfl size46 (by simp [Stp.cells, Value.oneCell']) (fun L a w' hI hL hd => ⟨(hI.pure 14 _ _ rfl (hd ⟨14, .data⟩ (by simp) rfl)), by obtain ⟨q, e1, e2, e3⟩ := RG.SW.put hI.world (hd ⟨14, .data⟩ (by simp) rfl) (hd ⟨15, .data⟩ (by simp) rfl) hL; exact ⟨q, 0, e1, e2, by show RG.SW _ _ _ _ _ _ _ _ _ _ _ _ (upd L 16 true 14) (upd L 16 true 15) (upd L 16 true 16) _ _; rw [upd_same, upd_other _ _ (show 14 ≠ 16 by decide), upd_other _ _ (show 15 ≠ 16 by decide)]; exact e3⟩⟩)
  case fin =>
    intro L a' w1 hI hall
    have hw := hI.world
    simp only [hall 14 (by decide), hall 15 (by decide), hall 16 (by decide), if_true] at hw
    obtain ⟨q, hq, hq1, hq2, _, hr⟩ := hw.own rfl
    replace hr := hr rfl
    have ea := act_all a' 50 (by rw [hI.sz]; rfl) hI.df
    simp only [List.range, List.range.loop, List.map] at ea
    rw [hI.fix 0 (Reg.notD rfl) (by decide), hI.fix 1 (Reg.notD rfl) (by decide), hI.fix 2 (Reg.notD rfl) (by decide), hI.fix 3 (Reg.notD rfl) (by decide), hI.fix 4 (Reg.notD rfl) (by decide), hI.fix 5 (Reg.notD rfl) (by decide), hI.fix 6 (Reg.notD rfl) (by decide), hI.fix 8 (Reg.notD rfl) (by decide), hI.fix 9 (Reg.notD rfl) (by decide), hI.fix 10 (Reg.notD rfl) (by decide), hI.fix 11 (Reg.notD rfl) (by decide), hI.fix 12 (Reg.notD rfl) (by decide), hI.fix 13 (Reg.notD rfl) (by decide), hI.fix 14 (Reg.notD rfl) (by decide), hI.fix 15 (Reg.notD rfl) (by decide), hI.fix 16 (Reg.notD rfl) (by decide), hI.fix 17 (Reg.notD rfl) (by decide), hI.fix 18 (Reg.notD rfl) (by decide), hI.fix 19 (Reg.notD rfl) (by decide), hI.fix 20 (Reg.notD rfl) (by decide), hI.fix 21 (Reg.notD rfl) (by decide), hI.fix 22 (Reg.notD rfl) (by decide), hI.fix 23 (Reg.notD rfl) (by decide), hI.fix 24 (Reg.notD rfl) (by decide), hI.fix 25 (Reg.notD rfl) (by decide), hI.fix 26 (Reg.notD rfl) (by decide), hI.fix 42 (Reg.notD rfl) (by decide), hI.fix 43 (Reg.notD rfl) (by decide), hI.fix 44 (Reg.notD rfl) (by decide), hI.fix 45 (Reg.notD rfl) (by decide), hI.fix 46 (Reg.notD rfl) (by decide), hI.fix 47 (Reg.notD rfl) (by decide), hI.fix 48 (Reg.notD rfl) (by decide), hI.fix 49 (Reg.notD rfl) (by decide), hq] at ea
    clear hI hall
    generalize a'.eval (.tmp 27) = u27 at ea
    generalize a'.eval (.tmp 28) = u28 at ea
    generalize a'.eval (.tmp 29) = u29 at ea
    generalize a'.eval (.tmp 30) = u30 at ea
    generalize a'.eval (.tmp 31) = u31 at ea
    generalize a'.eval (.tmp 32) = u32 at ea
    generalize a'.eval (.tmp 33) = u33 at ea
    generalize a'.eval (.tmp 34) = u34 at ea
    generalize a'.eval (.tmp 35) = u35 at ea
    generalize a'.eval (.tmp 36) = u36 at ea
    generalize a'.eval (.tmp 37) = u37 at ea
    generalize a'.eval (.tmp 38) = u38 at ea
    generalize a'.eval (.tmp 39) = u39 at ea
    generalize a'.eval (.tmp 40) = u40 at ea
    generalize a'.eval (.tmp 41) = u41 at ea
    simp only [show ∀ (ts : Array Value) (ds) (i : Nat), (Act.mk ts ds).eval (.tmp i) = ts.getD i undef from fun _ _ _ => rfl] at ea
    simp at ea
    subst ea
    have M1 := hide (show IsMem w1 bm bw n f' from by simpa using hw.mem)
    have R1 := hide hw.row
    have RR := hide hw.res
    have T1 := hide (T0.out.trans' hw.tch (fun k _ h => .inr h))
    have RQ := hide hr
    have hqb : q ≠ b := by omega
    have hqr : q ≠ w.heap.size := by omega
    have hqr' : w.heap.size ≠ q := by omega
    have hqm : q ≠ bm ∧ q ≠ bw := by omega
    have lw1 := hw.tch.size
    have l1 : b < w1.heap.size := by omega
    have l2 : w.heap.size < w1.heap.size := by omega
    clear hw hr hq
    obtain ⟨⟨d0, df0⟩, ⟨d1, df1⟩, ⟨d2, df2⟩, ⟨d3, df3⟩, ⟨d4, df4⟩, d5, df5⟩ := r_facts R1.out
    obtain ⟨⟨r0, rf0⟩, ⟨r1, rf1⟩, ⟨r2, rf2⟩, ⟨r3, rf3⟩, ⟨r4, rf4⟩, r5, rf5⟩ := res_facts RR.out
    have s0 : w1.cell? ⟨q, 0, none⟩ = some (.int .i64 x.hand) := by have := RQ.out 0 _ rfl; simpa using this
    have s1 : w1.cell? ⟨q, 1, none⟩ = some (.int .i64 x.act) := by have := RQ.out 1 _ rfl; simpa using this
    have s2 : w1.cell? ⟨q, 2, none⟩ = some (.int .i64 x.at_) := by have := RQ.out 2 _ rfl; simpa using this
    have s3 : w1.cell? ⟨q, 3, none⟩ = some (.int .u64 x.had) := by have := RQ.out 3 _ rfl; simpa using this
    have s4 : w1.cell? ⟨q, 4, none⟩ = some (.int .u64 x.put) := by have := RQ.out 4 _ rfl; simpa using this
    have s5 : w1.cell? ⟨q, 5, none⟩ = some (.bool x.ok) := by have := RQ.out 5 _ rfl; simpa using this
    go_wp2_with fail
    go_light
    refine bodyPost_ret (v := .tuple #[x.val, .int .i64 1]) ?res rfl ⟨rfl, ?row, ?mem, ?tch⟩
    case row =>
      refine World.rowIs.congr ?_ (fun i hi => r_told hand place seen true t x.ok 0 i hi)
      repeat (first | (with_reducible apply World.rowIs.alloc) | (with_reducible apply World.rowIs.drew) | (with_reducible refine World.rowIs.setOther ?_ ?side _; case side => (simp; omega)))
      with_reducible refine World.rowIs.set ?_ 2 _
      repeat (first | (with_reducible apply World.rowIs.alloc) | (with_reducible apply World.rowIs.drew) | (with_reducible refine World.rowIs.setOther ?_ ?side _; case side => (simp; omega)))
      with_reducible refine World.rowIs.set ?_ 1 _
      repeat (first | (with_reducible apply World.rowIs.alloc) | (with_reducible apply World.rowIs.drew) | (with_reducible refine World.rowIs.setOther ?_ ?side _; case side => (simp; omega)))
      with_reducible exact R1.out
    case mem =>
      repeat (first | (with_reducible apply IsMem.alloc) | (with_reducible apply IsMem.drew) | ((with_reducible refine IsMem.setOther ?_ ?_ ?_ _); rotate_left; (simp; omega); (simp; omega)))
      with_reducible exact M1.out
    case tch =>
      repeat (first | (with_reducible apply Touch.alloc) | (with_reducible apply Touch.drew) | (with_reducible refine Touch.setCell ?_ _ ?side _; case side => (first | (simp; done) | (simp; omega))))
      with_reducible exact T1.out
    case res => simp [results, Try.results115, go_sem, Stp.val, *]

end Epoch
end Go.Proofs.Ytbohmahjpolapaa
