/-
  Lemmas: BellD.
-/
import Derived.Test.YtbjlpmahomjgjaaTp22
import Derived.Test.YtbjlpmahomjgjaaTp18
/-
  The tasks of a bell: the last step of who lets the others go.
-/
namespace Go.Proofs.Ytbjlpmahomjgjaa
open Go.RowKit
set_option linter.unusedVariables false
set_option linter.unusedSimpArgs false
set_option maxRecDepth 20000
namespace Bell

theorem fieldB0 (w : World) (b : Nat) : (Instr.fieldAt 109 (.pointer (some ⟨b, 0, none⟩)) 0).run Try.prog w = .ok (.pointer (some ⟨b, 0, none⟩)) w := by simp [go_sem]
theorem fieldB1 (w : World) (b : Nat) : (Instr.fieldAt 109 (.pointer (some ⟨b, 0, none⟩)) 1).run Try.prog w = .ok (.pointer (some ⟨b, 1, none⟩)) w := by simp [go_sem]
theorem fieldB2 (w : World) (b : Nat) : (Instr.fieldAt 109 (.pointer (some ⟨b, 0, none⟩)) 2).run Try.prog w = .ok (.pointer (some ⟨b, 2, none⟩)) w := by simp [go_sem]
theorem fieldB3 (w : World) (b : Nat) : (Instr.fieldAt 109 (.pointer (some ⟨b, 0, none⟩)) 3).run Try.prog w = .ok (.pointer (some ⟨b, 3, none⟩)) w := by simp [go_sem]
theorem fieldB4 (w : World) (b : Nat) : (Instr.fieldAt 109 (.pointer (some ⟨b, 0, none⟩)) 4).run Try.prog w = .ok (.pointer (some ⟨b, 4, none⟩)) w := by simp [go_sem]
theorem aggI (w : World) : (isAgg 3).run Try.prog w = .ok false w := by simp [go_sem]
theorem aggU (w : World) : (isAgg 42).run Try.prog w = .ok false w := by simp [go_sem]
theorem ex_add1 {ev : Operand → Value} {o : Oper} {w : World} {x y : Operand} {v : Int} (ho : o.op = .binOp .add 42 x y 42) (hx : ev x = .int .u64 v) (hy : ev y = .int .u64 1) : (execOp ev o).run Try.prog w = .ok (.value (.int .u64 (u64 (v + 1)))) w := by
  have := wrap_u64' (v + 1)
  simp [execOp, ho, hx, hy, go_sem, this]

set_option maxHeartbeats 4000000 in
theorem letgo_ends {w : World} {b bm bw n : Nat} {f f' : Nat → Int} {x : Stp} {hand al mine rung : Int} {t : Ans} (h : w.rowIs b 109 7 (rgC hand al 4 mine rung t)) (hm : IsMem w bm bw n f) (h1 : b ≠ bm) (h2 : b ≠ bw) 
    (hx : stepOf n f ⟨hand, 2, 1, 0, u64 (mine + 1), true⟩ = x) (hf' : wordsOf n f ⟨hand, 2, 1, 0, u64 (mine + 1), true⟩ = f') :
    Calls Try.prog 117 #[.pointer (some ⟨b, 0, none⟩), .pointer (some ⟨bm, 0, none⟩)] w fun e w' => e = .returned (.tuple #[x.val, .int .i64 1]) ∧
      w'.rowIs b 109 7 (rgC hand al 4 mine rung ⟨true, mine⟩) ∧ IsMem w' bm bw n f' ∧ Touch w w' (fun k => k = b ∨ k = bw) := by
  have hl := h.lt
  have lw := hm.row.lt
  have lm := hm.head.lt
  obtain ⟨W1, hW1⟩ : ∃ W1, (w.alloc (.cells #[.int .i64 0, .int .i64 0, .int .i64 0, .int .u64 0, .int .u64 0, .bool false] 63)).alloc (.cells #[.int .i64 0, .int .i64 0, .int .i64 0, .int .u64 0, .int .u64 0, .bool false] 63) = W1 := ⟨_, rfl⟩
  have R := hide (show W1.rowIs b 109 7 (rgC hand al 4 mine rung t) from by rw [← hW1]; exact (h.alloc _).alloc _)
  have M := hide (show IsMem W1 bm bw n f from by rw [← hW1]; exact (hm.alloc _).alloc _)
  have RZ := hide (show W1.rowIs w.heap.size 63 6 zcell from by rw [← hW1]; exact (row0 w).alloc _)
  have RS := hide (show W1.rowIs (w.heap.size + 1) 63 6 zcell from by rw [← hW1]; exact row0n w _)
  have T0 := hide (show Touch w W1 (fun k => k = b ∨ k = bw) from by rw [← hW1]; exact ((Touch.refl w _).alloc _).alloc _)
  have sz : W1.heap.size = w.heap.size + 2 := by rw [← hW1]; simp
  obtain ⟨r, hr⟩ : ∃ r, w.heap.size = r := ⟨_, rfl⟩
  rw [hr] at RZ RS sz hl lw lm
  have hrb : r ≠ b := by omega
  have hrw : r ≠ bw := by omega
  have hrm : r ≠ bm := by omega
  have hsb : r + 1 ≠ b := by omega
  have hsw : r + 1 ≠ bw := by omega
  have hsm : r + 1 ≠ bm := by omega
  have HX := hide hx
  have HF := hide hf'
  have HW : Hid (0 ≤ (⟨hand, 2, 1, 0, u64 (mine + 1), true⟩ : Stp).put ∧ (⟨hand, 2, 1, 0, u64 (mine + 1), true⟩ : Stp).put ≤ 18446744073709551615) := ⟨u64_lo _, u64_hi _⟩
  clear hm h hx hf'
  obtain ⟨⟨c0, cf0⟩, ⟨c1, cf1⟩, ⟨c2, cf2⟩, ⟨c3, cf3⟩, ⟨c4, cf4⟩, ⟨c5, cf5⟩, c6, cf6⟩ := rg_facts R.out
  go_enter Try.func117, Try.ntmps117
  go_wp2_with fail
  go_step3
  go_wp2_with fail
  go_step3
  go_wp2_with fail
  clear hW1
  refine wp_loop_rounds 1 ?_
  rw [rounds_succ]
  go_wp2_with fail
  clear c0 cf0 c1 cf1 c2 cf2 c3 cf3 c4 cf4 c5 cf5 c6 cf6
  refine RG.region (ks := [(0, 86), (1, 87), (2, 88), (3, 89), (4, 90), (5, 91), (6, 92), (7, 93), (8, 94), (9, 95), (10, 96)]) (vals := fun i => match i with
      | 0 => .pointer (some ⟨bm, 0, none⟩)
      | 1 => .pointer (some ⟨b, 0, none⟩)
      | 2 => .pointer (some ⟨b, 0, none⟩)
      | 3 => .pointer (some ⟨b, 0, none⟩)
      | 4 => .int .i64 hand
      | 5 => .pointer (some ⟨b, 0, none⟩)
      | 6 => .pointer (some ⟨b, 0, none⟩)
      | 7 => .pointer (some ⟨b, 3, none⟩)
      | 8 => .int .u64 mine
      | 9 => .int .u64 (u64 (mine + 1))
      | 10 => .agg #[.int .i64 x.hand, .int .i64 x.act, .int .i64 x.at_, .int .u64 x.had, .int .u64 x.put, .bool x.ok]
      | _ => undef) (x := 2) (WI := fun L v w' => RG.SR b 109 7 (rgC hand al 4 mine rung t) bm bw n f f' x (r + 1) W1 (L 10) (L 11) w') (by kernel_rfl) ?gg ?bk rfl ?dd ?xx (RG.SR.start R.out M.out RS.out) ?does ?fin
  case gg =>
    intro i o ho
    have hi : i < 12 := by have := (Array.getElem?_eq_some_iff.1 ho).1; simpa using this
    match i, hi with
    | 0, _ | 1, _ | 2, _ | 3, _ | 4, _ | 5, _ | 6, _ | 7, _ | 8, _ | 9, _ | 10, _ | 11, _ => injection ho with ho; subst ho; rfl
  case bk =>
    intro i o ho
    have hi : i < 12 := by have := (Array.getElem?_eq_some_iff.1 ho).1; simpa using this
    match i, hi with
    | 0, _ | 1, _ | 2, _ | 3, _ | 4, _ | 5, _ | 6, _ | 7, _ | 8, _ | 9, _ | 10, _ | 11, _ => injection ho with ho; subst ho; simp [Region.binds]
  case dd =>
    intro k hk
    have hk' : k < 107 := by
      simp [RetN.D] at hk
      omega
    simpa using hk'
  case xx => simp
  case does =>
    intro i o ho
    have hi : i < 12 := by have := (Array.getElem?_eq_some_iff.1 ho).1; simpa using this
    match i, hi with
    | 0, _ => injection ho with ho; subst ho; exact RG.Does.read rfl (fun L v w' h => RG.SR.skip (by decide) (by decide) h) (fun L a w' hI hd => ex_move rfl (hI.fix 1 (Reg.notD rfl) (by decide)))
    | 1, _ => injection ho with ho; subst ho; exact RG.Does.read rfl (fun L v w' h => RG.SR.skip (by decide) (by decide) h) (fun L a w' hI hd => ex_move rfl (hI.fix 0 (Reg.notD rfl) (by decide)))
    | 2, _ => injection ho with ho; subst ho; exact RG.Does.read rfl (fun L v w' h => RG.SR.skip (by decide) (by decide) h) (fun L a w' hI hd => ex_nil rfl (hI.pure 1 _ _ rfl (hd ⟨1, .data⟩ (by simp) rfl)))
    | 3, _ => injection ho with ho; subst ho; exact RG.Does.read rfl (fun L v w' h => RG.SR.skip (by decide) (by decide) h) (fun L a w' hI hd => ex_field rfl (hI.pure 2 _ _ rfl (hd ⟨2, .data⟩ (by simp) rfl)) (fieldB0 w' _))
    | 4, _ => injection ho with ho; subst ho; exact RG.Does.read rfl (fun L v w' h => RG.SR.skip (by decide) (by decide) h) (fun L a w' hI hd => ex_load rfl (hI.pure 3 _ _ rfl (hd ⟨3, .data⟩ (by simp) rfl)) (aggI w') (hI.world.row.cell (i := 0) (by omega)))
    | 5, _ => injection ho with ho; subst ho; exact RG.Does.read rfl (fun L v w' h => RG.SR.skip (by decide) (by decide) h) (fun L a w' hI hd => ex_move rfl (hI.fix 0 (Reg.notD rfl) (by decide)))
    | 6, _ => injection ho with ho; subst ho; exact RG.Does.read rfl (fun L v w' h => RG.SR.skip (by decide) (by decide) h) (fun L a w' hI hd => ex_nil rfl (hI.pure 5 _ _ rfl (hd ⟨5, .data⟩ (by simp) rfl)))
    | 7, _ => injection ho with ho; subst ho; exact RG.Does.read rfl (fun L v w' h => RG.SR.skip (by decide) (by decide) h) (fun L a w' hI hd => ex_field rfl (hI.pure 6 _ _ rfl (hd ⟨6, .data⟩ (by simp) rfl)) (fieldB3 w' _))
    | 8, _ => injection ho with ho; subst ho; exact RG.Does.read rfl (fun L v w' h => RG.SR.skip (by decide) (by decide) h) (fun L a w' hI hd => ex_load rfl (hI.pure 7 _ _ rfl (hd ⟨7, .data⟩ (by simp) rfl)) (aggU w') (hI.world.row.cell (i := 3) (by omega)))
    | 9, _ => injection ho with ho; subst ho; exact RG.Does.read rfl (fun L v w' h => RG.SR.skip (by decide) (by decide) h) (fun L a w' hI hd => ex_add1 rfl (hI.pure 8 _ _ rfl (hd ⟨8, .data⟩ (by simp) rfl)) rfl)
    | 10, _ => injection ho with ho; subst ho; exact RG.Does.call rfl (fun L a w' hI hd => call6 rfl (hI.pure 0 _ _ rfl (hd ⟨0, .data⟩ (by simp) rfl)) (hI.pure 4 _ _ rfl (hd ⟨4, .data⟩ (by simp) rfl)) rfl rfl rfl (hI.pure 9 _ _ rfl (hd ⟨9, .data⟩ (by simp) rfl)) rfl (callDo _ _)) (RG.SR.calls HX.out HF.out HW.out h2 hsw (by decide))
    | 11, _ => injection ho with ho; subst ho; exact RG.Does.put (ls := x.cells) rfl rfl rfl size46 (by simp [Stp.cells, Value.oneCell']) (fun L a w' hI hL hd => ⟨(hI.pure 10 _ _ rfl (hd ⟨10, .data⟩ (by simp) rfl)), by obtain ⟨e2, e3⟩ := RG.SR.put hI.world (hd ⟨10, .data⟩ (by simp) rfl) (Ne.symm hsb) (Ne.symm hsm) (Ne.symm hsw); exact ⟨r + 1, 0, hI.fix 6 (Reg.notD rfl) (by decide), e2, by show RG.SR _ _ _ _ _ _ _ _ _ _ _ _ (upd L 11 true 10) (upd L 11 true 11) _; rw [upd_same, upd_other _ _ (show 10 ≠ 11 by decide)]; exact e3⟩⟩)
  case fin =>
    intro L a' w1 hI hall
    have hw := hI.world
    simp only [hall 10 (by decide), hall 11 (by decide), if_true] at hw
    have rE := hw.sto rfl
    have ea := act_all a' 107 (by rw [hI.sz]; rfl) hI.df
    simp only [List.range, List.range.loop, List.map] at ea
    rw [hI.fix 0 (Reg.notD rfl) (by decide), hI.fix 1 (Reg.notD rfl) (by decide), hI.fix 3 (Reg.notD rfl) (by decide), hI.fix 4 (Reg.notD rfl) (by decide), hI.fix 5 (Reg.notD rfl) (by decide), hI.fix 6 (Reg.notD rfl) (by decide), hI.fix 7 (Reg.notD rfl) (by decide), hI.fix 8 (Reg.notD rfl) (by decide), hI.fix 9 (Reg.notD rfl) (by decide), hI.fix 10 (Reg.notD rfl) (by decide), hI.fix 11 (Reg.notD rfl) (by decide), hI.fix 12 (Reg.notD rfl) (by decide), hI.fix 13 (Reg.notD rfl) (by decide), hI.fix 14 (Reg.notD rfl) (by decide), hI.fix 15 (Reg.notD rfl) (by decide), hI.fix 16 (Reg.notD rfl) (by decide), hI.fix 17 (Reg.notD rfl) (by decide), hI.fix 18 (Reg.notD rfl) (by decide), hI.fix 19 (Reg.notD rfl) (by decide), hI.fix 20 (Reg.notD rfl) (by decide), hI.fix 21 (Reg.notD rfl) (by decide), hI.fix 22 (Reg.notD rfl) (by decide), hI.fix 23 (Reg.notD rfl) (by decide), hI.fix 24 (Reg.notD rfl) (by decide), hI.fix 25 (Reg.notD rfl) (by decide), hI.fix 26 (Reg.notD rfl) (by decide), hI.fix 27 (Reg.notD rfl) (by decide), hI.fix 28 (Reg.notD rfl) (by decide), hI.fix 29 (Reg.notD rfl) (by decide), hI.fix 30 (Reg.notD rfl) (by decide), hI.fix 31 (Reg.notD rfl) (by decide), hI.fix 32 (Reg.notD rfl) (by decide), hI.fix 33 (Reg.notD rfl) (by decide), hI.fix 34 (Reg.notD rfl) (by decide), hI.fix 35 (Reg.notD rfl) (by decide), hI.fix 36 (Reg.notD rfl) (by decide), hI.fix 37 (Reg.notD rfl) (by decide), hI.fix 38 (Reg.notD rfl) (by decide), hI.fix 39 (Reg.notD rfl) (by decide), hI.fix 40 (Reg.notD rfl) (by decide), hI.fix 41 (Reg.notD rfl) (by decide), hI.fix 42 (Reg.notD rfl) (by decide), hI.fix 43 (Reg.notD rfl) (by decide), hI.fix 44 (Reg.notD rfl) (by decide), hI.fix 45 (Reg.notD rfl) (by decide), hI.fix 46 (Reg.notD rfl) (by decide), hI.fix 47 (Reg.notD rfl) (by decide), hI.fix 48 (Reg.notD rfl) (by decide), hI.fix 49 (Reg.notD rfl) (by decide), hI.fix 50 (Reg.notD rfl) (by decide), hI.fix 51 (Reg.notD rfl) (by decide), hI.fix 52 (Reg.notD rfl) (by decide), hI.fix 53 (Reg.notD rfl) (by decide), hI.fix 54 (Reg.notD rfl) (by decide), hI.fix 55 (Reg.notD rfl) (by decide), hI.fix 56 (Reg.notD rfl) (by decide), hI.fix 57 (Reg.notD rfl) (by decide), hI.fix 58 (Reg.notD rfl) (by decide), hI.fix 59 (Reg.notD rfl) (by decide), hI.fix 60 (Reg.notD rfl) (by decide), hI.fix 61 (Reg.notD rfl) (by decide), hI.fix 62 (Reg.notD rfl) (by decide), hI.fix 63 (Reg.notD rfl) (by decide), hI.fix 64 (Reg.notD rfl) (by decide), hI.fix 65 (Reg.notD rfl) (by decide), hI.fix 66 (Reg.notD rfl) (by decide), hI.fix 67 (Reg.notD rfl) (by decide), hI.fix 68 (Reg.notD rfl) (by decide), hI.fix 69 (Reg.notD rfl) (by decide), hI.fix 70 (Reg.notD rfl) (by decide), hI.fix 71 (Reg.notD rfl) (by decide), hI.fix 72 (Reg.notD rfl) (by decide), hI.fix 73 (Reg.notD rfl) (by decide), hI.fix 74 (Reg.notD rfl) (by decide), hI.fix 75 (Reg.notD rfl) (by decide), hI.fix 76 (Reg.notD rfl) (by decide), hI.fix 77 (Reg.notD rfl) (by decide), hI.fix 78 (Reg.notD rfl) (by decide), hI.fix 79 (Reg.notD rfl) (by decide), hI.fix 80 (Reg.notD rfl) (by decide), hI.fix 81 (Reg.notD rfl) (by decide), hI.fix 82 (Reg.notD rfl) (by decide), hI.fix 83 (Reg.notD rfl) (by decide), hI.fix 84 (Reg.notD rfl) (by decide), hI.fix 85 (Reg.notD rfl) (by decide), hI.fix 97 (Reg.notD rfl) (by decide), hI.fix 98 (Reg.notD rfl) (by decide), hI.fix 99 (Reg.notD rfl) (by decide), hI.fix 100 (Reg.notD rfl) (by decide), hI.fix 101 (Reg.notD rfl) (by decide), hI.fix 102 (Reg.notD rfl) (by decide), hI.fix 103 (Reg.notD rfl) (by decide), hI.fix 104 (Reg.notD rfl) (by decide), hI.fix 105 (Reg.notD rfl) (by decide), hI.fix 106 (Reg.notD rfl) (by decide)] at ea
    clear hI hall
    generalize a'.eval (.tmp 2) = u2 at ea
    generalize a'.eval (.tmp 86) = u86 at ea
    generalize a'.eval (.tmp 87) = u87 at ea
    generalize a'.eval (.tmp 88) = u88 at ea
    generalize a'.eval (.tmp 89) = u89 at ea
    generalize a'.eval (.tmp 90) = u90 at ea
    generalize a'.eval (.tmp 91) = u91 at ea
    generalize a'.eval (.tmp 92) = u92 at ea
    generalize a'.eval (.tmp 93) = u93 at ea
    generalize a'.eval (.tmp 94) = u94 at ea
    generalize a'.eval (.tmp 95) = u95 at ea
    generalize a'.eval (.tmp 96) = u96 at ea
    simp only [show ∀ (ts : Array Value) (ds) (i : Nat), (Act.mk ts ds).eval (.tmp i) = ts.getD i undef from fun _ _ _ => rfl] at ea
    simp at ea
    subst ea
    have M1 := hide (show IsMem w1 bm bw n f' from by simpa using hw.mem)
    have R1 := hide hw.row
    have lw1 := hw.tch.size
    have RR := hide (RZ.out.of_block (hw.tch.block r (by omega) (by omega)))
    have T1 := hide (T0.out.trans' hw.tch (fun k hk h => by rcases h with h | h; exact .inr h; omega))
    have RQ := hide rE
    have l1 : b < w1.heap.size := by omega
    have l2 : r < w1.heap.size := by omega
    have l3 : r + 1 < w1.heap.size := by omega
    clear hw rE
    obtain ⟨⟨d0, df0⟩, ⟨d1, df1⟩, ⟨d2, df2⟩, ⟨d3, df3⟩, ⟨d4, df4⟩, ⟨d5, df5⟩, d6, df6⟩ := rg_facts R1.out
    obtain ⟨⟨z0, zf0⟩, ⟨z1, zf1⟩, ⟨z2, zf2⟩, ⟨z3, zf3⟩, ⟨z4, zf4⟩, z5, zf5⟩ := z_facts RR.out
    have s0 : w1.cell? ⟨r + 1, 0, none⟩ = some (.int .i64 x.hand) := by have := RQ.out 0 _ rfl; simpa using this
    have s1 : w1.cell? ⟨r + 1, 1, none⟩ = some (.int .i64 x.act) := by have := RQ.out 1 _ rfl; simpa using this
    have s2 : w1.cell? ⟨r + 1, 2, none⟩ = some (.int .i64 x.at_) := by have := RQ.out 2 _ rfl; simpa using this
    have s3 : w1.cell? ⟨r + 1, 3, none⟩ = some (.int .u64 x.had) := by have := RQ.out 3 _ rfl; simpa using this
    have s4 : w1.cell? ⟨r + 1, 4, none⟩ = some (.int .u64 x.put) := by have := RQ.out 4 _ rfl; simpa using this
    have s5 : w1.cell? ⟨r + 1, 5, none⟩ = some (.bool x.ok) := by have := RQ.out 5 _ rfl; simpa using this
    go_wp2_with fail
    go_light
    rw [Exit.noGoto_ret]
    refine bodyPost_ret (v := .tuple #[x.val, .int .i64 1]) ?res rfl ⟨rfl, ?row, ?mem, ?tch⟩
    case row =>
      refine World.rowIs.congr ?_ (fun i hi => rg_told hand al 4 mine rung t true mine i hi)
      repeat (first | (with_reducible apply World.rowIs.alloc) | (with_reducible apply row_drewN) | (with_reducible apply World.rowIs.drew) | (with_reducible refine World.rowIs.setOther ?_ ?side _; case side => (simp; omega)))
      with_reducible refine World.rowIs.set ?_ 6 _
      repeat (first | (with_reducible apply World.rowIs.alloc) | (with_reducible apply row_drewN) | (with_reducible apply World.rowIs.drew) | (with_reducible refine World.rowIs.setOther ?_ ?side _; case side => (simp; omega)))
      with_reducible refine World.rowIs.set ?_ 5 _
      repeat (first | (with_reducible apply World.rowIs.alloc) | (with_reducible apply row_drewN) | (with_reducible apply World.rowIs.drew) | (with_reducible refine World.rowIs.setOther ?_ ?side _; case side => (simp; omega)))
      with_reducible exact R1.out
    case mem =>
      repeat (first | (with_reducible apply IsMem.alloc) | (with_reducible apply mem_drewN) | (with_reducible apply IsMem.drew) | ((with_reducible refine IsMem.setOther ?_ ?_ ?_ _); rotate_left; (simp; omega); (simp; omega)))
      with_reducible exact M1.out
    case tch =>
      repeat (first | (with_reducible apply Touch.alloc) | (with_reducible apply touch_drewN) | (with_reducible apply Touch.drew) | (with_reducible refine Touch.setCell ?_ _ ?side _; case side => (first | (simp; done) | (simp; omega))))
      with_reducible exact T1.out
    case res => simp [results, Try.results117, go_sem, Stp.val, *]
end Bell
end Go.Proofs.Ytbjlpmahomjgjaa
