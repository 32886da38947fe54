/-
  Lemmas: OnceC.
-/
import Derived.Test.YtdflicgjkleonaaTs02
import Derived.Test.YtdflicgjkleonaaTp18
set_option linter.unusedVariables false
set_option linter.unusedSimpArgs false
set_option maxRecDepth 20000
namespace Go.Proofs.Ytdflicgjkleonaa
open Go.RowKit
namespace Once

theorem fieldO0 (w : World) (b : Nat) : (Instr.fieldAt 159 (.pointer (some ⟨b, 0, none⟩)) 0).run Try.prog w = .ok (.pointer (some ⟨b, 0, none⟩)) w := by simp [go_sem]
theorem fieldO2 (w : World) (b : Nat) : (Instr.fieldAt 159 (.pointer (some ⟨b, 0, none⟩)) 2).run Try.prog w = .ok (.pointer (some ⟨b, 2, none⟩)) w := by simp [go_sem]
theorem fieldO3 (w : World) (b : Nat) : (Instr.fieldAt 159 (.pointer (some ⟨b, 0, none⟩)) 3).run Try.prog w = .ok (.pointer (some ⟨b, 3, none⟩)) w := by simp [go_sem]
theorem aggI (w : World) : (isAgg 3).run Try.prog w = .ok false w := by simp [go_sem]

set_option maxHeartbeats 4000000 in
theorem add_goes {w : World} {b bm bw n : Nat} {f f' : Nat → Int} {x : Stp} {hand kind st ct line : Int} {t : Ans} (h : w.rowIs b 159 7 (onC hand kind st ct line t)) (hm : IsMem w bm bw n f) (h1 : b ≠ bm) (h2 : b ≠ bw) 
    (hx : stepOf n f ⟨hand, 4, ct, 0, 1, true⟩ = x) (hf' : wordsOf n f ⟨hand, 4, ct, 0, 1, true⟩ = f') :
    Calls Try.prog 116 #[.pointer (some ⟨b, 0, none⟩), .pointer (some ⟨bm, 0, none⟩)] w fun e w' => e = .returned (.tuple #[x.val, .int .i64 0]) ∧
      w'.rowIs b 159 7 (onC hand kind st ct 3 t) ∧ IsMem w' bm bw n f' ∧ Touch w w' (fun k => k = b ∨ k = bw) := by
  have c0 : w.cell? ⟨b, 0, none⟩ = some (.int .i64 hand) := h.cell (i := 0) (by omega)
  have c3 : w.cell? ⟨b, 3, none⟩ = some (.int .i64 ct) := h.cell (i := 3) (by omega)
  have c4 : w.cell? ⟨b, 4, none⟩ = some (.int .i64 line) := h.cell (i := 4) (by omega)
  have fz4 := h.frozen 4
  have hl := h.lt
  have lw := hm.row.lt
  have lm := hm.head.lt
  have hn3 : w.heap.size ≠ b := by omega
  have hn4 : w.heap.size ≠ bw := by omega
  have hn5 : w.heap.size ≠ bm := by omega
  obtain ⟨W1, hW1⟩ : ∃ W1, ((w.setCell ⟨b, 4, none⟩ (.int .i64 3)).alloc (.cells #[.int .i64 0, .int .i64 0, .int .i64 0, .int .u64 0, .int .u64 0, .bool false] 71)) = W1 := ⟨_, rfl⟩
  have R := hide (show W1.rowIs b 159 7 (onC hand kind st ct 3 t) from by
    rw [← hW1]
    refine World.rowIs.congr ?_ (fun i hi => on_line hand kind st ct line t 3 i hi)
    repeat (first | (with_reducible refine World.rowIs.set ?_ _ _) | (with_reducible apply World.rowIs.alloc))
    exact h)
  have M := hide (show IsMem W1 bm bw n f from by
    rw [← hW1]
    repeat (first | (with_reducible apply IsMem.alloc) | ((with_reducible refine IsMem.setOther ?_ ?_ ?_ _); rotate_left; (simp; omega); (simp; omega)))
    exact hm)
  have RZ := hide (show W1.rowIs w.heap.size 71 6 zcell from by
    rw [← hW1]
    have := row0 (w.setCell ⟨b, 4, none⟩ (.int .i64 3))
    simpa using this)
  have T0 := hide (show Touch w W1 (fun k => k = b ∨ k = bw) from by
    rw [← hW1]
    repeat (first | (with_reducible apply Touch.alloc) | (with_reducible refine Touch.setCell ?_ _ ?side _; case side => simp))
    exact Touch.refl w _)
  have sz : W1.heap.size = w.heap.size + 1 := by rw [← hW1]; simp
  have HX := hide hx
  have HF := hide hf'
  have HW : Hid (0 ≤ (⟨hand, 4, ct, 0, 1, true⟩ : Stp).put ∧ (⟨hand, 4, ct, 0, 1, true⟩ : Stp).put ≤ 18446744073709551615) := ⟨by show (0 : Int) ≤ 1; decide, by show (1 : Int) ≤ 18446744073709551615; decide⟩
  clear hm h hx hf'

  have p0 : W1.cell? ⟨b, 0, none⟩ = some (.int .i64 hand) := R.out.cell (i := 0) (by omega)
  have p3 : W1.cell? ⟨b, 3, none⟩ = some (.int .i64 ct) := R.out.cell (i := 3) (by omega)
  go_enter Try.func116, Try.ntmps116
  go_wp2_with fail
  clear hW1 c0 c3 c4 fz4
  obtain ⟨dS, hdS1, hdS2⟩ := row46
  have HD := hide (And.intro hdS1 hdS2)
  have tE : W1.there w.heap.size 0 6 := rowIs.there RZ.out (by omega)
  refine RetC.region (ks := [(0, 9), (1, 10), (2, 11), (3, 12), (4, 13), (5, 14), (6, 15), (7, 16), (8, 17), (11, 5)]) (vals := fun i => match i with
      | 0 => .pointer (some ⟨bm, 0, none⟩)
      | 4 => .int .i64 hand
      | 7 => .pointer (some ⟨b, 3, none⟩)
      | 8 => .int .i64 ct
      | 11 => .int .i64 0
      | _ => .pointer (some ⟨b, 0, none⟩)) (kc := 9) (sc := 18) (vc := .agg #[Value.int .i64 x.hand, .int .i64 x.act, .int .i64 x.at_, .int .u64 x.had, .int .u64 x.put, .bool x.ok])
      (WI := fun d w' => w'.rowIs b 159 7 (onC hand kind st ct 3 t) ∧ IsMem w' bm bw n (if d = true then f' else f) ∧ Touch W1 w' (fun k => k = bw ∨ k = w.heap.size))
      (E := w.heap.size) (iE := 10) (ls := [Value.int .i64 x.hand, .int .i64 x.act, .int .i64 x.at_, .int .u64 x.had, .int .u64 x.put, .bool x.ok]) (by kernel_rfl) ?gg ?bk rfl (by decide) ?dd (by simp) (by simp [Value.oneCell']) tE ?w0 ?we ?kinds ?fin
  case gg =>
    intro i o ho
    have hi : i < 12 := by have := (Array.getElem?_eq_some_iff.1 ho).1; simpa using this
    match i, hi with
    | 0, _ | 1, _ | 2, _ | 3, _ | 4, _ | 5, _ | 6, _ | 7, _ | 8, _ | 9, _ | 10, _ | 11, _ => injection ho with ho; subst ho; rfl
  case bk =>
    intro i o ho
    have hi : i < 12 := by have := (Array.getElem?_eq_some_iff.1 ho).1; simpa using this
    match i, hi with
    | 0, _ | 1, _ | 2, _ | 3, _ | 4, _ | 5, _ | 6, _ | 7, _ | 8, _ | 9, _ | 10, _ | 11, _ => injection ho with ho; subst ho; simp [Region.binds]
  case dd =>
    intro k hk
    have hk' : k < 19 := by
      simp [RetN.D] at hk
      omega
    simpa using hk'
  case w0 => exact ⟨R.out.drew, M.out.drew, (Touch.refl W1 _).drew⟩
  case we =>
    rintro w' ⟨q1, q2, q3⟩
    have tt := touch_setCells w.heap.size [Value.int .i64 x.hand, .int .i64 x.act, .int .i64 x.at_, .int .u64 x.had, .int .u64 x.put, .bool x.ok] 0 w'
    exact ⟨q1.of_block (tt.block _ q1.lt (by omega)), ⟨q2.head.of_block (tt.block _ q2.head.lt (by omega)), q2.row.of_block (tt.block _ q2.row.lt (by omega)), q2.most, q2.word⟩, q3.trans' tt (fun k _ h => .inr h)⟩
  case kinds =>
    intro i o ho
    have hi : i < 12 := by have := (Array.getElem?_eq_some_iff.1 ho).1; simpa using this
    match i, hi with
    | 0, _ => injection ho with ho; subst ho; exact .inl ⟨9, _, rfl, rfl, fun L a w' hI hd => ex_move rfl (hI.fix 1 (Reg.notD rfl) (by decide))⟩
    | 1, _ => injection ho with ho; subst ho; exact .inl ⟨10, _, rfl, rfl, fun L a w' hI hd => ex_move rfl (hI.fix 0 (Reg.notD rfl) (by decide))⟩
    | 2, _ => injection ho with ho; subst ho; exact .inl ⟨11, _, rfl, rfl, fun L a w' hI hd => ex_nil rfl (hI.pure 1 _ _ rfl (hd ⟨1, .data⟩ (by simp) rfl))⟩
    | 3, _ => injection ho with ho; subst ho; exact .inl ⟨12, _, rfl, rfl, fun L a w' hI hd => ex_field rfl (hI.pure 2 _ _ rfl (hd ⟨2, .data⟩ (by simp) rfl)) (fieldO0 w' _)⟩
    | 4, _ => injection ho with ho; subst ho; exact .inl ⟨13, _, rfl, rfl, fun L a w' hI hd => ex_load rfl (hI.pure 3 _ _ rfl (hd ⟨3, .data⟩ (by simp) rfl)) (aggI w') (hI.world.1.cell (i := 0) (by omega))⟩
    | 5, _ => injection ho with ho; subst ho; exact .inl ⟨14, _, rfl, rfl, fun L a w' hI hd => ex_move rfl (hI.fix 0 (Reg.notD rfl) (by decide))⟩
    | 6, _ => injection ho with ho; subst ho; exact .inl ⟨15, _, rfl, rfl, fun L a w' hI hd => ex_nil rfl (hI.pure 5 _ _ rfl (hd ⟨5, .data⟩ (by simp) rfl))⟩
    | 7, _ => injection ho with ho; subst ho; exact .inl ⟨16, _, rfl, rfl, fun L a w' hI hd => ex_field rfl (hI.pure 6 _ _ rfl (hd ⟨6, .data⟩ (by simp) rfl)) (fieldO3 w' _)⟩
    | 8, _ => injection ho with ho; subst ho; exact .inl ⟨17, _, rfl, rfl, fun L a w' hI hd => ex_load rfl (hI.pure 7 _ _ rfl (hd ⟨7, .data⟩ (by simp) rfl)) (aggI w') (hI.world.1.cell (i := 3) (by omega))⟩
    | 9, _ => injection ho with ho; subst ho; exact .inr (.inl ⟨rfl, rfl, fun L a w' K hI hL hd hk => wp_call (f := 95) (call6 rfl (hI.pure 0 _ _ rfl (hd ⟨0, .data⟩ (by simp) rfl)) (hI.pure 4 _ _ rfl (hd ⟨4, .data⟩ (by simp) rfl)) rfl (hI.pure 8 _ _ rfl (hd ⟨8, .data⟩ (by simp) rfl)) rfl rfl rfl (callDo _ _)) (by
        have hI2 := hI.world
        rw [hL, if_neg (by decide)] at hI2
        refine (do_mem hI2.2.1 ⟨hand, 4, ct, 0, 1, true⟩ HW.out).mono ?_
        rintro e w1 ⟨rfl, hm1, hg1⟩
        rw [HX.out]
        rw [HF.out] at hm1
        have l1 := hI2.2.2.size
        exact ⟨_, rfl, hk w1 ⟨hI2.1.of_block (hg1.block b (by omega) (by simp [h2])), by rw [if_pos rfl]; exact hm1, hI2.2.2.trans' (Touch.of_grown hg1) (fun k _ h => .inl (by simpa using h))⟩ (there_block hI.tE (hg1.block w.heap.size (by omega) (by simp; omega)))⟩)⟩)
    | 10, _ => injection ho with ho; subst ho; exact .inr (.inr ⟨rfl, rfl, _, _, _, rfl, size46, fun L a w' hI hd => ⟨hI.fix 4 (Reg.notD rfl) (by decide), hI.call (hd ⟨9, .data⟩ (by simp) rfl), hd ⟨9, .data⟩ (by simp) rfl⟩⟩)
    | 11, _ => injection ho with ho; subst ho; exact .inl ⟨5, _, rfl, rfl, fun L a w' hI hd => ex_assign rfl rfl⟩
  case fin =>
    intro L a' w' hI hall
    rename_i K2 hK2
    refine hK2 _ _ ?_
    have rE := hI.sE (hall 10 (by decide))
    have pE : a'.eval (.tmp 4) = .pointer (some ⟨w.heap.size, 0, none⟩) := hI.fix 4 (Reg.notD rfl) (by decide)
    have pe : a'.eval (.tmp 5) = .int .i64 0 := hI.pure 11 5 _ rfl (hall 11 (by decide))
    have hw := hI.world
    rw [hall 9 (by decide), if_pos rfl] at hw
    have hdf : a'.defers = [] := hI.df
    have hS := run_loadVar_mid (P := Try.prog) w' w.heap.size 0 _ _ dS rE HD.out.1 HD.out.2 size46
    have hres := results_ct (Q := Try.prog) (fn := Try.f116) (tmps := a'.tmps) (t := 4) (t' := 5) (W := w') (by rfl) pE hS
    rw [show a'.tmps.getD 5 undef = .int .i64 0 from pe] at hres
    go_wp2
    exact bodyPost_ret (v := .tuple #[x.val, .int .i64 0]) hres hdf ⟨rfl, hw.1, hw.2.1, T0.out.trans' hw.2.2 (fun k hk h => by rcases h with h | h; exact .inr h; omega)⟩

set_option maxHeartbeats 4000000 in
theorem finish_ends {w : World} {b bm bw n : Nat} {f f' : Nat → Int} {x : Stp} {hand kind st ct line : Int} {t : Ans} (h : w.rowIs b 159 7 (onC hand kind st ct line t)) (hm : IsMem w bm bw n f) (h1 : b ≠ bm) (h2 : b ≠ bw) 
    (hx : stepOf n f ⟨hand, 2, st, 0, 2, true⟩ = x) (hf' : wordsOf n f ⟨hand, 2, st, 0, 2, true⟩ = f') :
    Calls Try.prog 117 #[.pointer (some ⟨b, 0, none⟩), .pointer (some ⟨bm, 0, none⟩)] w fun e w' => e = .returned (.tuple #[x.val, .int .i64 1]) ∧
      w'.rowIs b 159 7 (onC hand kind st ct line ⟨kind == 1, 1⟩) ∧ IsMem w' bm bw n f' ∧ Touch w w' (fun k => k = b ∨ k = bw) := by
  have c0 : w.cell? ⟨b, 0, none⟩ = some (.int .i64 hand) := h.cell (i := 0) (by omega)
  have c1 : w.cell? ⟨b, 1, none⟩ = some (.int .i64 kind) := h.cell (i := 1) (by omega)
  have c2 : w.cell? ⟨b, 2, none⟩ = some (.int .i64 st) := h.cell (i := 2) (by omega)
  have c5 : w.cell? ⟨b, 5, none⟩ = some (.bool t.ok) := h.cell (i := 5) (by omega)
  have c6 : w.cell? ⟨b, 6, none⟩ = some (.int .u64 t.val) := h.cell (i := 6) (by omega)
  have fz5 := h.frozen 5
  have fz6 := h.frozen 6
  have hl := h.lt
  have lw := hm.row.lt
  have lm := hm.head.lt
  have hn3 : w.heap.size ≠ b := by omega
  have hn4 : w.heap.size ≠ bw := by omega
  have hn5 : w.heap.size ≠ bm := by omega
  obtain ⟨W1, hW1⟩ : ∃ W1, (((w.setCell ⟨b, 5, none⟩ (.bool (kind == 1))).setCell ⟨b, 6, none⟩ (.int .u64 1)).alloc (.cells #[.int .i64 0, .int .i64 0, .int .i64 0, .int .u64 0, .int .u64 0, .bool false] 71)) = W1 := ⟨_, rfl⟩
  have R := hide (show W1.rowIs b 159 7 (onC hand kind st ct line ⟨kind == 1, 1⟩) from by
    rw [← hW1]
    refine World.rowIs.congr ?_ (fun i hi => on_told hand kind st ct line t (kind == 1) 1 i hi)
    repeat (first | (with_reducible refine World.rowIs.set ?_ _ _) | (with_reducible apply World.rowIs.alloc))
    exact h)
  have M := hide (show IsMem W1 bm bw n f from by
    rw [← hW1]
    repeat (first | (with_reducible apply IsMem.alloc) | ((with_reducible refine IsMem.setOther ?_ ?_ ?_ _); rotate_left; (simp; omega); (simp; omega)))
    exact hm)
  have RZ := hide (show W1.rowIs w.heap.size 71 6 zcell from by
    rw [← hW1]
    have := row0 ((w.setCell ⟨b, 5, none⟩ (.bool (kind == 1))).setCell ⟨b, 6, none⟩ (.int .u64 1))
    simpa using this)
  have T0 := hide (show Touch w W1 (fun k => k = b ∨ k = bw) from by
    rw [← hW1]
    repeat (first | (with_reducible apply Touch.alloc) | (with_reducible refine Touch.setCell ?_ _ ?side _; case side => simp))
    exact Touch.refl w _)
  have sz : W1.heap.size = w.heap.size + 1 := by rw [← hW1]; simp
  have HX := hide hx
  have HF := hide hf'
  have HW : Hid (0 ≤ (⟨hand, 2, st, 0, 2, true⟩ : Stp).put ∧ (⟨hand, 2, st, 0, 2, true⟩ : Stp).put ≤ 18446744073709551615) := ⟨by show (0 : Int) ≤ 2; decide, by show (2 : Int) ≤ 18446744073709551615; decide⟩
  clear hm h hx hf'

  have p0 : W1.cell? ⟨b, 0, none⟩ = some (.int .i64 hand) := R.out.cell (i := 0) (by omega)
  have p2 : W1.cell? ⟨b, 2, none⟩ = some (.int .i64 st) := R.out.cell (i := 2) (by omega)
  go_enter Try.func117, Try.ntmps117
  go_wp2_with fail
  clear hW1 c0 c1 c2 c5 c6 fz5 fz6
  obtain ⟨dS, hdS1, hdS2⟩ := row46
  have HD := hide (And.intro hdS1 hdS2)
  have tE : W1.there w.heap.size 0 6 := rowIs.there RZ.out (by omega)
  refine RetC.region (ks := [(0, 15), (1, 16), (2, 17), (3, 18), (4, 19), (5, 20), (6, 21), (7, 22), (8, 23), (11, 5)]) (vals := fun i => match i with
      | 0 => .pointer (some ⟨bm, 0, none⟩)
      | 4 => .int .i64 hand
      | 7 => .pointer (some ⟨b, 2, none⟩)
      | 8 => .int .i64 st
      | 11 => .int .i64 1
      | _ => .pointer (some ⟨b, 0, none⟩)) (kc := 9) (sc := 24) (vc := .agg #[Value.int .i64 x.hand, .int .i64 x.act, .int .i64 x.at_, .int .u64 x.had, .int .u64 x.put, .bool x.ok])
      (WI := fun d w' => w'.rowIs b 159 7 (onC hand kind st ct line ⟨kind == 1, 1⟩) ∧ IsMem w' bm bw n (if d = true then f' else f) ∧ Touch W1 w' (fun k => k = bw ∨ k = w.heap.size))
      (E := w.heap.size) (iE := 10) (ls := [Value.int .i64 x.hand, .int .i64 x.act, .int .i64 x.at_, .int .u64 x.had, .int .u64 x.put, .bool x.ok]) (by kernel_rfl) ?gg ?bk rfl (by decide) ?dd (by simp) (by simp [Value.oneCell']) tE ?w0 ?we ?kinds ?fin
  case gg =>
    intro i o ho
    have hi : i < 12 := by have := (Array.getElem?_eq_some_iff.1 ho).1; simpa using this
    match i, hi with
    | 0, _ | 1, _ | 2, _ | 3, _ | 4, _ | 5, _ | 6, _ | 7, _ | 8, _ | 9, _ | 10, _ | 11, _ => injection ho with ho; subst ho; rfl
  case bk =>
    intro i o ho
    have hi : i < 12 := by have := (Array.getElem?_eq_some_iff.1 ho).1; simpa using this
    match i, hi with
    | 0, _ | 1, _ | 2, _ | 3, _ | 4, _ | 5, _ | 6, _ | 7, _ | 8, _ | 9, _ | 10, _ | 11, _ => injection ho with ho; subst ho; simp [Region.binds]
  case dd =>
    intro k hk
    have hk' : k < 25 := by
      simp [RetN.D] at hk
      omega
    simpa using hk'
  case w0 => exact ⟨R.out.drew, M.out.drew, (Touch.refl W1 _).drew⟩
  case we =>
    rintro w' ⟨q1, q2, q3⟩
    have tt := touch_setCells w.heap.size [Value.int .i64 x.hand, .int .i64 x.act, .int .i64 x.at_, .int .u64 x.had, .int .u64 x.put, .bool x.ok] 0 w'
    exact ⟨q1.of_block (tt.block _ q1.lt (by omega)), ⟨q2.head.of_block (tt.block _ q2.head.lt (by omega)), q2.row.of_block (tt.block _ q2.row.lt (by omega)), q2.most, q2.word⟩, q3.trans' tt (fun k _ h => .inr h)⟩
  case kinds =>
    intro i o ho
    have hi : i < 12 := by have := (Array.getElem?_eq_some_iff.1 ho).1; simpa using this
    match i, hi with
    | 0, _ => injection ho with ho; subst ho; exact .inl ⟨15, _, rfl, rfl, fun L a w' hI hd => ex_move rfl (hI.fix 1 (Reg.notD rfl) (by decide))⟩
    | 1, _ => injection ho with ho; subst ho; exact .inl ⟨16, _, rfl, rfl, fun L a w' hI hd => ex_move rfl (hI.fix 0 (Reg.notD rfl) (by decide))⟩
    | 2, _ => injection ho with ho; subst ho; exact .inl ⟨17, _, rfl, rfl, fun L a w' hI hd => ex_nil rfl (hI.pure 1 _ _ rfl (hd ⟨1, .data⟩ (by simp) rfl))⟩
    | 3, _ => injection ho with ho; subst ho; exact .inl ⟨18, _, rfl, rfl, fun L a w' hI hd => ex_field rfl (hI.pure 2 _ _ rfl (hd ⟨2, .data⟩ (by simp) rfl)) (fieldO0 w' _)⟩
    | 4, _ => injection ho with ho; subst ho; exact .inl ⟨19, _, rfl, rfl, fun L a w' hI hd => ex_load rfl (hI.pure 3 _ _ rfl (hd ⟨3, .data⟩ (by simp) rfl)) (aggI w') (hI.world.1.cell (i := 0) (by omega))⟩
    | 5, _ => injection ho with ho; subst ho; exact .inl ⟨20, _, rfl, rfl, fun L a w' hI hd => ex_move rfl (hI.fix 0 (Reg.notD rfl) (by decide))⟩
    | 6, _ => injection ho with ho; subst ho; exact .inl ⟨21, _, rfl, rfl, fun L a w' hI hd => ex_nil rfl (hI.pure 5 _ _ rfl (hd ⟨5, .data⟩ (by simp) rfl))⟩
    | 7, _ => injection ho with ho; subst ho; exact .inl ⟨22, _, rfl, rfl, fun L a w' hI hd => ex_field rfl (hI.pure 6 _ _ rfl (hd ⟨6, .data⟩ (by simp) rfl)) (fieldO2 w' _)⟩
    | 8, _ => injection ho with ho; subst ho; exact .inl ⟨23, _, rfl, rfl, fun L a w' hI hd => ex_load rfl (hI.pure 7 _ _ rfl (hd ⟨7, .data⟩ (by simp) rfl)) (aggI w') (hI.world.1.cell (i := 2) (by omega))⟩
    | 9, _ => injection ho with ho; subst ho; exact .inr (.inl ⟨rfl, rfl, fun L a w' K hI hL hd hk => wp_call (f := 95) (call6 rfl (hI.pure 0 _ _ rfl (hd ⟨0, .data⟩ (by simp) rfl)) (hI.pure 4 _ _ rfl (hd ⟨4, .data⟩ (by simp) rfl)) rfl (hI.pure 8 _ _ rfl (hd ⟨8, .data⟩ (by simp) rfl)) rfl rfl rfl (callDo _ _)) (by
        have hI2 := hI.world
        rw [hL, if_neg (by decide)] at hI2
        refine (do_mem hI2.2.1 ⟨hand, 2, st, 0, 2, true⟩ HW.out).mono ?_
        rintro e w1 ⟨rfl, hm1, hg1⟩
        rw [HX.out]
        rw [HF.out] at hm1
        have l1 := hI2.2.2.size
        exact ⟨_, rfl, hk w1 ⟨hI2.1.of_block (hg1.block b (by omega) (by simp [h2])), by rw [if_pos rfl]; exact hm1, hI2.2.2.trans' (Touch.of_grown hg1) (fun k _ h => .inl (by simpa using h))⟩ (there_block hI.tE (hg1.block w.heap.size (by omega) (by simp; omega)))⟩)⟩)
    | 10, _ => injection ho with ho; subst ho; exact .inr (.inr ⟨rfl, rfl, _, _, _, rfl, size46, fun L a w' hI hd => ⟨hI.fix 4 (Reg.notD rfl) (by decide), hI.call (hd ⟨9, .data⟩ (by simp) rfl), hd ⟨9, .data⟩ (by simp) rfl⟩⟩)
    | 11, _ => injection ho with ho; subst ho; exact .inl ⟨5, _, rfl, rfl, fun L a w' hI hd => ex_assign rfl rfl⟩
  case fin =>
    intro L a' w' hI hall
    rename_i K2 hK2
    refine hK2 _ _ ?_
    have rE := hI.sE (hall 10 (by decide))
    have pE : a'.eval (.tmp 4) = .pointer (some ⟨w.heap.size, 0, none⟩) := hI.fix 4 (Reg.notD rfl) (by decide)
    have pe : a'.eval (.tmp 5) = .int .i64 1 := hI.pure 11 5 _ rfl (hall 11 (by decide))
    have hw := hI.world
    rw [hall 9 (by decide), if_pos rfl] at hw
    have hdf : a'.defers = [] := hI.df
    have hS := run_loadVar_mid (P := Try.prog) w' w.heap.size 0 _ _ dS rE HD.out.1 HD.out.2 size46
    have hres := results_ct (Q := Try.prog) (fn := Try.f117) (tmps := a'.tmps) (t := 4) (t' := 5) (W := w') (by rfl) pE hS
    rw [show a'.tmps.getD 5 undef = .int .i64 1 from pe] at hres
    go_wp2
    exact bodyPost_ret (v := .tuple #[x.val, .int .i64 1]) hres hdf ⟨rfl, hw.1, hw.2.1, T0.out.trans' hw.2.2 (fun k hk h => by rcases h with h | h; exact .inr h; omega)⟩

end Once
end Go.Proofs.Ytdflicgjkleonaa
