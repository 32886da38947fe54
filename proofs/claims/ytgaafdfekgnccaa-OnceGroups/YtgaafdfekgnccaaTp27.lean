/-
  Lemmas: OnceC, OnceK, OnceM, OnceP, OnceL, OgV.
-/
import Derived.Test.YtgaafdfekgnccaaTp25
import Derived.Test.YtgaafdfekgnccaaTp21
import Derived.Test.YtgaafdfekgnccaaTp24
import Derived.Test.YtgaafdfekgnccaaTp26
import Derived.Test.YtgaafdfekgnccaaTp22
/-
  The tasks of once: what Step does, where the task is written ahead of the act.
-/
namespace Go.Proofs.Ytgaafdfekgnccaa
open Go.RowKit
set_option linter.unusedVariables false
set_option linter.unusedSimpArgs false
set_option maxRecDepth 20000
namespace Once

theorem fieldO0 (w : World) (b : Nat) : (Instr.fieldAt 106 (.pointer (some ⟨b, 0, none⟩)) 0).run Try.prog w = .ok (.pointer (some ⟨b, 0, none⟩)) w := by simp [go_sem]
theorem fieldO2 (w : World) (b : Nat) : (Instr.fieldAt 106 (.pointer (some ⟨b, 0, none⟩)) 2).run Try.prog w = .ok (.pointer (some ⟨b, 2, none⟩)) w := by simp [go_sem]
theorem fieldO3 (w : World) (b : Nat) : (Instr.fieldAt 106 (.pointer (some ⟨b, 0, none⟩)) 3).run Try.prog w = .ok (.pointer (some ⟨b, 3, none⟩)) w := by simp [go_sem]
theorem aggI (w : World) : (isAgg 3).run Try.prog w = .ok false w := by simp [go_sem]

set_option maxHeartbeats 4000000 in
theorem add_goes {w : World} {b bm bw n : Nat} {f f' : Nat → Int} {x : Stp} {hand kind st ct line : Int} {t : Ans} (h : w.rowIs b 106 7 (onC hand kind st ct line t)) (hm : IsMem w bm bw n f) (h1 : b ≠ bm) (h2 : b ≠ bw) 
    (hx : stepOf n f ⟨hand, 4, ct, 0, 1, true⟩ = x) (hf' : wordsOf n f ⟨hand, 4, ct, 0, 1, true⟩ = f') :
    Calls Try.prog 85 #[.pointer (some ⟨b, 0, none⟩), .pointer (some ⟨bm, 0, none⟩)] w fun e w' => e = .returned (.tuple #[x.val, .int .i64 0]) ∧
      w'.rowIs b 106 7 (onC hand kind st ct 3 t) ∧ IsMem w' bm bw n f' ∧ Touch w w' (fun k => k = b ∨ k = bw) := by
  have c0 : w.cell? ⟨b, 0, none⟩ = some (.int .i64 hand) := h.cell (i := 0) (by omega)
  have c3 : w.cell? ⟨b, 3, none⟩ = some (.int .i64 ct) := h.cell (i := 3) (by omega)
  have c4 : w.cell? ⟨b, 4, none⟩ = some (.int .i64 line) := h.cell (i := 4) (by omega)
  have fz4 := h.frozen 4
  have hl := h.lt
  have lw := hm.row.lt
  have lm := hm.head.lt
  have hn3 : w.heap.size ≠ b := by omega
  have hn4 : w.heap.size ≠ bw := by omega
  have hn5 : w.heap.size ≠ bm := by omega
  obtain ⟨W1, hW1⟩ : ∃ W1, ((w.setCell ⟨b, 4, none⟩ (.int .i64 3)).alloc (.cells #[.int .i64 0, .int .i64 0, .int .i64 0, .int .u64 0, .int .u64 0, .bool false] 122)) = W1 := ⟨_, rfl⟩
  have R := hide (show W1.rowIs b 106 7 (onC hand kind st ct 3 t) from by
    rw [← hW1]
    refine World.rowIs.congr ?_ (fun i hi => on_line hand kind st ct line t 3 i hi)
    repeat (first | (with_reducible refine World.rowIs.set ?_ _ _) | (with_reducible apply World.rowIs.alloc))
    exact h)
  have M := hide (show IsMem W1 bm bw n f from by
    rw [← hW1]
    repeat (first | (with_reducible apply IsMem.alloc) | ((with_reducible refine IsMem.setOther ?_ ?_ ?_ _); rotate_left; (simp; omega); (simp; omega)))
    exact hm)
  have RZ := hide (show W1.rowIs w.heap.size 122 6 zcell from by
    rw [← hW1]
    have := row0 (w.setCell ⟨b, 4, none⟩ (.int .i64 3))
    simpa using this)
  have T0 := hide (show Touch w W1 (fun k => k = b ∨ k = bw) from by
    rw [← hW1]
    repeat (first | (with_reducible apply Touch.alloc) | (with_reducible refine Touch.setCell ?_ _ ?side _; case side => simp))
    exact Touch.refl w _)
  have sz : W1.heap.size = w.heap.size + 1 := by rw [← hW1]; simp
  have HX := hide hx
  have HF := hide hf'
  have HW : Hid (0 ≤ (⟨hand, 4, ct, 0, 1, true⟩ : Stp).put ∧ (⟨hand, 4, ct, 0, 1, true⟩ : Stp).put ≤ 18446744073709551615) := ⟨by show (0 : Int) ≤ 1; decide, by show (1 : Int) ≤ 18446744073709551615; decide⟩
  clear hm h hx hf'

  have p0 : W1.cell? ⟨b, 0, none⟩ = some (.int .i64 hand) := R.out.cell (i := 0) (by omega)
  have p3 : W1.cell? ⟨b, 3, none⟩ = some (.int .i64 ct) := R.out.cell (i := 3) (by omega)
  go_enter Try.func85, Try.ntmps85
  go_wp2_with fail
  clear hW1 c0 c3 c4 fz4
  obtain ⟨dS, hdS1, hdS2⟩ := row46
  have HD := hide (And.intro hdS1 hdS2)
  have tE : W1.there w.heap.size 0 6 := rowIs.there RZ.out (by omega)
  refine RetC.region (ks := [(0, 9), (1, 10), (2, 11), (3, 12), (4, 13), (5, 14), (6, 15), (7, 16), (8, 17), (11, 5)]) (vals := fun i => match i with
      | 0 => .pointer (some ⟨bm, 0, none⟩)
      | 4 => .int .i64 hand
      | 7 => .pointer (some ⟨b, 3, none⟩)
      | 8 => .int .i64 ct
      | 11 => .int .i64 0
      | _ => .pointer (some ⟨b, 0, none⟩)) (kc := 9) (sc := 18) (vc := .agg #[Value.int .i64 x.hand, .int .i64 x.act, .int .i64 x.at_, .int .u64 x.had, .int .u64 x.put, .bool x.ok])
      (WI := fun d w' => w'.rowIs b 106 7 (onC hand kind st ct 3 t) ∧ IsMem w' bm bw n (if d = true then f' else f) ∧ Touch W1 w' (fun k => k = bw ∨ k = w.heap.size))
      (E := w.heap.size) (iE := 10) (ls := [Value.int .i64 x.hand, .int .i64 x.act, .int .i64 x.at_, .int .u64 x.had, .int .u64 x.put, .bool x.ok]) (by kernel_rfl) ?gg ?bk rfl (by decide) ?dd (by simp) (by simp [Value.oneCell']) tE ?w0 ?we ?kinds ?fin
  case gg =>
    intro i o ho
    have hi : i < 12 := by have := (Array.getElem?_eq_some_iff.1 ho).1; simpa using this
    match i, hi with
    | 0, _ | 1, _ | 2, _ | 3, _ | 4, _ | 5, _ | 6, _ | 7, _ | 8, _ | 9, _ | 10, _ | 11, _ => injection ho with ho; subst ho; rfl
  case bk =>
    intro i o ho
    have hi : i < 12 := by have := (Array.getElem?_eq_some_iff.1 ho).1; simpa using this
    match i, hi with
    | 0, _ | 1, _ | 2, _ | 3, _ | 4, _ | 5, _ | 6, _ | 7, _ | 8, _ | 9, _ | 10, _ | 11, _ => injection ho with ho; subst ho; simp [Region.binds]
  case dd =>
    intro k hk
    have hk' : k < 19 := by
      simp [RetN.D] at hk
      omega
    simpa using hk'
  case w0 => exact ⟨R.out.drew, M.out.drew, (Touch.refl W1 _).drew⟩
  case we =>
    rintro w' ⟨q1, q2, q3⟩
    have tt := touch_setCells w.heap.size [Value.int .i64 x.hand, .int .i64 x.act, .int .i64 x.at_, .int .u64 x.had, .int .u64 x.put, .bool x.ok] 0 w'
    exact ⟨q1.of_block (tt.block _ q1.lt (by omega)), ⟨q2.head.of_block (tt.block _ q2.head.lt (by omega)), q2.row.of_block (tt.block _ q2.row.lt (by omega)), q2.most, q2.word⟩, q3.trans' tt (fun k _ h => .inr h)⟩
  case kinds =>
    intro i o ho
    have hi : i < 12 := by have := (Array.getElem?_eq_some_iff.1 ho).1; simpa using this
    match i, hi with
    | 0, _ => injection ho with ho; subst ho; exact .inl ⟨9, _, rfl, rfl, fun L a w' hI hd => ex_move rfl (hI.fix 1 (Reg.notD rfl) (by decide))⟩
    | 1, _ => injection ho with ho; subst ho; exact .inl ⟨10, _, rfl, rfl, fun L a w' hI hd => ex_move rfl (hI.fix 0 (Reg.notD rfl) (by decide))⟩
    | 2, _ => injection ho with ho; subst ho; exact .inl ⟨11, _, rfl, rfl, fun L a w' hI hd => ex_nil rfl (hI.pure 1 _ _ rfl (hd ⟨1, .data⟩ (by simp) rfl))⟩
    | 3, _ => injection ho with ho; subst ho; exact .inl ⟨12, _, rfl, rfl, fun L a w' hI hd => ex_field rfl (hI.pure 2 _ _ rfl (hd ⟨2, .data⟩ (by simp) rfl)) (fieldO0 w' _)⟩
    | 4, _ => injection ho with ho; subst ho; exact .inl ⟨13, _, rfl, rfl, fun L a w' hI hd => ex_load rfl (hI.pure 3 _ _ rfl (hd ⟨3, .data⟩ (by simp) rfl)) (aggI w') (hI.world.1.cell (i := 0) (by omega))⟩
    | 5, _ => injection ho with ho; subst ho; exact .inl ⟨14, _, rfl, rfl, fun L a w' hI hd => ex_move rfl (hI.fix 0 (Reg.notD rfl) (by decide))⟩
    | 6, _ => injection ho with ho; subst ho; exact .inl ⟨15, _, rfl, rfl, fun L a w' hI hd => ex_nil rfl (hI.pure 5 _ _ rfl (hd ⟨5, .data⟩ (by simp) rfl))⟩
    | 7, _ => injection ho with ho; subst ho; exact .inl ⟨16, _, rfl, rfl, fun L a w' hI hd => ex_field rfl (hI.pure 6 _ _ rfl (hd ⟨6, .data⟩ (by simp) rfl)) (fieldO3 w' _)⟩
    | 8, _ => injection ho with ho; subst ho; exact .inl ⟨17, _, rfl, rfl, fun L a w' hI hd => ex_load rfl (hI.pure 7 _ _ rfl (hd ⟨7, .data⟩ (by simp) rfl)) (aggI w') (hI.world.1.cell (i := 3) (by omega))⟩
    | 9, _ => injection ho with ho; subst ho; exact .inr (.inl ⟨rfl, rfl, fun L a w' K hI hL hd hk => wp_call (f := 89) (call6 rfl (hI.pure 0 _ _ rfl (hd ⟨0, .data⟩ (by simp) rfl)) (hI.pure 4 _ _ rfl (hd ⟨4, .data⟩ (by simp) rfl)) rfl (hI.pure 8 _ _ rfl (hd ⟨8, .data⟩ (by simp) rfl)) rfl rfl rfl (callDo _ _)) (by
        have hI2 := hI.world
        rw [hL, if_neg (by decide)] at hI2
        refine (do_mem hI2.2.1 ⟨hand, 4, ct, 0, 1, true⟩ HW.out).mono ?_
        rintro e w1 ⟨rfl, hm1, hg1⟩
        rw [HX.out]
        rw [HF.out] at hm1
        have l1 := hI2.2.2.size
        exact ⟨_, rfl, hk w1 ⟨hI2.1.of_block (hg1.block b (by omega) (by simp [h2])), by rw [if_pos rfl]; exact hm1, hI2.2.2.trans' (Touch.of_grown hg1) (fun k _ h => .inl (by simpa using h))⟩ (there_block hI.tE (hg1.block w.heap.size (by omega) (by simp; omega)))⟩)⟩)
    | 10, _ => injection ho with ho; subst ho; exact .inr (.inr ⟨rfl, rfl, _, _, _, rfl, size46, fun L a w' hI hd => ⟨hI.fix 4 (Reg.notD rfl) (by decide), hI.call (hd ⟨9, .data⟩ (by simp) rfl), hd ⟨9, .data⟩ (by simp) rfl⟩⟩)
    | 11, _ => injection ho with ho; subst ho; exact .inl ⟨5, _, rfl, rfl, fun L a w' hI hd => ex_assign rfl rfl⟩
  case fin =>
    intro L a' w' hI hall
    rename_i K2 hK2
    refine hK2 _ _ ?_
    have rE := hI.sE (hall 10 (by decide))
    have pE : a'.eval (.tmp 4) = .pointer (some ⟨w.heap.size, 0, none⟩) := hI.fix 4 (Reg.notD rfl) (by decide)
    have pe : a'.eval (.tmp 5) = .int .i64 0 := hI.pure 11 5 _ rfl (hall 11 (by decide))
    have hw := hI.world
    rw [hall 9 (by decide), if_pos rfl] at hw
    have hdf : a'.defers = [] := hI.df
    have hS := run_loadVar_mid (P := Try.prog) w' w.heap.size 0 _ _ dS rE HD.out.1 HD.out.2 size46
    have hres := results_ct (Q := Try.prog) (fn := Try.f85) (tmps := a'.tmps) (t := 4) (t' := 5) (W := w') (by rfl) pE hS
    rw [show a'.tmps.getD 5 undef = .int .i64 0 from pe] at hres
    go_wp2
    exact bodyPost_ret (v := .tuple #[x.val, .int .i64 0]) hres hdf ⟨rfl, hw.1, hw.2.1, T0.out.trans' hw.2.2 (fun k hk h => by rcases h with h | h; exact .inr h; omega)⟩

set_option maxHeartbeats 4000000 in
theorem finish_ends {w : World} {b bm bw n : Nat} {f f' : Nat → Int} {x : Stp} {hand kind st ct line : Int} {t : Ans} (h : w.rowIs b 106 7 (onC hand kind st ct line t)) (hm : IsMem w bm bw n f) (h1 : b ≠ bm) (h2 : b ≠ bw) 
    (hx : stepOf n f ⟨hand, 2, st, 0, 2, true⟩ = x) (hf' : wordsOf n f ⟨hand, 2, st, 0, 2, true⟩ = f') :
    Calls Try.prog 86 #[.pointer (some ⟨b, 0, none⟩), .pointer (some ⟨bm, 0, none⟩)] w fun e w' => e = .returned (.tuple #[x.val, .int .i64 1]) ∧
      w'.rowIs b 106 7 (onC hand kind st ct line ⟨kind == 1, 1⟩) ∧ IsMem w' bm bw n f' ∧ Touch w w' (fun k => k = b ∨ k = bw) := by
  have c0 : w.cell? ⟨b, 0, none⟩ = some (.int .i64 hand) := h.cell (i := 0) (by omega)
  have c1 : w.cell? ⟨b, 1, none⟩ = some (.int .i64 kind) := h.cell (i := 1) (by omega)
  have c2 : w.cell? ⟨b, 2, none⟩ = some (.int .i64 st) := h.cell (i := 2) (by omega)
  have c5 : w.cell? ⟨b, 5, none⟩ = some (.bool t.ok) := h.cell (i := 5) (by omega)
  have c6 : w.cell? ⟨b, 6, none⟩ = some (.int .u64 t.val) := h.cell (i := 6) (by omega)
  have fz5 := h.frozen 5
  have fz6 := h.frozen 6
  have hl := h.lt
  have lw := hm.row.lt
  have lm := hm.head.lt
  have hn3 : w.heap.size ≠ b := by omega
  have hn4 : w.heap.size ≠ bw := by omega
  have hn5 : w.heap.size ≠ bm := by omega
  obtain ⟨W1, hW1⟩ : ∃ W1, (((w.setCell ⟨b, 5, none⟩ (.bool (kind == 1))).setCell ⟨b, 6, none⟩ (.int .u64 1)).alloc (.cells #[.int .i64 0, .int .i64 0, .int .i64 0, .int .u64 0, .int .u64 0, .bool false] 122)) = W1 := ⟨_, rfl⟩
  have R := hide (show W1.rowIs b 106 7 (onC hand kind st ct line ⟨kind == 1, 1⟩) from by
    rw [← hW1]
    refine World.rowIs.congr ?_ (fun i hi => on_told hand kind st ct line t (kind == 1) 1 i hi)
    repeat (first | (with_reducible refine World.rowIs.set ?_ _ _) | (with_reducible apply World.rowIs.alloc))
    exact h)
  have M := hide (show IsMem W1 bm bw n f from by
    rw [← hW1]
    repeat (first | (with_reducible apply IsMem.alloc) | ((with_reducible refine IsMem.setOther ?_ ?_ ?_ _); rotate_left; (simp; omega); (simp; omega)))
    exact hm)
  have RZ := hide (show W1.rowIs w.heap.size 122 6 zcell from by
    rw [← hW1]
    have := row0 ((w.setCell ⟨b, 5, none⟩ (.bool (kind == 1))).setCell ⟨b, 6, none⟩ (.int .u64 1))
    simpa using this)
  have T0 := hide (show Touch w W1 (fun k => k = b ∨ k = bw) from by
    rw [← hW1]
    repeat (first | (with_reducible apply Touch.alloc) | (with_reducible refine Touch.setCell ?_ _ ?side _; case side => simp))
    exact Touch.refl w _)
  have sz : W1.heap.size = w.heap.size + 1 := by rw [← hW1]; simp
  have HX := hide hx
  have HF := hide hf'
  have HW : Hid (0 ≤ (⟨hand, 2, st, 0, 2, true⟩ : Stp).put ∧ (⟨hand, 2, st, 0, 2, true⟩ : Stp).put ≤ 18446744073709551615) := ⟨by show (0 : Int) ≤ 2; decide, by show (2 : Int) ≤ 18446744073709551615; decide⟩
  clear hm h hx hf'

  have p0 : W1.cell? ⟨b, 0, none⟩ = some (.int .i64 hand) := R.out.cell (i := 0) (by omega)
  have p2 : W1.cell? ⟨b, 2, none⟩ = some (.int .i64 st) := R.out.cell (i := 2) (by omega)
  go_enter Try.func86, Try.ntmps86
  go_wp2_with fail
  clear hW1 c0 c1 c2 c5 c6 fz5 fz6
  obtain ⟨dS, hdS1, hdS2⟩ := row46
  have HD := hide (And.intro hdS1 hdS2)
  have tE : W1.there w.heap.size 0 6 := rowIs.there RZ.out (by omega)
  refine RetC.region (ks := [(0, 15), (1, 16), (2, 17), (3, 18), (4, 19), (5, 20), (6, 21), (7, 22), (8, 23), (11, 5)]) (vals := fun i => match i with
      | 0 => .pointer (some ⟨bm, 0, none⟩)
      | 4 => .int .i64 hand
      | 7 => .pointer (some ⟨b, 2, none⟩)
      | 8 => .int .i64 st
      | 11 => .int .i64 1
      | _ => .pointer (some ⟨b, 0, none⟩)) (kc := 9) (sc := 24) (vc := .agg #[Value.int .i64 x.hand, .int .i64 x.act, .int .i64 x.at_, .int .u64 x.had, .int .u64 x.put, .bool x.ok])
      (WI := fun d w' => w'.rowIs b 106 7 (onC hand kind st ct line ⟨kind == 1, 1⟩) ∧ IsMem w' bm bw n (if d = true then f' else f) ∧ Touch W1 w' (fun k => k = bw ∨ k = w.heap.size))
      (E := w.heap.size) (iE := 10) (ls := [Value.int .i64 x.hand, .int .i64 x.act, .int .i64 x.at_, .int .u64 x.had, .int .u64 x.put, .bool x.ok]) (by kernel_rfl) ?gg ?bk rfl (by decide) ?dd (by simp) (by simp [Value.oneCell']) tE ?w0 ?we ?kinds ?fin
  case gg =>
    intro i o ho
    have hi : i < 12 := by have := (Array.getElem?_eq_some_iff.1 ho).1; simpa using this
    match i, hi with
    | 0, _ | 1, _ | 2, _ | 3, _ | 4, _ | 5, _ | 6, _ | 7, _ | 8, _ | 9, _ | 10, _ | 11, _ => injection ho with ho; subst ho; rfl
  case bk =>
    intro i o ho
    have hi : i < 12 := by have := (Array.getElem?_eq_some_iff.1 ho).1; simpa using this
    match i, hi with
    | 0, _ | 1, _ | 2, _ | 3, _ | 4, _ | 5, _ | 6, _ | 7, _ | 8, _ | 9, _ | 10, _ | 11, _ => injection ho with ho; subst ho; simp [Region.binds]
  case dd =>
    intro k hk
    have hk' : k < 25 := by
      simp [RetN.D] at hk
      omega
    simpa using hk'
  case w0 => exact ⟨R.out.drew, M.out.drew, (Touch.refl W1 _).drew⟩
  case we =>
    rintro w' ⟨q1, q2, q3⟩
    have tt := touch_setCells w.heap.size [Value.int .i64 x.hand, .int .i64 x.act, .int .i64 x.at_, .int .u64 x.had, .int .u64 x.put, .bool x.ok] 0 w'
    exact ⟨q1.of_block (tt.block _ q1.lt (by omega)), ⟨q2.head.of_block (tt.block _ q2.head.lt (by omega)), q2.row.of_block (tt.block _ q2.row.lt (by omega)), q2.most, q2.word⟩, q3.trans' tt (fun k _ h => .inr h)⟩
  case kinds =>
    intro i o ho
    have hi : i < 12 := by have := (Array.getElem?_eq_some_iff.1 ho).1; simpa using this
    match i, hi with
    | 0, _ => injection ho with ho; subst ho; exact .inl ⟨15, _, rfl, rfl, fun L a w' hI hd => ex_move rfl (hI.fix 1 (Reg.notD rfl) (by decide))⟩
    | 1, _ => injection ho with ho; subst ho; exact .inl ⟨16, _, rfl, rfl, fun L a w' hI hd => ex_move rfl (hI.fix 0 (Reg.notD rfl) (by decide))⟩
    | 2, _ => injection ho with ho; subst ho; exact .inl ⟨17, _, rfl, rfl, fun L a w' hI hd => ex_nil rfl (hI.pure 1 _ _ rfl (hd ⟨1, .data⟩ (by simp) rfl))⟩
    | 3, _ => injection ho with ho; subst ho; exact .inl ⟨18, _, rfl, rfl, fun L a w' hI hd => ex_field rfl (hI.pure 2 _ _ rfl (hd ⟨2, .data⟩ (by simp) rfl)) (fieldO0 w' _)⟩
    | 4, _ => injection ho with ho; subst ho; exact .inl ⟨19, _, rfl, rfl, fun L a w' hI hd => ex_load rfl (hI.pure 3 _ _ rfl (hd ⟨3, .data⟩ (by simp) rfl)) (aggI w') (hI.world.1.cell (i := 0) (by omega))⟩
    | 5, _ => injection ho with ho; subst ho; exact .inl ⟨20, _, rfl, rfl, fun L a w' hI hd => ex_move rfl (hI.fix 0 (Reg.notD rfl) (by decide))⟩
    | 6, _ => injection ho with ho; subst ho; exact .inl ⟨21, _, rfl, rfl, fun L a w' hI hd => ex_nil rfl (hI.pure 5 _ _ rfl (hd ⟨5, .data⟩ (by simp) rfl))⟩
    | 7, _ => injection ho with ho; subst ho; exact .inl ⟨22, _, rfl, rfl, fun L a w' hI hd => ex_field rfl (hI.pure 6 _ _ rfl (hd ⟨6, .data⟩ (by simp) rfl)) (fieldO2 w' _)⟩
    | 8, _ => injection ho with ho; subst ho; exact .inl ⟨23, _, rfl, rfl, fun L a w' hI hd => ex_load rfl (hI.pure 7 _ _ rfl (hd ⟨7, .data⟩ (by simp) rfl)) (aggI w') (hI.world.1.cell (i := 2) (by omega))⟩
    | 9, _ => injection ho with ho; subst ho; exact .inr (.inl ⟨rfl, rfl, fun L a w' K hI hL hd hk => wp_call (f := 89) (call6 rfl (hI.pure 0 _ _ rfl (hd ⟨0, .data⟩ (by simp) rfl)) (hI.pure 4 _ _ rfl (hd ⟨4, .data⟩ (by simp) rfl)) rfl (hI.pure 8 _ _ rfl (hd ⟨8, .data⟩ (by simp) rfl)) rfl rfl rfl (callDo _ _)) (by
        have hI2 := hI.world
        rw [hL, if_neg (by decide)] at hI2
        refine (do_mem hI2.2.1 ⟨hand, 2, st, 0, 2, true⟩ HW.out).mono ?_
        rintro e w1 ⟨rfl, hm1, hg1⟩
        rw [HX.out]
        rw [HF.out] at hm1
        have l1 := hI2.2.2.size
        exact ⟨_, rfl, hk w1 ⟨hI2.1.of_block (hg1.block b (by omega) (by simp [h2])), by rw [if_pos rfl]; exact hm1, hI2.2.2.trans' (Touch.of_grown hg1) (fun k _ h => .inl (by simpa using h))⟩ (there_block hI.tE (hg1.block w.heap.size (by omega) (by simp; omega)))⟩)⟩)
    | 10, _ => injection ho with ho; subst ho; exact .inr (.inr ⟨rfl, rfl, _, _, _, rfl, size46, fun L a w' hI hd => ⟨hI.fix 4 (Reg.notD rfl) (by decide), hI.call (hd ⟨9, .data⟩ (by simp) rfl), hd ⟨9, .data⟩ (by simp) rfl⟩⟩)
    | 11, _ => injection ho with ho; subst ho; exact .inl ⟨5, _, rfl, rfl, fun L a w' hI hd => ex_assign rfl rfl⟩
  case fin =>
    intro L a' w' hI hall
    rename_i K2 hK2
    refine hK2 _ _ ?_
    have rE := hI.sE (hall 10 (by decide))
    have pE : a'.eval (.tmp 4) = .pointer (some ⟨w.heap.size, 0, none⟩) := hI.fix 4 (Reg.notD rfl) (by decide)
    have pe : a'.eval (.tmp 5) = .int .i64 1 := hI.pure 11 5 _ rfl (hall 11 (by decide))
    have hw := hI.world
    rw [hall 9 (by decide), if_pos rfl] at hw
    have hdf : a'.defers = [] := hI.df
    have hS := run_loadVar_mid (P := Try.prog) w' w.heap.size 0 _ _ dS rE HD.out.1 HD.out.2 size46
    have hres := results_ct (Q := Try.prog) (fn := Try.f86) (tmps := a'.tmps) (t := 4) (t' := 5) (W := w') (by rfl) pE hS
    rw [show a'.tmps.getD 5 undef = .int .i64 1 from pe] at hres
    go_wp2
    exact bodyPost_ret (v := .tuple #[x.val, .int .i64 1]) hres hdf ⟨rfl, hw.1, hw.2.1, T0.out.trans' hw.2.2 (fun k hk h => by rcases h with h | h; exact .inr h; omega)⟩

end Once
end Go.Proofs.Ytgaafdfekgnccaa

/-
  The kind of once's tasks: what each does is what its abstract task says.
-/
namespace Go.Proofs.Ytgaafdfekgnccaa
open Go.RowKit
set_option linter.unusedVariables false
set_option linter.unusedSimpArgs false
set_option maxRecDepth 20000
namespace Once

def ocell (room : Int) (s : OnS) : Nat → Value := onC s.hand s.j.kind s.j.a (room + s.j.a) (if s.j.kind = 3 then 5 else s.st + 1) s.told

def kOnce (room : Int) : Kd where
  σ := OnS
  err _ := oerr room
  init h j := ⟨h, j, 0, ⟨false, 0⟩⟩
  req := oreq room
  next := onext
  ends := oends
  tell s := s.told
  tid _ := 84
  t _ := 106
  n _ := 7
  fs _ := 83
  fa _ := 82
  cell := fun _ => ocell room
  wf j s := s.j = j ∧ (0 ≤ s.st ∧ s.st ≤ 3) ∧ 1 ≤ s.j.kind ∧ s.j.kind ≤ 3

theorem fine_cases {room : Int} {j : Jb} (h : (kOnce room).fine j) : (j.kind = 1 ∨ j.kind = 2 ∨ j.kind = 3) ∧ 0 ≤ j.a ∧ j.a < room := by
  have h2 : oerr room j = 0 := h.2.choose_spec
  unfold oerr at h2
  split at h2
  · cases h2
  · split at h2
    · cases h2
    · omega

set_option maxHeartbeats 4000000 in
theorem step_claim {w : World} {b bm bw n : Nat} {f f' : Nat → Int} {x : Stp} {v : Int} {hand kind st ct : Int} {t : Ans} {C' : Nat → Value} (h : w.rowIs b 106 7 (onC hand kind st ct 1 t)) (hm : IsMem w bm bw n f) (h1 : b ≠ bm) (h2 : b ≠ bw)
    (hc : ∀ w1 : World, w1.rowIs b 106 7 (onC hand kind st ct 1 t) → IsMem w1 bm bw n f → Calls Try.prog 84 #[.pointer (some ⟨b, 0, none⟩), .pointer (some ⟨bm, 0, none⟩)] w1 fun e w' => e = .returned (.tuple #[x.val, .int .i64 v]) ∧ w'.rowIs b 106 7 C' ∧ IsMem w' bm bw n f' ∧ Touch w1 w' (fun k => k = b ∨ k = bw)) :
    Calls Try.prog 83 #[.pointer (some ⟨b, 0, none⟩), .pointer (some ⟨bm, 0, none⟩)] w fun e w' => e = .returned (.tuple #[x.val, .int .i64 v]) ∧ w'.rowIs b 106 7 C' ∧ IsMem w' bm bw n f' ∧ Touch w w' (fun k => k = b ∨ k = bw) := by
  have c4 : w.cell? ⟨b, 4, none⟩ = some (.int .i64 1) := h.cell (i := 4) (by omega)
  have hl := h.lt
  have lw := hm.row.lt
  have lm0 := hm.head.lt
  have K0 := hide (hc (w.alloc (.cells #[.int .i64 0, .int .i64 0, .int .i64 0, .int .u64 0, .int .u64 0, .bool false] 122)) (h.alloc _) (hm.alloc _))
  have RW := hide (row0 w)
  clear h hm hc
  go_enter Try.func83, Try.ntmps83
  go_wp2_with fail
  refine K0.out.mono ?_
  rintro e w1 ⟨rfl, row1, mem1, t1⟩
  simp only [Stp.val]
  have s1 := t1.size
  simp only [World.size_alloc] at s1
  have RR := hide (RW.out.of_block (t1.block w.heap.size (by simp) (by omega)))
  have R1 := hide row1
  have M1 := hide mem1
  have T1 := hide (((Touch.refl w (fun k => k = b ∨ k = bw)).alloc (.cells #[.int .i64 0, .int .i64 0, .int .i64 0, .int .u64 0, .int .u64 0, .bool false] 122)).trans t1)
  have l2 : w.heap.size < w1.heap.size := by omega
  have hn3 : w.heap.size ≠ b := by omega
  have hn4 : w.heap.size ≠ bw := by omega
  clear row1 mem1 t1 c4
  have r0 : w1.cell? ⟨w.heap.size, 0, none⟩ = some (.int .i64 0) := RR.out.cell (i := 0) (by omega)
  have rf0 := RR.out.frozen 0
  have r1 : w1.cell? ⟨w.heap.size, 1, none⟩ = some (.int .i64 0) := RR.out.cell (i := 1) (by omega)
  have rf1 := RR.out.frozen 1
  have r2 : w1.cell? ⟨w.heap.size, 2, none⟩ = some (.int .i64 0) := RR.out.cell (i := 2) (by omega)
  have rf2 := RR.out.frozen 2
  have r3 : w1.cell? ⟨w.heap.size, 3, none⟩ = some (.int .u64 0) := RR.out.cell (i := 3) (by omega)
  have rf3 := RR.out.frozen 3
  have r4 : w1.cell? ⟨w.heap.size, 4, none⟩ = some (.int .u64 0) := RR.out.cell (i := 4) (by omega)
  have rf4 := RR.out.frozen 4
  have r5 : w1.cell? ⟨w.heap.size, 5, none⟩ = some (.bool false) := RR.out.cell (i := 5) (by omega)
  have rf5 := RR.out.frozen 5
  go_wp2_with fail
  go_light
  refine bodyPost_ret (v := .tuple #[x.val, .int .i64 v]) ?res rfl ⟨rfl, ?row, ?mem, ?tch⟩
  case row =>
    repeat (first | (with_reducible apply World.rowIs.alloc) | (with_reducible apply World.rowIs.drew) | (with_reducible refine World.rowIs.setOther ?_ ?side _; case side => (simp; omega)))
    with_reducible exact R1.out
  case mem =>
    repeat (first | (with_reducible apply IsMem.alloc) | (with_reducible apply IsMem.drew) | ((with_reducible refine IsMem.setOther ?_ ?_ ?_ _); rotate_left; (simp; omega); (simp; omega)))
    with_reducible exact M1.out
  case tch =>
    repeat (first | (with_reducible apply Touch.alloc) | (with_reducible apply Touch.drew) | (with_reducible refine Touch.setCell ?_ _ ?side _; case side => simp))
    with_reducible exact T1.out
  case res => simp [results, Try.results83, go_sem, Stp.val, *]

set_option maxHeartbeats 4000000 in
theorem step_add {w : World} {b bm bw n : Nat} {f f' : Nat → Int} {x : Stp} {v : Int} {hand kind st ct : Int} {t : Ans} {C' : Nat → Value} (h : w.rowIs b 106 7 (onC hand kind st ct 2 t)) (hm : IsMem w bm bw n f) (h1 : b ≠ bm) (h2 : b ≠ bw)
    (hc : ∀ w1 : World, w1.rowIs b 106 7 (onC hand kind st ct 2 t) → IsMem w1 bm bw n f → Calls Try.prog 85 #[.pointer (some ⟨b, 0, none⟩), .pointer (some ⟨bm, 0, none⟩)] w1 fun e w' => e = .returned (.tuple #[x.val, .int .i64 v]) ∧ w'.rowIs b 106 7 C' ∧ IsMem w' bm bw n f' ∧ Touch w1 w' (fun k => k = b ∨ k = bw)) :
    Calls Try.prog 83 #[.pointer (some ⟨b, 0, none⟩), .pointer (some ⟨bm, 0, none⟩)] w fun e w' => e = .returned (.tuple #[x.val, .int .i64 v]) ∧ w'.rowIs b 106 7 C' ∧ IsMem w' bm bw n f' ∧ Touch w w' (fun k => k = b ∨ k = bw) := by
  have c4 : w.cell? ⟨b, 4, none⟩ = some (.int .i64 2) := h.cell (i := 4) (by omega)
  have hl := h.lt
  have lw := hm.row.lt
  have lm0 := hm.head.lt
  have K0 := hide (hc (w.alloc (.cells #[.int .i64 0, .int .i64 0, .int .i64 0, .int .u64 0, .int .u64 0, .bool false] 122)) (h.alloc _) (hm.alloc _))
  have RW := hide (row0 w)
  clear h hm hc
  go_enter Try.func83, Try.ntmps83
  go_wp2_with fail
  refine K0.out.mono ?_
  rintro e w1 ⟨rfl, row1, mem1, t1⟩
  simp only [Stp.val]
  have s1 := t1.size
  simp only [World.size_alloc] at s1
  have RR := hide (RW.out.of_block (t1.block w.heap.size (by simp) (by omega)))
  have R1 := hide row1
  have M1 := hide mem1
  have T1 := hide (((Touch.refl w (fun k => k = b ∨ k = bw)).alloc (.cells #[.int .i64 0, .int .i64 0, .int .i64 0, .int .u64 0, .int .u64 0, .bool false] 122)).trans t1)
  have l2 : w.heap.size < w1.heap.size := by omega
  have hn3 : w.heap.size ≠ b := by omega
  have hn4 : w.heap.size ≠ bw := by omega
  clear row1 mem1 t1 c4
  have r0 : w1.cell? ⟨w.heap.size, 0, none⟩ = some (.int .i64 0) := RR.out.cell (i := 0) (by omega)
  have rf0 := RR.out.frozen 0
  have r1 : w1.cell? ⟨w.heap.size, 1, none⟩ = some (.int .i64 0) := RR.out.cell (i := 1) (by omega)
  have rf1 := RR.out.frozen 1
  have r2 : w1.cell? ⟨w.heap.size, 2, none⟩ = some (.int .i64 0) := RR.out.cell (i := 2) (by omega)
  have rf2 := RR.out.frozen 2
  have r3 : w1.cell? ⟨w.heap.size, 3, none⟩ = some (.int .u64 0) := RR.out.cell (i := 3) (by omega)
  have rf3 := RR.out.frozen 3
  have r4 : w1.cell? ⟨w.heap.size, 4, none⟩ = some (.int .u64 0) := RR.out.cell (i := 4) (by omega)
  have rf4 := RR.out.frozen 4
  have r5 : w1.cell? ⟨w.heap.size, 5, none⟩ = some (.bool false) := RR.out.cell (i := 5) (by omega)
  have rf5 := RR.out.frozen 5
  go_wp2_with fail
  go_light
  refine bodyPost_ret (v := .tuple #[x.val, .int .i64 v]) ?res rfl ⟨rfl, ?row, ?mem, ?tch⟩
  case row =>
    repeat (first | (with_reducible apply World.rowIs.alloc) | (with_reducible apply World.rowIs.drew) | (with_reducible refine World.rowIs.setOther ?_ ?side _; case side => (simp; omega)))
    with_reducible exact R1.out
  case mem =>
    repeat (first | (with_reducible apply IsMem.alloc) | (with_reducible apply IsMem.drew) | ((with_reducible refine IsMem.setOther ?_ ?_ ?_ _); rotate_left; (simp; omega); (simp; omega)))
    with_reducible exact M1.out
  case tch =>
    repeat (first | (with_reducible apply Touch.alloc) | (with_reducible apply Touch.drew) | (with_reducible refine Touch.setCell ?_ _ ?side _; case side => simp))
    with_reducible exact T1.out
  case res => simp [results, Try.results83, go_sem, Stp.val, *]

set_option maxHeartbeats 4000000 in
theorem step_finish {w : World} {b bm bw n : Nat} {f f' : Nat → Int} {x : Stp} {v : Int} {hand kind st ct : Int} {t : Ans} {C' : Nat → Value} (h : w.rowIs b 106 7 (onC hand kind st ct 3 t)) (hm : IsMem w bm bw n f) (h1 : b ≠ bm) (h2 : b ≠ bw)
    (hc : ∀ w1 : World, w1.rowIs b 106 7 (onC hand kind st ct 3 t) → IsMem w1 bm bw n f → Calls Try.prog 86 #[.pointer (some ⟨b, 0, none⟩), .pointer (some ⟨bm, 0, none⟩)] w1 fun e w' => e = .returned (.tuple #[x.val, .int .i64 v]) ∧ w'.rowIs b 106 7 C' ∧ IsMem w' bm bw n f' ∧ Touch w1 w' (fun k => k = b ∨ k = bw)) :
    Calls Try.prog 83 #[.pointer (some ⟨b, 0, none⟩), .pointer (some ⟨bm, 0, none⟩)] w fun e w' => e = .returned (.tuple #[x.val, .int .i64 v]) ∧ w'.rowIs b 106 7 C' ∧ IsMem w' bm bw n f' ∧ Touch w w' (fun k => k = b ∨ k = bw) := by
  have c4 : w.cell? ⟨b, 4, none⟩ = some (.int .i64 3) := h.cell (i := 4) (by omega)
  have hl := h.lt
  have lw := hm.row.lt
  have lm0 := hm.head.lt
  have K0 := hide (hc (w.alloc (.cells #[.int .i64 0, .int .i64 0, .int .i64 0, .int .u64 0, .int .u64 0, .bool false] 122)) (h.alloc _) (hm.alloc _))
  have RW := hide (row0 w)
  clear h hm hc
  go_enter Try.func83, Try.ntmps83
  go_wp2_with fail
  refine K0.out.mono ?_
  rintro e w1 ⟨rfl, row1, mem1, t1⟩
  simp only [Stp.val]
  have s1 := t1.size
  simp only [World.size_alloc] at s1
  have RR := hide (RW.out.of_block (t1.block w.heap.size (by simp) (by omega)))
  have R1 := hide row1
  have M1 := hide mem1
  have T1 := hide (((Touch.refl w (fun k => k = b ∨ k = bw)).alloc (.cells #[.int .i64 0, .int .i64 0, .int .i64 0, .int .u64 0, .int .u64 0, .bool false] 122)).trans t1)
  have l2 : w.heap.size < w1.heap.size := by omega
  have hn3 : w.heap.size ≠ b := by omega
  have hn4 : w.heap.size ≠ bw := by omega
  clear row1 mem1 t1 c4
  have r0 : w1.cell? ⟨w.heap.size, 0, none⟩ = some (.int .i64 0) := RR.out.cell (i := 0) (by omega)
  have rf0 := RR.out.frozen 0
  have r1 : w1.cell? ⟨w.heap.size, 1, none⟩ = some (.int .i64 0) := RR.out.cell (i := 1) (by omega)
  have rf1 := RR.out.frozen 1
  have r2 : w1.cell? ⟨w.heap.size, 2, none⟩ = some (.int .i64 0) := RR.out.cell (i := 2) (by omega)
  have rf2 := RR.out.frozen 2
  have r3 : w1.cell? ⟨w.heap.size, 3, none⟩ = some (.int .u64 0) := RR.out.cell (i := 3) (by omega)
  have rf3 := RR.out.frozen 3
  have r4 : w1.cell? ⟨w.heap.size, 4, none⟩ = some (.int .u64 0) := RR.out.cell (i := 4) (by omega)
  have rf4 := RR.out.frozen 4
  have r5 : w1.cell? ⟨w.heap.size, 5, none⟩ = some (.bool false) := RR.out.cell (i := 5) (by omega)
  have rf5 := RR.out.frozen 5
  go_wp2_with fail
  go_light
  refine bodyPost_ret (v := .tuple #[x.val, .int .i64 v]) ?res rfl ⟨rfl, ?row, ?mem, ?tch⟩
  case row =>
    repeat (first | (with_reducible apply World.rowIs.alloc) | (with_reducible apply World.rowIs.drew) | (with_reducible refine World.rowIs.setOther ?_ ?side _; case side => (simp; omega)))
    with_reducible exact R1.out
  case mem =>
    repeat (first | (with_reducible apply IsMem.alloc) | (with_reducible apply IsMem.drew) | ((with_reducible refine IsMem.setOther ?_ ?_ ?_ _); rotate_left; (simp; omega); (simp; omega)))
    with_reducible exact M1.out
  case tch =>
    repeat (first | (with_reducible apply Touch.alloc) | (with_reducible apply Touch.drew) | (with_reducible refine Touch.setCell ?_ _ ?side _; case side => simp))
    with_reducible exact T1.out
  case res => simp [results, Try.results83, go_sem, Stp.val, *]

set_option maxHeartbeats 4000000 in
theorem step_await {w : World} {b bm bw n : Nat} {f f' : Nat → Int} {x : Stp} {v : Int} {hand kind st ct : Int} {t : Ans} {C' : Nat → Value} (h : w.rowIs b 106 7 (onC hand kind st ct 4 t)) (hm : IsMem w bm bw n f) (h1 : b ≠ bm) (h2 : b ≠ bw)
    (hc : ∀ w1 : World, w1.rowIs b 106 7 (onC hand kind st ct 4 t) → IsMem w1 bm bw n f → Calls Try.prog 87 #[.pointer (some ⟨b, 0, none⟩), .pointer (some ⟨bm, 0, none⟩)] w1 fun e w' => e = .returned (.tuple #[x.val, .int .i64 v]) ∧ w'.rowIs b 106 7 C' ∧ IsMem w' bm bw n f' ∧ Touch w1 w' (fun k => k = b ∨ k = bw)) :
    Calls Try.prog 83 #[.pointer (some ⟨b, 0, none⟩), .pointer (some ⟨bm, 0, none⟩)] w fun e w' => e = .returned (.tuple #[x.val, .int .i64 v]) ∧ w'.rowIs b 106 7 C' ∧ IsMem w' bm bw n f' ∧ Touch w w' (fun k => k = b ∨ k = bw) := by
  have c4 : w.cell? ⟨b, 4, none⟩ = some (.int .i64 4) := h.cell (i := 4) (by omega)
  have hl := h.lt
  have lw := hm.row.lt
  have lm0 := hm.head.lt
  have K0 := hide (hc (w.alloc (.cells #[.int .i64 0, .int .i64 0, .int .i64 0, .int .u64 0, .int .u64 0, .bool false] 122)) (h.alloc _) (hm.alloc _))
  have RW := hide (row0 w)
  clear h hm hc
  go_enter Try.func83, Try.ntmps83
  go_wp2_with fail
  refine K0.out.mono ?_
  rintro e w1 ⟨rfl, row1, mem1, t1⟩
  simp only [Stp.val]
  have s1 := t1.size
  simp only [World.size_alloc] at s1
  have RR := hide (RW.out.of_block (t1.block w.heap.size (by simp) (by omega)))
  have R1 := hide row1
  have M1 := hide mem1
  have T1 := hide (((Touch.refl w (fun k => k = b ∨ k = bw)).alloc (.cells #[.int .i64 0, .int .i64 0, .int .i64 0, .int .u64 0, .int .u64 0, .bool false] 122)).trans t1)
  have l2 : w.heap.size < w1.heap.size := by omega
  have hn3 : w.heap.size ≠ b := by omega
  have hn4 : w.heap.size ≠ bw := by omega
  clear row1 mem1 t1 c4
  have r0 : w1.cell? ⟨w.heap.size, 0, none⟩ = some (.int .i64 0) := RR.out.cell (i := 0) (by omega)
  have rf0 := RR.out.frozen 0
  have r1 : w1.cell? ⟨w.heap.size, 1, none⟩ = some (.int .i64 0) := RR.out.cell (i := 1) (by omega)
  have rf1 := RR.out.frozen 1
  have r2 : w1.cell? ⟨w.heap.size, 2, none⟩ = some (.int .i64 0) := RR.out.cell (i := 2) (by omega)
  have rf2 := RR.out.frozen 2
  have r3 : w1.cell? ⟨w.heap.size, 3, none⟩ = some (.int .u64 0) := RR.out.cell (i := 3) (by omega)
  have rf3 := RR.out.frozen 3
  have r4 : w1.cell? ⟨w.heap.size, 4, none⟩ = some (.int .u64 0) := RR.out.cell (i := 4) (by omega)
  have rf4 := RR.out.frozen 4
  have r5 : w1.cell? ⟨w.heap.size, 5, none⟩ = some (.bool false) := RR.out.cell (i := 5) (by omega)
  have rf5 := RR.out.frozen 5
  go_wp2_with fail
  go_light
  refine bodyPost_ret (v := .tuple #[x.val, .int .i64 v]) ?res rfl ⟨rfl, ?row, ?mem, ?tch⟩
  case row =>
    repeat (first | (with_reducible apply World.rowIs.alloc) | (with_reducible apply World.rowIs.drew) | (with_reducible refine World.rowIs.setOther ?_ ?side _; case side => (simp; omega)))
    with_reducible exact R1.out
  case mem =>
    repeat (first | (with_reducible apply IsMem.alloc) | (with_reducible apply IsMem.drew) | ((with_reducible refine IsMem.setOther ?_ ?_ ?_ _); rotate_left; (simp; omega); (simp; omega)))
    with_reducible exact M1.out
  case tch =>
    repeat (first | (with_reducible apply Touch.alloc) | (with_reducible apply Touch.drew) | (with_reducible refine Touch.setCell ?_ _ ?side _; case side => simp))
    with_reducible exact T1.out
  case res => simp [results, Try.results83, go_sem, Stp.val, *]

set_option maxHeartbeats 4000000 in
theorem step_look {w : World} {b bm bw n : Nat} {f f' : Nat → Int} {x : Stp} {v : Int} {hand kind st ct : Int} {t : Ans} {C' : Nat → Value} (h : w.rowIs b 106 7 (onC hand kind st ct 5 t)) (hm : IsMem w bm bw n f) (h1 : b ≠ bm) (h2 : b ≠ bw)
    (hc : ∀ w1 : World, w1.rowIs b 106 7 (onC hand kind st ct 5 t) → IsMem w1 bm bw n f → Calls Try.prog 88 #[.pointer (some ⟨b, 0, none⟩), .pointer (some ⟨bm, 0, none⟩)] w1 fun e w' => e = .returned (.tuple #[x.val, .int .i64 v]) ∧ w'.rowIs b 106 7 C' ∧ IsMem w' bm bw n f' ∧ Touch w1 w' (fun k => k = b ∨ k = bw)) :
    Calls Try.prog 83 #[.pointer (some ⟨b, 0, none⟩), .pointer (some ⟨bm, 0, none⟩)] w fun e w' => e = .returned (.tuple #[x.val, .int .i64 v]) ∧ w'.rowIs b 106 7 C' ∧ IsMem w' bm bw n f' ∧ Touch w w' (fun k => k = b ∨ k = bw) := by
  have c4 : w.cell? ⟨b, 4, none⟩ = some (.int .i64 5) := h.cell (i := 4) (by omega)
  have hl := h.lt
  have lw := hm.row.lt
  have lm0 := hm.head.lt
  have K0 := hide (hc (w.alloc (.cells #[.int .i64 0, .int .i64 0, .int .i64 0, .int .u64 0, .int .u64 0, .bool false] 122)) (h.alloc _) (hm.alloc _))
  have RW := hide (row0 w)
  clear h hm hc
  go_enter Try.func83, Try.ntmps83
  go_wp2_with fail
  refine K0.out.mono ?_
  rintro e w1 ⟨rfl, row1, mem1, t1⟩
  simp only [Stp.val]
  have s1 := t1.size
  simp only [World.size_alloc] at s1
  have RR := hide (RW.out.of_block (t1.block w.heap.size (by simp) (by omega)))
  have R1 := hide row1
  have M1 := hide mem1
  have T1 := hide (((Touch.refl w (fun k => k = b ∨ k = bw)).alloc (.cells #[.int .i64 0, .int .i64 0, .int .i64 0, .int .u64 0, .int .u64 0, .bool false] 122)).trans t1)
  have l2 : w.heap.size < w1.heap.size := by omega
  have hn3 : w.heap.size ≠ b := by omega
  have hn4 : w.heap.size ≠ bw := by omega
  clear row1 mem1 t1 c4
  have r0 : w1.cell? ⟨w.heap.size, 0, none⟩ = some (.int .i64 0) := RR.out.cell (i := 0) (by omega)
  have rf0 := RR.out.frozen 0
  have r1 : w1.cell? ⟨w.heap.size, 1, none⟩ = some (.int .i64 0) := RR.out.cell (i := 1) (by omega)
  have rf1 := RR.out.frozen 1
  have r2 : w1.cell? ⟨w.heap.size, 2, none⟩ = some (.int .i64 0) := RR.out.cell (i := 2) (by omega)
  have rf2 := RR.out.frozen 2
  have r3 : w1.cell? ⟨w.heap.size, 3, none⟩ = some (.int .u64 0) := RR.out.cell (i := 3) (by omega)
  have rf3 := RR.out.frozen 3
  have r4 : w1.cell? ⟨w.heap.size, 4, none⟩ = some (.int .u64 0) := RR.out.cell (i := 4) (by omega)
  have rf4 := RR.out.frozen 4
  have r5 : w1.cell? ⟨w.heap.size, 5, none⟩ = some (.bool false) := RR.out.cell (i := 5) (by omega)
  have rf5 := RR.out.frozen 5
  go_wp2_with fail
  go_light
  refine bodyPost_ret (v := .tuple #[x.val, .int .i64 v]) ?res rfl ⟨rfl, ?row, ?mem, ?tch⟩
  case row =>
    repeat (first | (with_reducible apply World.rowIs.alloc) | (with_reducible apply World.rowIs.drew) | (with_reducible refine World.rowIs.setOther ?_ ?side _; case side => (simp; omega)))
    with_reducible exact R1.out
  case mem =>
    repeat (first | (with_reducible apply IsMem.alloc) | (with_reducible apply IsMem.drew) | ((with_reducible refine IsMem.setOther ?_ ?_ ?_ _); rotate_left; (simp; omega); (simp; omega)))
    with_reducible exact M1.out
  case tch =>
    repeat (first | (with_reducible apply Touch.alloc) | (with_reducible apply Touch.drew) | (with_reducible refine Touch.setCell ?_ _ ?side _; case side => simp))
    with_reducible exact T1.out
  case res => simp [results, Try.results83, go_sem, Stp.val, *]


theorem onext_j (s : OnS) (x : Stp) : (onext s x).j = s.j := by
  unfold onext
  split
  · rfl
  · split
    · rfl
    · split
      · rfl
      · split
        · rfl
        · split <;> rfl
theorem onext_k {s : OnS} {x : Stp} (hk : 1 ≤ s.j.kind ∧ s.j.kind ≤ 3) : 1 ≤ (onext s x).j.kind ∧ (onext s x).j.kind ≤ 3 := by rw [onext_j]; exact hk
theorem onext_st {s : OnS} {x : Stp} (hk : 1 ≤ s.j.kind ∧ s.j.kind ≤ 3) (h0 : 0 ≤ s.st) (h3 : s.st ≤ 3) : 0 ≤ (onext s x).st ∧ (onext s x).st ≤ 3 := by
  unfold onext
  split
  · exact ⟨h0, h3⟩
  · split
    · simp only
      split <;> omega
    · split
      · simp only; omega
      · split
        · exact ⟨h0, h3⟩
        · split <;> exact ⟨h0, h3⟩

theorem step_any (room : Int) {w : World} {b bm bw n : Nat} {f : Nat → Int} {s : OnS} {j : Jb} (hf : (kOnce room).fine j) (hj : s.j = j ∧ (0 ≤ s.st ∧ s.st ≤ 3) ∧ 1 ≤ s.j.kind ∧ s.j.kind ≤ 3) (h : w.rowIs b 106 7 (ocell room s)) (hm : IsMem w bm bw n f) (h1 : b ≠ bm) (h2 : b ≠ bw) :
    Calls Try.prog 83 #[.pointer (some ⟨b, 0, none⟩), .pointer (some ⟨bm, 0, none⟩)] w fun e w' => e = .returned (.tuple #[(stepOf n f (oreq room s)).val, .int .i64 (if oends s (stepOf n f (oreq room s)) = true then 1 else 0)]) ∧
      w'.rowIs b 106 7 (ocell room (onext s (stepOf n f (oreq room s)))) ∧ IsMem w' bm bw n (wordsOf n f (oreq room s)) ∧ Touch w w' (fun k => k = b ∨ k = bw) := by
  obtain ⟨rfl, ⟨h0, h3⟩, _⟩ := hj
  obtain ⟨x, hx⟩ : ∃ x, stepOf n f (oreq room s) = x := ⟨_, rfl⟩
  obtain ⟨f', hf'⟩ : ∃ f', wordsOf n f (oreq room s) = f' := ⟨_, rfl⟩
  rw [hx, hf']
  obtain ⟨hk, _, _⟩ := fine_cases hf
  by_cases k3 : s.j.kind = 3
  · have e4 : oreq room s = ⟨s.hand, 1, s.j.a, 0, 0, true⟩ := by simp [oreq, k3]
    have e5 : oends s x = true := by simp [oends, k3]
    have e6 : ocell room s = onC s.hand s.j.kind s.j.a (room + s.j.a) 5 s.told := by simp [ocell, k3]
    have e7 : ocell room (onext s x) = onC s.hand s.j.kind s.j.a (room + s.j.a) 5 ⟨x.had == 2, x.had⟩ := by simp [ocell, onext, k3]
    rw [e6] at h
    rw [e4] at hx hf'
    rw [e5, e7, if_pos rfl]
    exact step_look h hm h1 h2 (fun w1 r1 m1 => look_ends r1 m1 h1 h2 hx hf')
  · by_cases s0 : s.st = 0
    · have e4 : oreq room s = ⟨s.hand, 5, s.j.a, 0, 1, true⟩ := by simp [oreq, k3, s0]
      have e5 : oends s x = false := by simp [oends, k3, s0]
      have e6 : ocell room s = onC s.hand s.j.kind s.j.a (room + s.j.a) 1 s.told := by simp [ocell, k3, s0]
      rw [e6] at h
      rw [e4] at hx hf'
      rw [e5, if_neg (by decide)]
      cases hok : x.ok with
      | false =>
        have e7 : ocell room (onext s x) = onC s.hand s.j.kind s.j.a (room + s.j.a) 4 s.told := by simp [ocell, onext, k3, s0, hok]
        rw [e7]
        exact step_claim h hm h1 h2 (fun w1 r1 m1 => claim_no r1 m1 h1 h2 hok hx hf')
      | true =>
        by_cases k1 : s.j.kind = 1
        · have e7 : ocell room (onext s x) = onC s.hand s.j.kind s.j.a (room + s.j.a) 2 s.told := by simp [ocell, onext, k3, s0, hok, k1]
          rw [e7]
          exact step_claim h hm h1 h2 (fun w1 r1 m1 => claim_do r1 m1 h1 h2 hok k1 hx hf')
        · have k2 : s.j.kind = 2 := by omega
          have e7 : ocell room (onext s x) = onC s.hand s.j.kind s.j.a (room + s.j.a) 3 s.told := by simp [ocell, onext, k3, s0, hok, k2]
          rw [e7]
          exact step_claim h hm h1 h2 (fun w1 r1 m1 => claim_fail r1 m1 h1 h2 hok k1 hx hf')
    · by_cases s1 : s.st = 1
      · have e4 : oreq room s = ⟨s.hand, 4, room + s.j.a, 0, 1, true⟩ := by simp [oreq, k3, s1]
        have e5 : oends s x = false := by simp [oends, k3, s1]
        have e6 : ocell room s = onC s.hand s.j.kind s.j.a (room + s.j.a) 2 s.told := by simp [ocell, k3, s1]
        have e7 : ocell room (onext s x) = onC s.hand s.j.kind s.j.a (room + s.j.a) 3 s.told := by simp [ocell, onext, k3, s1]
        rw [e6] at h
        rw [e4] at hx hf'
        rw [e5, e7, if_neg (by decide)]
        exact step_add h hm h1 h2 (fun w1 r1 m1 => add_goes r1 m1 h1 h2 hx hf')
      · by_cases s2 : s.st = 2
        · have e4 : oreq room s = ⟨s.hand, 2, s.j.a, 0, 2, true⟩ := by simp [oreq, k3, s2]
          have e5 : oends s x = true := by simp [oends, k3, s2]
          have e6 : ocell room s = onC s.hand s.j.kind s.j.a (room + s.j.a) 3 s.told := by simp [ocell, k3, s2]
          have e7 : ocell room (onext s x) = onC s.hand s.j.kind s.j.a (room + s.j.a) 3 ⟨s.j.kind == 1, 1⟩ := by simp [ocell, onext, k3, s2]
          rw [e6] at h
          rw [e4] at hx hf'
          rw [e5, e7, if_pos rfl]
          exact step_finish h hm h1 h2 (fun w1 r1 m1 => finish_ends r1 m1 h1 h2 hx hf')
        · have s3 : s.st = 3 := by omega
          have e4 : oreq room s = ⟨s.hand, 1, s.j.a, 0, 0, true⟩ := by simp [oreq, k3, s3]
          have e6 : ocell room s = onC s.hand s.j.kind s.j.a (room + s.j.a) 4 s.told := by simp [ocell, k3, s3]
          rw [e6] at h
          rw [e4] at hx hf'
          by_cases hd : x.had = 2
          · have e5 : oends s x = true := by simp [oends, k3, s3, hd]
            have e7 : ocell room (onext s x) = onC s.hand s.j.kind s.j.a (room + s.j.a) 4 ⟨true, 0⟩ := by simp [ocell, onext, k3, s3, hd]
            rw [e5, e7, if_pos rfl]
            exact step_await h hm h1 h2 (fun w1 r1 m1 => await_ends r1 m1 h1 h2 hd hx hf')
          · have e5 : oends s x = false := by simp [oends, k3, s3, hd]
            have e7 : ocell room (onext s x) = onC s.hand s.j.kind s.j.a (room + s.j.a) 4 s.told := by simp [ocell, onext, k3, s3, hd]
            rw [e5, e7, if_neg (by decide)]
            exact step_await h hm h1 h2 (fun w1 r1 m1 => await_goes r1 m1 h1 h2 hd hx hf')

theorem ms (b : Nat) (w : World) : (method 266 84 (.pointer (some ⟨b, 0, none⟩)) "Step").run Try.prog w = .ok (83, .pointer (some ⟨b, 0, none⟩)) w := by kernel_rfl
theorem ma (b : Nat) (w : World) : (method 266 84 (.pointer (some ⟨b, 0, none⟩)) "Answer").run Try.prog w = .ok (82, .pointer (some ⟨b, 0, none⟩)) w := by kernel_rfl
theorem cs (args : Array Value) (w : World) : (callFunc 83 args).run Try.prog w = .ok (.enter 83 args) w := by simp [go_sem]
theorem ca (args : Array Value) (w : World) : (callFunc 82 args).run Try.prog w = .ok (.enter 82 args) w := by simp [go_sem]

theorem isKindO (room : Int) : IsKindO (kOnce room) where
  ok := ⟨fun h j hj => ⟨rfl, ⟨by show (0 : Int) ≤ 0; decide, by show (0 : Int) ≤ 3; decide⟩, by have := (fine_cases hj).1; show 1 ≤ j.kind ∧ j.kind ≤ 3; omega⟩, fun j s n f _ ⟨hs, ⟨h0, h3⟩, hk⟩ => ⟨(onext_j s _).trans hs, onext_st hk h0 h3, onext_k hk⟩⟩
  step := fun hf hj h hm h1 h2 => step_any room hf hj h hm h1 h2
  ans := fun hf hj h => on_ans h
  mstep := fun j hf b w => ms b w
  mans := fun j hf b w => ma b w
  cstep := fun j hf args w => cs args w
  cans := fun j hf args w => ca args w
theorem isKind (room : Int) : IsKind (kOnce room) := (isKindO room).to
end Once
end Go.Proofs.Ytgaafdfekgnccaa

/-
  Once's Task: what it makes, what it refuses.
-/
namespace Go.Proofs.Ytgaafdfekgnccaa
open Go.RowKit
set_option linter.unusedVariables false
set_option linter.unusedSimpArgs false
set_option maxRecDepth 20000
namespace Once
theorem callTask (args : Array Value) (w : World) : (callFunc 17 args).run Try.prog w = .ok (.enter 17 args) w := by simp [go_sem]

set_option maxHeartbeats 4000000 in
theorem new_task (w : World) (room hand kind a b c hh : Int) (h1 : -64 ≤ room + a) (h2 : room + a ≤ 200) :
    Calls Try.prog 23 #[.int .i64 room, .int .i64 hand, .agg #[.int .i64 kind, .int .i64 a, .int .i64 b, .int .i64 c, .int .u64 hh]] w fun e w' => ∃ bb, e = .returned (.pointer (some ⟨bb, 0, none⟩)) ∧
      w'.rowIs bb 106 7 (onC hand kind a (room + a) (if kind = 3 then 5 else 1) ⟨false, 0⟩) ∧ w.heap.size ≤ bb ∧ w.grownBy w' none := by
  have hwr : wrap64 (room + a) = room + a := by unfold wrap64; omega
  have row := hide (rowIs_cells (w := w.alloc (.cells #[.int .i64 kind, .int .i64 a, .int .i64 b, .int .i64 c, .int .u64 hh] 48)) #[.int .i64 hand, .int .i64 kind, .int .i64 a, .int .i64 (room + a), .int .i64 1, .bool false, .int .u64 0] 106 (onC hand kind a (room + a) 1 ⟨false, 0⟩) 7 rfl (fun i hi => by
      match i, hi with
      | 0, _ | 1, _ | 2, _ | 3, _ | 4, _ | 5, _ | 6, _ => rfl))
  simp only [World.size_alloc] at row
  have row3 := hide (rowIs_cells (w := w.alloc (.cells #[.int .i64 kind, .int .i64 a, .int .i64 b, .int .i64 c, .int .u64 hh] 48)) #[.int .i64 hand, .int .i64 kind, .int .i64 a, .int .i64 (room + a), .int .i64 5, .bool false, .int .u64 0] 106 (onC hand kind a (room + a) 5 ⟨false, 0⟩) 7 rfl (fun i hi => by
      match i, hi with
      | 0, _ | 1, _ | 2, _ | 3, _ | 4, _ | 5, _ | 6, _ => rfl))
  simp only [World.size_alloc] at row3
  by_cases k3 : kind = 3
  · subst k3
    rw [if_pos rfl]
    go_enter Try.func23, Try.ntmps23
    go_wp2
    go_ret
    exact ⟨w.heap.size + 1, rfl, by first | exact row3.out | simpa using row3.out, by omega, grown_alloc (grown_alloc (grown_refl _ _) _) _⟩
  · rw [if_neg k3]
    go_enter Try.func23, Try.ntmps23
    go_wp2
    go_ret
    exact ⟨w.heap.size + 1, rfl, by first | exact row.out | simpa using row.out, by omega, grown_alloc (grown_alloc (grown_refl _ _) _) _⟩

set_option maxHeartbeats 4000000 in
theorem task_ok (w : World) (sh : Shp) (hand : Int) (j : Jb) (h1 : 1 ≤ sh.f) (h2 : sh.f ≤ 64) (h : oerr sh.f j = 0) :
    Calls Try.prog 17 #[sh.val, .int .i64 hand, j.val] w fun e w' => ∃ bb, e = .returned (.tuple #[.iface 84 (.pointer (some ⟨bb, 0, none⟩)), .int .i64 0]) ∧
      w'.rowIs bb 106 7 (onC hand j.kind j.a (sh.f + j.a) (if j.kind = 3 then 5 else 1) ⟨false, 0⟩) ∧ w.heap.size ≤ bb ∧ w.grownBy w' none := by
  obtain ⟨s0, s1, s2, s3, s4, s5⟩ := sh
  obtain ⟨kind, a, b, c, hh⟩ := j
  simp only [Shp.val, Jb.val] at h1 h2 h ⊢
  have hk : ¬ kind < 1 ∧ ¬ 3 < kind ∧ ¬ a < 0 ∧ ¬ s5 ≤ a := by
    simp only [oerr] at h
    split at h
    · cases h
    · split at h
      · cases h
      · omega
  obtain ⟨k1, k2, k3, k4⟩ := hk
  clear h
  obtain ⟨ln, hln⟩ : ∃ ln, (if kind = 3 then (5 : Int) else 1) = ln := ⟨_, rfl⟩
  rw [hln]
  have HLN := hide hln
  clear hln
  go_enter Try.func17, Try.ntmps17
  go_wp2_with (first | (go_at_call 20; refine (room_ok _ ⟨s0, s1, s2, s3, s4, s5⟩ h1 h2).mono ?_; rintro e w1 ⟨rfl, hg1⟩; have HG := hide hg1; have sz1 := hg1.size; simp only [World.size_alloc] at sz1; have sh5 : w1.cell? ⟨w.heap.size, 5, none⟩ = some (.int .i64 s5) := hg1.cell (a := ⟨w.heap.size, 5, none⟩) (by simp) (by simp); have j0 : w1.cell? ⟨w.heap.size + 1, 0, none⟩ = some (.int .i64 kind) := hg1.cell (a := ⟨w.heap.size + 1, 0, none⟩) (by simp) (by simp); have j1 : w1.cell? ⟨w.heap.size + 1, 1, none⟩ = some (.int .i64 a) := hg1.cell (a := ⟨w.heap.size + 1, 1, none⟩) (by simp) (by simp); have j2 : w1.cell? ⟨w.heap.size + 1, 2, none⟩ = some (.int .i64 b) := hg1.cell (a := ⟨w.heap.size + 1, 2, none⟩) (by simp) (by simp); have j3 : w1.cell? ⟨w.heap.size + 1, 3, none⟩ = some (.int .i64 c) := hg1.cell (a := ⟨w.heap.size + 1, 3, none⟩) (by simp) (by simp); have j4 : w1.cell? ⟨w.heap.size + 1, 4, none⟩ = some (.int .u64 hh) := hg1.cell (a := ⟨w.heap.size + 1, 4, none⟩) (by simp) (by simp); clear hg1) | (go_at_call 23; refine (new_task _ s5 hand kind a b c hh (by omega) (by omega)).mono ?_; rintro e w2 ⟨bb, rfl, hr2, hb2, hg2⟩; rw [HLN.out] at hr2; have HR := hide (And.intro hr2 (And.intro hb2 hg2)); clear hr2 hb2 hg2))
  go_ret2
  refine ⟨bb, rfl, HR.out.1, by have := HR.out.2.1; omega, grown_trans (grown_trans (grown_alloc (grown_alloc (grown_refl _ _) _) _) HG.out) HR.out.2.2⟩
set_option maxHeartbeats 4000000 in
theorem task_err (w : World) (sh : Shp) (hand : Int) (j : Jb) (h1 : 1 ≤ sh.f) (h2 : sh.f ≤ 64) (h : ¬ oerr sh.f j = 0) :
    Calls Try.prog 17 #[sh.val, .int .i64 hand, j.val] w fun e w' => e = .returned (.tuple #[.nilIface, .int .i64 (oerr sh.f j)]) ∧ w.grownBy w' none := by
  obtain ⟨s0, s1, s2, s3, s4, s5⟩ := sh
  obtain ⟨kind, a, b, c, hh⟩ := j
  simp only [Shp.val, Jb.val] at h1 h2 h ⊢
  obtain ⟨er, hk⟩ : ∃ er, oerr s5 ⟨kind, a, b, c, hh⟩ = er ∧ ((kind < 1 ∧ er = 200) ∨ (¬ kind < 1 ∧ 3 < kind ∧ er = 200) ∨ (¬ kind < 1 ∧ ¬ 3 < kind ∧ a < 0 ∧ er = 2) ∨ (¬ kind < 1 ∧ ¬ 3 < kind ∧ ¬ a < 0 ∧ s5 ≤ a ∧ er = 2)) := ⟨_, rfl, by
    simp only [oerr] at h ⊢
    by_cases c1 : kind < 1
    · rw [if_pos (.inl c1)]; exact .inl ⟨c1, rfl⟩
    · by_cases c2 : 3 < kind
      · rw [if_pos (.inr c2)]; exact .inr (.inl ⟨c1, c2, rfl⟩)
      · rw [if_neg (by omega)] at h ⊢
        by_cases c4 : a < 0
        · rw [if_pos (.inl c4)]; exact .inr (.inr (.inl ⟨c1, c2, c4, rfl⟩))
        · by_cases c5 : s5 ≤ a
          · rw [if_pos (.inr c5)]; exact .inr (.inr (.inr ⟨c1, c2, c4, c5, rfl⟩))
          · rw [if_neg (by omega)] at h; exact absurd rfl h⟩
  rw [hk.1]
  replace hk := hk.2
  clear h
  rcases hk with ⟨k1, rfl⟩ | ⟨k1, k2, rfl⟩ | ⟨k1, k2, k4, rfl⟩ | ⟨k1, k2, k4, k5, rfl⟩
  all_goals go_enter Try.func17, Try.ntmps17
  all_goals go_wp2_with (go_at_call 20; refine (room_ok _ ⟨s0, s1, s2, s3, s4, s5⟩ h1 h2).mono ?_; rintro e w1 ⟨rfl, hg1⟩; have HG := hide hg1; have sz1 := hg1.size; simp only [World.size_alloc] at sz1; have sh5 : w1.cell? ⟨w.heap.size, 5, none⟩ = some (.int .i64 s5) := hg1.cell (a := ⟨w.heap.size, 5, none⟩) (by simp) (by simp); have j0 : w1.cell? ⟨w.heap.size + 1, 0, none⟩ = some (.int .i64 kind) := hg1.cell (a := ⟨w.heap.size + 1, 0, none⟩) (by simp) (by simp); have j1 : w1.cell? ⟨w.heap.size + 1, 1, none⟩ = some (.int .i64 a) := hg1.cell (a := ⟨w.heap.size + 1, 1, none⟩) (by simp) (by simp); have j2 : w1.cell? ⟨w.heap.size + 1, 2, none⟩ = some (.int .i64 b) := hg1.cell (a := ⟨w.heap.size + 1, 2, none⟩) (by simp) (by simp); have j3 : w1.cell? ⟨w.heap.size + 1, 3, none⟩ = some (.int .i64 c) := hg1.cell (a := ⟨w.heap.size + 1, 3, none⟩) (by simp) (by simp); have j4 : w1.cell? ⟨w.heap.size + 1, 4, none⟩ = some (.int .u64 hh) := hg1.cell (a := ⟨w.heap.size + 1, 4, none⟩) (by simp) (by simp); clear hg1)
  all_goals go_ret2
  all_goals exact ⟨rfl, grown_trans (grown_alloc (grown_alloc (grown_refl _ _) _) _) HG.out⟩
set_option maxHeartbeats 4000000 in
theorem task_shape (w : World) (sh : Shp) (hand : Int) (j : Jb) (h : sh.f < 1 ∨ 64 < sh.f) :
    Calls Try.prog 17 #[sh.val, .int .i64 hand, j.val] w fun e w' => e = .returned (.tuple #[.nilIface, .int .i64 120]) ∧ w.grownBy w' none := by
  obtain ⟨s0, s1, s2, s3, s4, s5⟩ := sh
  obtain ⟨kind, a, b, c, hh⟩ := j
  simp only [Shp.val, Jb.val] at h ⊢
  go_enter Try.func17, Try.ntmps17
  go_wp2_with (go_at_call 20; refine (room_bad _ ⟨s0, s1, s2, s3, s4, s5⟩ h).mono ?_; rintro e w1 ⟨rfl, hg1⟩; have HG := hide hg1; clear hg1)
  go_ret2
  exact ⟨rfl, grown_trans (grown_alloc (grown_alloc (grown_refl _ _) _) _) HG.out⟩

/-- What makeTask does with once's maker. -/
theorem makes {w : World} {tb sb : Nat} {sh : Shp} (h1 : 1 ≤ sh.f) (h2 : sh.f ≤ 64) (H : Boxes w tb sb 17 sh) : MakesAt (kOnce sh.f) (mkOf tb sb) w := by
  intro hand j _ _ hw
  refine ⟨fun he => ?_, fun he => maker_err callTask H he (fun w1 => task_err w1 sh hand j h1 h2 he)⟩
  exact maker_ok callTask H (fun w1 => task_ok w1 sh hand j h1 h2 he)
end Once
end Go.Proofs.Ytgaafdfekgnccaa

/-
  Once's Size and Play, whatever they are given.
-/
namespace Go.Proofs.Ytgaafdfekgnccaa
open Go.RowKit
set_option linter.unusedVariables false
set_option linter.unusedSimpArgs false
set_option maxRecDepth 20000
namespace Once

theorem callSize (args : Array Value) (w : World) : (callFunc 15 args).run Try.prog w = .ok (.enter 15 args) w := by simp [go_sem]

theorem size_ok (w : World) (sh : Shp) (h1 : 1 ≤ sh.f) (h2 : sh.f ≤ 64) : Calls Try.prog 15 #[sh.val] w fun e w' => e = .returned (.tuple #[.int .i64 (2 * sh.f), .int .i64 0]) ∧ w.grownBy w' none := by
  obtain ⟨s0, s1, s2, s3, s4, s5⟩ := sh
  simp only [Shp.val] at h1 h2 ⊢
  have g3 : wrap64 (2 * s5) = 2 * s5 := by unfold wrap64; omega
  go_enter Try.func15, Try.ntmps15
  go_wp2_with (go_at_call 20; refine (room_ok _ ⟨s0, s1, s2, s3, s4, s5⟩ h1 h2).mono ?_; rintro e w1 ⟨rfl, hg1⟩; have HG := hide hg1; have sh5 : w1.cell? ⟨w.heap.size, 5, none⟩ = some (.int .i64 s5) := hg1.cell (a := ⟨w.heap.size, 5, none⟩) (by simp) (by simp); clear hg1)
  go_ret2
  exact ⟨rfl, grown_trans (grown_alloc (grown_refl _ _) _) HG.out⟩
theorem size_bad (w : World) (sh : Shp) (h : sh.f < 1 ∨ 64 < sh.f) : Calls Try.prog 15 #[sh.val] w fun e w' => e = .returned (.tuple #[.int .i64 0, .int .i64 120]) ∧ w.grownBy w' none := by
  obtain ⟨s0, s1, s2, s3, s4, s5⟩ := sh
  simp only [Shp.val] at h ⊢
  go_enter Try.func15, Try.ntmps15
  go_wp2_with (go_at_call 20; refine (room_bad _ ⟨s0, s1, s2, s3, s4, s5⟩ h).mono ?_; rintro e w1 ⟨rfl, hg1⟩; have HG := hide hg1; clear hg1)
  go_ret2
  exact ⟨rfl, grown_trans (grown_alloc (grown_refl _ _) _) HG.out⟩

variable {w : World} {ao aoh aos : Option Addr} {cap caph caps : Nat} {P : Par} {f : Nat → Int} {most : Int} {sh : Shp}

theorem play_any {R : Ending → World → Prop} {Q : Ending → World → Prop}
    (h : Calls Try.prog 16 #[.func (.func 15) #[] #[], .func (.func 17) #[] #[], sh.val, .slice ao P.n cap, .slice aoh P.nh caph, .slice aos P.ns caps, .int .i64 most]
      ((w.alloc (.cells #[.int .i64 sh.a, .int .i64 sh.b, .int .i64 sh.c, .int .i64 sh.d, .int .i64 sh.e, .int .i64 sh.f] 36)).alloc (.cells #[.slice none 0 0, .slice none 0 0, .bool false] 42)) Q)
    (hs : ∀ e w', Q e w' → Below (w.heap.size + 2) ((w.alloc (.cells #[.int .i64 sh.a, .int .i64 sh.b, .int .i64 sh.c, .int .i64 sh.d, .int .i64 sh.e, .int .i64 sh.f] 36)).alloc (.cells #[.slice none 0 0, .slice none 0 0, .bool false] 42)) w' ∧
      ∃ sa k sc wa n wc en aa m ac er, e = .returned (tv3 sa k sc wa n wc en aa m ac er) ∧ R e (((w'.setCell ⟨w.heap.size + 1, 0, none⟩ (.slice sa k sc)).setCell ⟨w.heap.size + 1, 1, none⟩ (.slice wa n wc)).setCell ⟨w.heap.size + 1, 2, none⟩ (.bool en))) :
    Calls Try.prog 11 #[sh.val, .slice ao P.n cap, .slice aoh P.nh caph, .slice aos P.ns caps, .int .i64 most] w R := by
  obtain ⟨s0, s1, s2, s3, s4, s5⟩ := sh
  simp only [Shp.val] at h hs ⊢
  have HH := hide h
  have HS := hide hs
  clear h hs
  go_enter Try.func11, Try.ntmps11
  go_wp2_with fail
  refine HH.out.mono ?_
  intro e w3 hq
  obtain ⟨hb, sa, k, sc, wa, n, wc, en, aa, m, ac, er, rfl, hR⟩ := HS.out e w3 hq
  have u0 := hb.cell (p := ⟨w.heap.size + 1, 0, none⟩) (by simp)
  have u1 := hb.cell (p := ⟨w.heap.size + 1, 1, none⟩) (by simp)
  have u2 := hb.cell (p := ⟨w.heap.size + 1, 2, none⟩) (by simp)
  have v0 := hb.frozen (p := ⟨w.heap.size + 1, 0, none⟩) (by simp)
  have v1 := hb.frozen (p := ⟨w.heap.size + 1, 1, none⟩) (by simp)
  have v2 := hb.frozen (p := ⟨w.heap.size + 1, 2, none⟩) (by simp)
  simp at u0 u1 u2 v0 v1 v2
  have HR := hide hR
  clear hb hR hq
  unfold tv3
  go_wp2_with fail
  go_light
  refine bodyPost_ret (v := tv3 sa k sc wa n wc en aa m ac er) ?_ rfl HR.out
  simp [results, Try.results11, go_sem, tv3, *]

theorem play_shape (h : sh.f < 1 ∨ 64 < sh.f) : Calls Try.prog 11 #[sh.val, .slice ao P.n cap, .slice aoh P.nh caph, .slice aos P.ns caps, .int .i64 most] w fun e w' => e = .returned (errVal 120) ∧ Below w.heap.size w w' := by
  have b0 : Below w.heap.size w ((w.alloc (.cells #[.int .i64 sh.a, .int .i64 sh.b, .int .i64 sh.c, .int .i64 sh.d, .int .i64 sh.e, .int .i64 sh.f] 36)).alloc (.cells #[.slice none 0 0, .slice none 0 0, .bool false] 42)) := ((Below.refl _ w).alloc (Nat.le_refl _) _).alloc (by simp) _
  refine play_any (lay_size_err (by decide) callSize (fun w' => size_bad w' sh h)) ?_
  rintro e w' ⟨rfl, hb⟩
  simp only [World.size_alloc] at hb
  refine ⟨hb, none, 0, 0, none, 0, 0, false, none, 0, 0, 120, rfl, rfl, ?_⟩
  exact (((b0.trans (hb.mono (by omega))).setCell (by simp) _).setCell (by simp) _).setCell (by simp) _

theorem play_all {want : Nat} (h1 : 1 ≤ sh.f) (h2 : sh.f ≤ 64) (hwant : (want : Int) = 2 * sh.f) (S : Sees w w.heap.size ao P.n f) (hf : ∀ i, i < P.n → 0 ≤ f i ∧ f i ≤ 18446744073709551615) (SH : SeesH w w.heap.size aoh P.nh P.jn P.jb) (hn63 : P.nh ≤ 9223372036854775807) (SI : SeesI w w.heap.size aos P.ns P.sched) (hjw : ∀ h, h < P.nh → ∀ j, j < P.jn h → (P.jb h j).wf) :
    Calls Try.prog 11 #[sh.val, .slice ao P.n cap, .slice aoh P.nh caph, .slice aos P.ns caps, .int .i64 most] w (LAll (kOnce sh.f) want w P f most) := by
  have b0 : Below w.heap.size w ((w.alloc (.cells #[.int .i64 sh.a, .int .i64 sh.b, .int .i64 sh.c, .int .i64 sh.d, .int .i64 sh.e, .int .i64 sh.f] 36)).alloc (.cells #[.slice none 0 0, .slice none 0 0, .bool false] 42)) := ((Below.refl _ w).alloc (Nat.le_refl _) _).alloc (by simp) _
  have sz0 : ((w.alloc (.cells #[.int .i64 sh.a, .int .i64 sh.b, .int .i64 sh.c, .int .i64 sh.d, .int .i64 sh.e, .int .i64 sh.f] 36)).alloc (.cells #[.slice none 0 0, .slice none 0 0, .bool false] 42)).heap.size = w.heap.size + 2 := by simp
  refine play_any (lay_any (K := kOnce sh.f) (want := want) callSize (fun w' => by rw [hwant]; exact size_ok w' sh h1 h2) (isKind sh.f) (fun w' tb sb H => makes h1 h2 H) ((S.below b0 (Nat.le_refl _)).mono (by omega)) hf ((SH.below b0 (Nat.le_refl _)).up (by omega)) hn63 ((SI.below b0 (Nat.le_refl _)).up (by omega)) hjw) ?_
  intro e w' hq
  obtain ⟨sa, k, sc, wa, n, wc, en, aa, m, ac, er, rfl⟩ := hq.shape
  have hb := hq.1
  rw [sz0] at hb
  exact ⟨hb, sa, k, sc, wa, n, wc, en, aa, m, ac, er, rfl, hq.up b0 (touch3 w' (w.heap.size + 1) (.slice sa k sc) (.slice wa n wc) (.bool en)) (by omega) (by omega)⟩

end Once
end Go.Proofs.Ytgaafdfekgnccaa

/-
  One hand does a key: the statements' own example through once.
-/
namespace Go.Proofs.Ytgaafdfekgnccaa
open Go.RowKit
set_option linter.unusedVariables false
set_option linter.unusedSimpArgs false
set_option maxRecDepth 20000
namespace Once

set_option maxHeartbeats 2000000 in
theorem fresh_ok (w : World) (sh : Shp) (h1 : 1 ≤ sh.f) (h2 : sh.f ≤ 64) {want : Nat} (hwant : (want : Int) = 2 * sh.f) : Calls Try.prog 10 #[sh.val] w fun e w' => ∃ g, e = .returned (.tuple #[.slice (some ⟨g, 0, none⟩) want want, .int .i64 0]) ∧ IsRow w' g want want (fun _ => 0) ∧ w.heap.size ≤ g ∧ w.grownBy w' none := by
  have SZ := hide (fun w' : World => size_ok w' sh h1 h2)
  obtain ⟨s0, s1, s2, s3, s4, s5⟩ := sh
  simp only [Shp.val] at SZ h1 h2 hwant ⊢
  rw [← hwant] at SZ
  have hmk := run_make_z (P := Try.prog) 37 46 _ 1 8 Try.underlying37 info46 want (by omega) (by omega)
  simp only [Nat.mul_one] at hmk
  have hw4 : want ≤ 128 := by omega
  clear hwant
  go_enter Try.func10, Try.ntmps10
  go_wp2_with (go_at_call 15; refine (SZ.out _).mono ?_; rintro e w1 ⟨rfl, hg1⟩; have HG := hide hg1; have sz1 := hg1.size; simp only [World.size_alloc] at sz1; clear hg1)
  go_ret2
  exact ⟨w1.heap.size, rfl, ⟨Nat.le_refl _, by unfold maxLen; omega, ⟨_, World.rowIs_made w1 (.int .u64 0) want 46, fun i hi => rfl⟩, fun i hi => ⟨Int.le_refl 0, by show (0 : Int) ≤ 18446744073709551615; decide⟩⟩, by omega, grown_alloc (grown_trans (grown_alloc (grown_refl _ _) _) HG.out) _⟩
set_option maxHeartbeats 2000000 in
theorem fresh_bad (w : World) (sh : Shp) (h : sh.f < 1 ∨ 64 < sh.f) : Calls Try.prog 10 #[sh.val] w fun e w' => e = .returned (.tuple #[.slice none 0 0, .int .i64 120]) ∧ w.grownBy w' none := by
  have SZ := hide (fun w' : World => size_bad w' sh h)
  obtain ⟨s0, s1, s2, s3, s4, s5⟩ := sh
  simp only [Shp.val] at SZ h ⊢
  go_enter Try.func10, Try.ntmps10
  go_wp2_with (go_at_call 15; refine (SZ.out _).mono ?_; rintro e w1 ⟨rfl, hg1⟩; have HG := hide hg1; clear hg1)
  go_ret2
  exact ⟨rfl, grown_trans (grown_alloc (grown_refl _ _) _) HG.out⟩

namespace Exam
def P0 : Par := { n := 2, nh := 1, jn := fun _ => 1, jb := fun _ _ => ⟨1, 0, 0, 0, 0⟩, ns := 0, sched := fun _ => 0 }
def s0 : St (kOnce 1) := st0 (kOnce 1) P0 (fun _ => 0)
def s1 : St (kOnce 1) := stepSt P0 s0 0
def s2 : St (kOnce 1) := stepSt P0 s1 0
def s3 : St (kOnce 1) := stepSt P0 s2 0
theorem t0 : s0.turn P0 = (0 : Nat) := by decide +kernel
theorem t1 : s1.turn P0 = (0 : Nat) := by decide +kernel
theorem t2 : s2.turn P0 = (0 : Nat) := by decide +kernel
theorem t3 : s3.turn P0 < 0 := by decide +kernel
theorem r1 : runSt P0 s0 1 = s1 := runSt_step (m := 0) t0
theorem r2 : runSt P0 s0 2 = s2 := by have := runSt_step (P := P0) (st := s0) (m := 1) (h := 0) (by rw [r1]; exact t1); rw [this, r1]; rfl
theorem r3 : runSt P0 s0 3 = s3 := by have := runSt_step (P := P0) (st := s0) (m := 2) (h := 0) (by rw [r2]; exact t2); rw [this, r2]; rfl
theorem r9 : runSt P0 s0 9 = s3 := by have := runSt_stuck (P := P0) (st := s0) (m := 3) (by rw [r3]; exact t3) 6; rw [r3] at this; exact this
theorem k3 : s3.k = 3 := by decide +kernel
theorem e3 : cnt (s3.going P0) P0.nh = 0 := by decide +kernel
theorem d3 : s3.done 0 = 1 := by decide +kernel
theorem a3 : (s3.ans 0 0).val = 1 ∧ (s3.ans 0 0).ok = true := by decide +kernel
end Exam

theorem exam_play (v : World) (g : Nat) (R : IsRow v g 2 2 (fun _ => 0)) (hgl : g < v.heap.size) : Calls Try.prog 11 #[(⟨0, 0, 0, 0, 0, 1⟩ : Shp).val, .slice (some ⟨g, 0, none⟩) 2 2, .slice (some ⟨v.heap.size + 1, 0, none⟩) 1 1, .slice none 0 0, .int .i64 9]
    ((v.alloc (.cells #[.int .i64 1, .int .i64 0, .int .i64 0, .int .i64 0, .int .u64 0] 48)).alloc (.cells #[.slice (some ⟨v.heap.size, 0, none⟩) 1 1] 49)) (LAll (kOnce 1) 2 ((v.alloc (.cells #[.int .i64 1, .int .i64 0, .int .i64 0, .int .i64 0, .int .u64 0] 48)).alloc (.cells #[.slice (some ⟨v.heap.size, 0, none⟩) 1 1] 49)) Exam.P0 (fun _ => 0) 9) := by
  have B0 : Below v.heap.size v ((v.alloc (.cells #[.int .i64 1, .int .i64 0, .int .i64 0, .int .i64 0, .int .u64 0] 48)).alloc (.cells #[.slice (some ⟨v.heap.size, 0, none⟩) 1 1] 49)) := ((Below.refl _ v).alloc (Nat.le_refl _) _).alloc (by simp) _
  have R1 := (row_arr v #[.int .i64 1, .int .i64 0, .int .i64 0, .int .i64 0, .int .u64 0] 48).alloc (.cells #[.slice (some ⟨v.heap.size, 0, none⟩) 1 1] 49)
  have R3 := row_arr (v.alloc (.cells #[.int .i64 1, .int .i64 0, .int .i64 0, .int .i64 0, .int .u64 0] 48)) #[.slice (some ⟨v.heap.size, 0, none⟩) 1 1] 49
  simp only [World.size_alloc] at R1 R3
  refine play_all (sh := ⟨0, 0, 0, 0, 0, 1⟩) (P := Exam.P0) (f := fun _ => 0) (most := 9) (want := 2) (by decide) (by decide) (by decide) ?_ (fun i _ => by constructor <;> decide) ?_ (by decide) ?_ (fun h _ j _ => by simp only [Exam.P0, Jb.wf]; decide)
  · exact (R.sees.below B0 (Nat.le_refl _)).mono (by simp; omega)
  · intro h hh
    have : h < 1 := hh
    match h, this with
    | 0, _ =>
      refine ⟨v.heap.size + 1, 0, some ⟨v.heap.size, 0, none⟩, 1, rfl, R3.lt, R3.cell (i := 0) (by simp), ?_⟩
      intro i hi
      refine ⟨v.heap.size, 0, rfl, R1.lt, fun q hq => ?_⟩
      have : i < 1 := hi
      match i, this, q, hq with
      | 0, _, 0, _ => exact R1.cell (i := 0) (by decide)
      | 0, _, 1, _ => exact R1.cell (i := 1) (by decide)
      | 0, _, 2, _ => exact R1.cell (i := 2) (by decide)
      | 0, _, 3, _ => exact R1.cell (i := 3) (by decide)
      | 0, _, 4, _ => exact R1.cell (i := 4) (by decide)
  · intro j hj
    exact absurd hj (Nat.not_lt_zero j)

set_option maxHeartbeats 4000000 in
theorem awake_any (w : World) : Calls Try.prog 4 #[] w fun e w' => e = .returned (.bool true) ∧ Below w.heap.size w w' := by
  have FR := hide (fun w' : World => fresh_ok w' ⟨0, 0, 0, 0, 0, 1⟩ (by decide) (by decide) (want := 2) (by decide))
  have EX := hide exam_play
  simp only [Shp.val] at FR EX
  obtain ⟨W0, hW0⟩ : ∃ W0, w.alloc (.cells #[.int .i64 0, .int .i64 0, .int .i64 0, .int .i64 0, .int .i64 0, .int .i64 1] 36) = W0 := ⟨_, rfl⟩
  have b0 : Below w.heap.size w W0 := by rw [← hW0]; exact (Below.refl _ w).alloc (Nat.le_refl _) _
  have R0 : W0.rowIs w.heap.size 36 6 (fun i => (#[Value.int .i64 0, .int .i64 0, .int .i64 0, .int .i64 0, .int .i64 0, .int .i64 1]).getD i undef) := by rw [← hW0]; exact row_arr w _ _
  have keep : Hid (∀ w' : World, Below W0.heap.size W0 w' → Below w.heap.size w w' ∧ w.heap.size < w'.heap.size ∧ w'.cell? ⟨w.heap.size, 0, none⟩ = some (.int .i64 0) ∧ w'.cell? ⟨w.heap.size, 1, none⟩ = some (.int .i64 0) ∧ w'.cell? ⟨w.heap.size, 2, none⟩ = some (.int .i64 0) ∧ w'.cell? ⟨w.heap.size, 3, none⟩ = some (.int .i64 0) ∧ w'.cell? ⟨w.heap.size, 4, none⟩ = some (.int .i64 0) ∧ w'.cell? ⟨w.heap.size, 5, none⟩ = some (.int .i64 1)) := fun w' hb => by
    have r := R0.of_block (hb.block w.heap.size R0.lt)
    exact ⟨b0.trans (hb.mono b0.size), r.lt, r.cell (i := 0) (by decide), r.cell (i := 1) (by decide), r.cell (i := 2) (by decide), r.cell (i := 3) (by decide), r.cell (i := 4) (by decide), r.cell (i := 5) (by decide)⟩
  obtain ⟨_, l0, c0, c1, c2, c3, c4, c5⟩ := keep.out W0 (Below.refl _ _)
  clear b0 R0
  go_enter Try.func4, Try.ntmps4
  go_wp2_with fail
  refine (FR.out _).mono ?_
  rintro e w2 ⟨g, rfl, hr2, hg2, hgr⟩
  have B2 := hide (below_of_grown_none hgr W0.heap.size (Nat.le_refl _))
  have HR2 := hide hr2
  clear hgr hr2 c0 c1 c2 c3 c4 c5 hW0
  obtain ⟨bw2, l2, c0, c1, c2, c3, c4, c5⟩ := keep.out w2 B2.out
  have HB2 := hide bw2
  clear bw2
  go_wp2_with fail
  refine (EX.out w2 g HR2.out HR2.out.lt).mono ?_
  rintro e w3 ⟨hb, hcase⟩
  have BX : Below w2.heap.size w2 ((w2.alloc (.cells #[.int .i64 1, .int .i64 0, .int .i64 0, .int .i64 0, .int .u64 0] 48)).alloc (.cells #[.slice (some ⟨w2.heap.size, 0, none⟩) 1 1] 49)) := ((Below.refl w2.heap.size w2).alloc (Nat.le_refl _) _).alloc (by simp) _
  have BB := hide (HB2.out.trans ((BX.trans (hb.mono (by simp; omega))).mono (by omega)))
  clear hb BX c0 c1 c2 c3 c4 c5
  rcases hcase with ⟨er, hle, rfl⟩ | ⟨_, hF, hok, v, rfl, blk, c, g', sv, rfl, H, G, GS, R, hg, hne⟩
  · refine absurd ⟨?_, ?_⟩ (show ¬ (Fine Exam.P0 9 ∧ AllOk (kOnce 1) Exam.P0) from by rcases hle with ⟨h, _⟩ | ⟨_, h⟩; exact absurd rfl h; exact h.not)
    · refine ⟨by decide, ?_, by decide, by decide, by decide⟩
      rintro (h | ⟨h, _, h2⟩)
      · exact absurd h (by decide)
      · have h3 : 256 < 1 := h2
        omega
    · intro h hh j hj
      have : h < 1 := hh
      match h, this with
      | 0, _ =>
        have : j < 1 := hj
        match j, this with
        | 0, _ => decide
  · have hst : runSt Exam.P0 (st0 (kOnce 1) Exam.P0 (fun _ => 0)) (Int.toNat 9) = Exam.s3 := Exam.r9
    rw [hst] at G GS R ⊢
    rw [Exam.e3]
    obtain ⟨b, cap, rfl, hbl, _, hcs⟩ := grows_cell GS H (stepCells_length _ _) (by rw [Exam.k3]; decide)
    obtain ⟨A, eA, hA⟩ := G.answers
    have a0 := hA 0 (by decide)
    rw [Exam.d3] at a0
    obtain ⟨b', cap', eA0, hbl', _, hcs'⟩ := grows_cell a0 H (ansCells_length _ _) (by decide)
    have ac := hcs' _ _ (ansCells_get (Exam.s3.ans 0) 1 0 1 (by decide) (by decide))
    have ak := hcs' _ _ (ansCells_get (Exam.s3.ans 0) 1 0 0 (by decide) (by decide))
    simp only [Ans.cell, Exam.a3.1, Exam.a3.2] at ac ak
    have ah := H.cell eA (i := 0) (show 0 < 1 by decide)
    simp only [eA0] at ah
    have la := H.lt eA
    rw [Exam.k3]
    have n1 : Exam.P0.n = 2 := rfl
    have n2 : Exam.P0.nh = 1 := rfl
    rw [n1, n2]
    obtain ⟨ba, hba⟩ : ∃ ba, blk .answers = ba := ⟨_, rfl⟩
    rw [hba] at ah la ⊢
    simp only [Nat.zero_mul, Nat.zero_add] at ac ak
    clear H G GS R hne hcs hcs' hA a0 hok hst hF
    simp only [decide_true]
    go_wp2_with fail
    go_ret
    exact ⟨rfl, BB.out.alloc (by have := BB.out.size; omega) _⟩
end Once
end Go.Proofs.Ytgaafdfekgnccaa

/-
  OnceGroups walked where there is no group, and where there are too many lists.
-/
namespace Go.Proofs.Ytgaafdfekgnccaa
namespace Og
open Go.RowKit Go.Deep
set_option linter.unusedVariables false
set_option linter.unusedSimpArgs false
set_option maxRecDepth 100000

set_option maxHeartbeats 1600000 in
theorem walk_bad {w : World} {keys : Int} {aoc aof : Option Addr} {nc cc nf cf : Nat} (hk : keys < 1 ∨ 64 < keys) :
    Calls Try.prog 3 #[.int .i64 keys, .slice aoc nc cc, .slice aof nf cf] w fun e w' => e = .returned (.bool true) ∧ Below w.heap.size w w' := by
  have hdec : (decide (keys < 1) || decide (64 < keys)) = true := by simpa using hk
  by_cases h1 : keys < 1
  · go_enter Try.func3, Try.ntmps3
    go_wp2_with (first
      | (go_at_call 4; refine (Once.awake_any _).mono ?_; rintro e w1 ⟨rfl, b1⟩)
      | (go_at_call 5; refine (do_none 0 (.func 6) #[] #[] _).mono ?_; rintro e w2 ⟨rfl, b2⟩)
      | (go_at_call 7; refine (group_bad _ keys hk).mono ?_; rintro e w3 ⟨rfl, rfl⟩))
    go_ret
    exact ⟨rfl, b1.trans (b2.mono b1.size)⟩
  · have h2 : keys > 64 := by omega
    go_enter Try.func3, Try.ntmps3
    go_wp2_with (first
      | (go_at_call 4; refine (Once.awake_any _).mono ?_; rintro e w1 ⟨rfl, b1⟩)
      | (go_at_call 5; refine (do_none 0 (.func 6) #[] #[] _).mono ?_; rintro e w2 ⟨rfl, b2⟩)
      | (go_at_call 7; refine (group_bad _ keys hk).mono ?_; rintro e w3 ⟨rfl, rfl⟩))
    go_ret
    exact ⟨rfl, b1.trans (b2.mono b1.size)⟩

set_option maxHeartbeats 1600000 in
theorem walk_long {w : World} {n : Nat} {aoc aof : Option Addr} {nc cc nf cf : Nat} (h1 : 1 ≤ n) (h2 : n ≤ 64) (hc : 64 < nc) :
    Calls Try.prog 3 #[.int .i64 n, .slice aoc nc cc, .slice aof nf cf] w fun e w' => e = .returned (.bool true) ∧ Below w.heap.size w w' := by
  have h3 : ¬ ((n : Int) < 1) := by omega
  have h4 : ¬ ((n : Int) > 64) := by omega
  have h5 : (nc : Int) > 64 := by omega
  go_enter Try.func3, Try.ntmps3
  go_wp2_with (first
    | (go_at_call 4; refine (Once.awake_any _).mono ?_; rintro e w1 ⟨rfl, b1⟩)
    | (go_at_call 5; refine (do_none 0 (.func 6) #[] #[] _).mono ?_; rintro e w2 ⟨rfl, b2⟩)
    | (go_at_call 7; refine (group_good _ n h1 h2).mono ?_; rintro e w3 ⟨rfl, rfl⟩))
  go_ret
  exact ⟨rfl, (b1.trans (b2.mono b1.size)).trans ((grouped_below _ n).mono (by have := b1.size; have := b2.size; omega))⟩
end Og
end Go.Proofs.Ytgaafdfekgnccaa
