/-
  Lemmas: BeltA.
-/
import Derived.Test.YtchhkoalibapiaaTp25
import Derived.Test.YtchhkoalibapiaaTp20
/-
  The tasks of a belt: what Step does: find, look and take.
-/
namespace Go.Proofs.Ytchhkoalibapiaa
open Go.RowKit
set_option linter.unusedVariables false
set_option linter.unusedSimpArgs false
set_option maxRecDepth 20000
namespace Belt

theorem fieldP0 (w : World) (b : Nat) : (Instr.fieldAt 104 (.pointer (some ⟨b, 0, none⟩)) 0).run Try.prog w = .ok (.pointer (some ⟨b, 0, none⟩)) w := by simp [go_sem]
theorem fieldP1 (w : World) (b : Nat) : (Instr.fieldAt 104 (.pointer (some ⟨b, 0, none⟩)) 1).run Try.prog w = .ok (.pointer (some ⟨b, 1, none⟩)) w := by simp [go_sem]
theorem fieldP2 (w : World) (b : Nat) : (Instr.fieldAt 104 (.pointer (some ⟨b, 0, none⟩)) 2).run Try.prog w = .ok (.pointer (some ⟨b, 2, none⟩)) w := by simp [go_sem]
theorem fieldP3 (w : World) (b : Nat) : (Instr.fieldAt 104 (.pointer (some ⟨b, 0, none⟩)) 3).run Try.prog w = .ok (.pointer (some ⟨b, 3, none⟩)) w := by simp [go_sem]
theorem fieldP4 (w : World) (b : Nat) : (Instr.fieldAt 104 (.pointer (some ⟨b, 0, none⟩)) 4).run Try.prog w = .ok (.pointer (some ⟨b, 4, none⟩)) w := by simp [go_sem]
theorem fieldP5 (w : World) (b : Nat) : (Instr.fieldAt 104 (.pointer (some ⟨b, 0, none⟩)) 5).run Try.prog w = .ok (.pointer (some ⟨b, 5, none⟩)) w := by simp [go_sem]
theorem fieldP6 (w : World) (b : Nat) : (Instr.fieldAt 104 (.pointer (some ⟨b, 0, none⟩)) 6).run Try.prog w = .ok (.pointer (some ⟨b, 6, none⟩)) w := by simp [go_sem]
theorem fieldP7 (w : World) (b : Nat) : (Instr.fieldAt 104 (.pointer (some ⟨b, 0, none⟩)) 7).run Try.prog w = .ok (.pointer (some ⟨b, 7, none⟩)) w := by simp [go_sem]
theorem fieldS3 (w : World) (b : Nat) : (Instr.fieldAt 57 (.pointer (some ⟨b, 0, none⟩)) 3).run Try.prog w = .ok (.pointer (some ⟨b, 3, none⟩)) w := by simp [go_sem]
theorem aggI (w : World) : (isAgg 3).run Try.prog w = .ok false w := by simp [go_sem]
theorem aggU (w : World) : (isAgg 55).run Try.prog w = .ok false w := by simp [go_sem]
theorem callMark (args : Array Value) (w : World) : (callFunc 86 args).run Try.prog w = .ok (.enter 86 args) w := by simp [go_sem]
theorem callReady (args : Array Value) (w : World) : (callFunc 87 args).run Try.prog w = .ok (.enter 87 args) w := by simp [go_sem]
theorem callDone (args : Array Value) (w : World) : (callFunc 79 args).run Try.prog w = .ok (.enter 79 args) w := by simp [go_sem]
theorem wrap_u64' (x : Int) : IntKind.u64.wrap x = u64 x := by rw [IntKind.wrap_u64]; rfl
theorem free_call (p : Int) (w : World) : Calls Try.prog 25 #[.int .u64 p] w fun e w' => e = .returned (.int .u64 (fre p)) ∧ w' = w := by
  have g := wrap_u64' (2 * p)
  go_enter Try.func25, Try.ntmps25
  go_wp2
  go_ret
  exact ⟨rfl, rfl⟩
theorem given_call (p : Int) (w : World) : Calls Try.prog 88 #[.int .u64 p] w fun e w' => e = .returned (.int .u64 (giv p)) ∧ w' = w := by
  have g := wrap_u64' (2 * p)
  have g2 := wrap_u64' (u64 (2 * p) + 1)
  go_enter Try.func88, Try.ntmps88
  go_wp2
  go_ret
  exact ⟨rfl, rfl⟩
set_option maxHeartbeats 1000000 in
theorem mark_any {w : World} {b : Nat} {hand room kind count st num value : Int} {t : Ans} (h : w.rowIs b 104 9 (pasC hand room kind count st num value t)) (h1 : 1 ≤ room) (h2 : room ≤ 64) (hn : 0 ≤ num ∧ num ≤ 18446744073709551615) :
    Calls Try.prog 86 #[.pointer (some ⟨b, 0, none⟩)] w fun e w' => e = .returned (.int .i64 (mrk room num)) ∧ ∃ m, w' = w.drewN m := by
  have c1 : w.cell? ⟨b, 1, none⟩ = some (.int .i64 room) := h.cell (i := 1) (by omega)
  have c5 : w.cell? ⟨b, 5, none⟩ = some (.int .u64 num) := h.cell (i := 5) (by omega)
  have hl := h.lt
  have g1 : IntKind.u64.wrap room = room := by rw [IntKind.wrap_u64]; omega
  have hb := mrk_bounds num h1 h2
  have g2 : num.tmod room = num % room := Int.tmod_eq_emod_of_nonneg hn.1
  have g0 : ¬ room = 0 := by omega
  have g3 : wrap64 (num % room) = num % room := by unfold wrap64; unfold mrk at hb; omega
  have g4 : wrap64 (2 + num % room) = 2 + num % room := by unfold wrap64; unfold mrk at hb; omega
  clear h
  go_enter Try.func86, Try.ntmps86
  go_wp2_with fail
  go_quiet (fail)
  go_wp2_with fail
  go_ret
  refine ⟨?_, _, rfl⟩
  show Ending.returned (.int .i64 (wrap64 (2 + num % room))) = _
  rw [g4]
  rfl
set_option maxHeartbeats 1000000 in
theorem ready_any {w : World} {b : Nat} {hand room kind count st num value : Int} {t : Ans} (h : w.rowIs b 104 9 (pasC hand room kind count st num value t)) :
    Calls Try.prog 87 #[.pointer (some ⟨b, 0, none⟩)] w fun e w' => e = .returned (.int .u64 (rdy kind num)) ∧ w' = w := by
  have c2 : w.cell? ⟨b, 2, none⟩ = some (.int .i64 kind) := h.cell (i := 2) (by omega)
  have c5 : w.cell? ⟨b, 5, none⟩ = some (.int .u64 num) := h.cell (i := 5) (by omega)
  have hl := h.lt
  clear h
  unfold rdy
  by_cases hk : kind = 1
  · rw [if_pos hk]
    subst hk
    go_enter Try.func87, Try.ntmps87
    go_wp2_with (go_at_call 25; refine (free_call _ _).mono ?_; rintro e w' ⟨rfl, rfl⟩)
    go_ret
    exact ⟨rfl, rfl⟩
  · rw [if_neg hk]
    go_enter Try.func87, Try.ntmps87
    go_wp2_with (go_at_call 88; refine (given_call _ _).mono ?_; rintro e w' ⟨rfl, rfl⟩)
    go_ret
    exact ⟨rfl, rfl⟩
set_option maxHeartbeats 1000000 in
theorem done_any {w : World} {b : Nat} {hand room kind count st num value : Int} {t : Ans} (h : w.rowIs b 104 9 (pasC hand room kind count st num value t)) (h1 : 1 ≤ room) (h2 : room ≤ 64) :
    Calls Try.prog 79 #[.pointer (some ⟨b, 0, none⟩)] w fun e w' => e = .returned (.int .u64 (dne kind room num)) ∧ ∃ m, w' = w.drewN m := by
  have c1 : w.cell? ⟨b, 1, none⟩ = some (.int .i64 room) := h.cell (i := 1) (by omega)
  have c2 : w.cell? ⟨b, 2, none⟩ = some (.int .i64 kind) := h.cell (i := 2) (by omega)
  have c5 : w.cell? ⟨b, 5, none⟩ = some (.int .u64 num) := h.cell (i := 5) (by omega)
  have hl := h.lt
  have g1 : IntKind.u64.wrap room = room := by rw [IntKind.wrap_u64]; omega
  have g2 := wrap_u64' (num + room)
  clear h
  unfold dne
  by_cases hk : kind = 1
  · rw [if_pos hk]
    subst hk
    go_enter Try.func79, Try.ntmps79
    go_wp2_with (go_at_call 88; refine (given_call _ _).mono ?_; rintro e w' ⟨rfl, rfl⟩)
    go_ret
    exact ⟨rfl, 0, rfl⟩
  · rw [if_neg hk]
    go_enter Try.func79, Try.ntmps79
    go_wp2_with fail
    go_quiet ((go_at_call 25; exact Calls.quiet_of_same (free_call _ _)))
    go_wp2_with fail
    go_ret
    exact ⟨rfl, _, rfl⟩

theorem SW.drewN {b T nc : Nat} {C : Nat → Value} {bm bw n : Nat} {f f' : Nat → Int} {X : Stp} {r : Nat} {w0 w : World} {c al st : Bool} {v : Value} (h : RG.SW b T nc C bm bw n f f' X r w0 c al st v w) (m : Nat) : RG.SW b T nc C bm bw n f f' X r w0 c al st v (w.drewN m) :=
  ⟨h.row.of_block rfl, ⟨h.mem.head.of_block rfl, h.mem.row.of_block rfl, h.mem.most, h.mem.word⟩, h.res.of_block rfl, h.tch.trans' (S' := fun _ => False) ⟨rfl, rfl, rfl, Nat.le_refl _, fun _ _ _ => rfl⟩ (fun _ _ h => h.elim), h.lts, fun ha => by
    obtain ⟨q, e, h1, h2, h3, h4⟩ := h.own ha
    exact ⟨q, e, h1, h2, fun hs => (h3 hs).of_block rfl, fun hs => rangeAt_block (h4 hs) rfl⟩, h.dep⟩
theorem ex_add1 {ev : Operand → Value} {o : Oper} {w : World} {x y : Operand} {v : Int} (ho : o.op = .binOp .add 55 x y 55) (hx : ev x = .int .u64 v) (hy : ev y = .int .u64 1) : (execOp ev o).run Try.prog w = .ok (.value (.int .u64 (u64 (v + 1)))) w := by
  have := wrap_u64' (v + 1)
  simp [execOp, ho, hx, hy, go_sem, this]

theorem pas_st (hand room kind count st num value : Int) (t : Ans) (s : Int) (i : Nat) (hi : i < 9) : (fun j => if j = 4 then Value.int .i64 s else (fun j => pasC hand room kind count st num value t j) j) i = pasC hand room kind count s num value t i := by
  match i, hi with
  | 0, _ | 1, _ | 2, _ | 3, _ | 4, _ | 5, _ | 6, _ | 7, _ | 8, _ => rfl
theorem pas_st2 (hand room kind count st num value : Int) (t : Ans) (s u : Int) (i : Nat) (hi : i < 9) : (fun j => if j = 4 then Value.int .i64 u else (fun j => if j = 4 then Value.int .i64 s else (fun j => pasC hand room kind count st num value t j) j) j) i = pasC hand room kind count u num value t i := by
  match i, hi with
  | 0, _ | 1, _ | 2, _ | 3, _ | 4, _ | 5, _ | 6, _ | 7, _ | 8, _ => rfl
theorem pas_num (hand room kind count st num value : Int) (t : Ans) (s p : Int) (i : Nat) (hi : i < 9) : (fun j => if j = 4 then Value.int .i64 s else (fun j => if j = 5 then Value.int .u64 p else (fun j => pasC hand room kind count st num value t j) j) j) i = pasC hand room kind count s p value t i := by
  match i, hi with
  | 0, _ | 1, _ | 2, _ | 3, _ | 4, _ | 5, _ | 6, _ | 7, _ | 8, _ => rfl
theorem pas_val (hand room kind count st num value : Int) (t : Ans) (p : Int) (i : Nat) (hi : i < 9) : (fun j => if j = 6 then Value.int .u64 p else (fun j => pasC hand room kind count st num value t j) j) i = pasC hand room kind count st num p t i := by
  match i, hi with
  | 0, _ | 1, _ | 2, _ | 3, _ | 4, _ | 5, _ | 6, _ | 7, _ | 8, _ => rfl
theorem pas_told (hand room kind count st num value : Int) (t : Ans) (o : Bool) (p : Int) (i : Nat) (hi : i < 9) : (fun j => if j = 8 then Value.int .u64 p else (fun j => if j = 7 then Value.bool o else (fun j => pasC hand room kind count st num value t j) j) j) i = pasC hand room kind count st num value ⟨o, p⟩ i := by
  match i, hi with
  | 0, _ | 1, _ | 2, _ | 3, _ | 4, _ | 5, _ | 6, _ | 7, _ | 8, _ => rfl
theorem pas_told2 (hand room kind count st num value : Int) (t : Ans) (o : Bool) (p q : Int) (i : Nat) (hi : i < 9) : (fun j => if j = 8 then Value.int .u64 q else (fun j => if j = 8 then Value.int .u64 p else (fun j => if j = 7 then Value.bool o else (fun j => pasC hand room kind count st num value t j) j) j) j) i = pasC hand room kind count st num value ⟨o, q⟩ i := by
  match i, hi with
  | 0, _ | 1, _ | 2, _ | 3, _ | 4, _ | 5, _ | 6, _ | 7, _ | 8, _ => rfl

set_option maxHeartbeats 4000000 in
theorem find_goes {w : World} {b bm bw n : Nat} {f f' : Nat → Int} {x : Stp} {hand room kind count st num value : Int} {t : Ans} (h : w.rowIs b 104 9 (pasC hand room kind count st num value t)) (hm : IsMem w bm bw n f) (h1 : b ≠ bm) (h2 : b ≠ bw) 
    (hx : stepOf n f ⟨hand, 1, count, 0, 0, true⟩ = x) (hf' : wordsOf n f ⟨hand, 1, count, 0, 0, true⟩ = f') :
    Calls Try.prog 80 #[.pointer (some ⟨b, 0, none⟩), .pointer (some ⟨bm, 0, none⟩)] w fun e w' => e = .returned (.tuple #[x.val, .int .i64 0]) ∧
      w'.rowIs b 104 9 (pasC hand room kind count 1 x.had value t) ∧ IsMem w' bm bw n f' ∧ Touch w w' (fun k => k = b ∨ k = bw) := by
  have c0 : w.cell? ⟨b, 0, none⟩ = some (.int .i64 hand) := h.cell (i := 0) (by omega)
  have c1 : w.cell? ⟨b, 1, none⟩ = some (.int .i64 room) := h.cell (i := 1) (by omega)
  have c2 : w.cell? ⟨b, 2, none⟩ = some (.int .i64 kind) := h.cell (i := 2) (by omega)
  have c3 : w.cell? ⟨b, 3, none⟩ = some (.int .i64 count) := h.cell (i := 3) (by omega)
  have c4 : w.cell? ⟨b, 4, none⟩ = some (.int .i64 st) := h.cell (i := 4) (by omega)
  have c5 : w.cell? ⟨b, 5, none⟩ = some (.int .u64 num) := h.cell (i := 5) (by omega)
  have c6 : w.cell? ⟨b, 6, none⟩ = some (.int .u64 value) := h.cell (i := 6) (by omega)
  have c7 : w.cell? ⟨b, 7, none⟩ = some (.bool t.ok) := h.cell (i := 7) (by omega)
  have c8 : w.cell? ⟨b, 8, none⟩ = some (.int .u64 t.val) := h.cell (i := 8) (by omega)
  have hl := h.lt
  have lw := hm.row.lt
  have lm := hm.head.lt
  have hn3 : w.heap.size ≠ b := by omega
  have hn4 : w.heap.size ≠ bw := by omega
  have hn5 : w.heap.size ≠ bm := by omega
  obtain ⟨W1, hW1⟩ : ∃ W1, (w.alloc (.cells #[.int .i64 0, .int .i64 0, .int .i64 0, .int .u64 0, .int .u64 0, .bool false] 57)) = W1 := ⟨_, rfl⟩
  have R := hide (show W1.rowIs b 104 9 (pasC hand room kind count st num value t) from by
    rw [← hW1]
    skip
    repeat (first | (with_reducible refine World.rowIs.set ?_ _ _) | (with_reducible apply World.rowIs.alloc))
    exact h)
  have M := hide (show IsMem W1 bm bw n f from by
    rw [← hW1]
    repeat (first | (with_reducible apply IsMem.alloc) | ((with_reducible refine IsMem.setOther ?_ ?_ ?_ _); rotate_left; (simp; omega); (simp; omega)))
    exact hm)
  have RZ := hide (show W1.rowIs w.heap.size 57 6 zcell from by
    rw [← hW1]
    have := row0 w
    simpa using this)
  have T0 := hide (show Touch w W1 (fun k => k = b ∨ k = bw) from by
    rw [← hW1]
    repeat (first | (with_reducible apply Touch.alloc) | (with_reducible refine Touch.setCell ?_ _ ?side _; case side => simp))
    exact Touch.refl w _)
  have sz : W1.heap.size = w.heap.size + 1 := by rw [← hW1]; simp
  have HX := hide hx
  have HF := hide hf'
  have HW : Hid (0 ≤ (⟨hand, 1, count, 0, 0, true⟩ : Stp).put ∧ (⟨hand, 1, count, 0, 0, true⟩ : Stp).put ≤ 18446744073709551615) := ⟨Int.le_refl 0, by show (0 : Int) ≤ 18446744073709551615; decide⟩
  clear hm h hx hf' 
  go_enter Try.func80, Try.ntmps80
  go_wp2_with fail
  clear hW1 c0 c1 c2 c3 c4 c5 c6 c7 c8 
  refine RG.region (ks := [(0, 7), (1, 8), (2, 9), (3, 10), (4, 11), (5, 12), (6, 13), (7, 14), (8, 15), (9, 16)]) (vals := fun i => match i with
      | 0 => .pointer (some ⟨bm, 0, none⟩)
      | 1 => .pointer (some ⟨b, 0, none⟩)
      | 2 => .pointer (some ⟨b, 0, none⟩)
      | 3 => .pointer (some ⟨b, 0, none⟩)
      | 4 => .int .i64 hand
      | 5 => .pointer (some ⟨b, 0, none⟩)
      | 6 => .pointer (some ⟨b, 0, none⟩)
      | 7 => .pointer (some ⟨b, 3, none⟩)
      | 8 => .int .i64 count
      | 9 => .agg #[.int .i64 x.hand, .int .i64 x.act, .int .i64 x.at_, .int .u64 x.had, .int .u64 x.put, .bool x.ok]
      | _ => undef) (x := 6) (WI := fun L v w' => RG.SW b 104 9 (pasC hand room kind count st num value t) bm bw n f f' x w.heap.size W1 (L 9) (L 10) (L 11) v w') (by kernel_rfl) ?gg ?bk rfl ?dd ?xx (RG.SW.start R.out M.out RZ.out) ?does ?fin
  case gg =>
    intro i o ho
    have hi : i < 12 := by have := (Array.getElem?_eq_some_iff.1 ho).1; simpa using this
    match i, hi with
    | 0, _ | 1, _ | 2, _ | 3, _ | 4, _ | 5, _ | 6, _ | 7, _ | 8, _ | 9, _ | 10, _ | 11, _ => injection ho with ho; subst ho; rfl
  case bk =>
    intro i o ho
    have hi : i < 12 := by have := (Array.getElem?_eq_some_iff.1 ho).1; simpa using this
    match i, hi with
    | 0, _ | 1, _ | 2, _ | 3, _ | 4, _ | 5, _ | 6, _ | 7, _ | 8, _ | 9, _ | 10, _ | 11, _ => injection ho with ho; subst ho; simp [Region.binds]
  case dd =>
    intro k hk
    have hk' : k < 26 := by
      simp [RetN.D] at hk
      omega
    simpa using hk'
  case xx => simp
  case does =>
    intro i o ho
    have hi : i < 12 := by have := (Array.getElem?_eq_some_iff.1 ho).1; simpa using this
    match i, hi with
    | 0, _ => injection ho with ho; subst ho; exact RG.Does.read rfl (fun L v w' h => RG.SW.skip (by decide) (by decide) (by decide) h) (fun L a w' hI hd => ex_move rfl (hI.fix 1 (Reg.notD rfl) (by decide)))
    | 1, _ => injection ho with ho; subst ho; exact RG.Does.read rfl (fun L v w' h => RG.SW.skip (by decide) (by decide) (by decide) h) (fun L a w' hI hd => ex_move rfl (hI.fix 0 (Reg.notD rfl) (by decide)))
    | 2, _ => injection ho with ho; subst ho; exact RG.Does.read rfl (fun L v w' h => RG.SW.skip (by decide) (by decide) (by decide) h) (fun L a w' hI hd => ex_nil rfl (hI.pure 1 _ _ rfl (hd ⟨1, .data⟩ (by simp) rfl)))
    | 3, _ => injection ho with ho; subst ho; exact RG.Does.read rfl (fun L v w' h => RG.SW.skip (by decide) (by decide) (by decide) h) (fun L a w' hI hd => ex_field rfl (hI.pure 2 _ _ rfl (hd ⟨2, .data⟩ (by simp) rfl)) (fieldP0 w' _))
    | 4, _ => injection ho with ho; subst ho; exact RG.Does.read rfl (fun L v w' h => RG.SW.skip (by decide) (by decide) (by decide) h) (fun L a w' hI hd => ex_load rfl (hI.pure 3 _ _ rfl (hd ⟨3, .data⟩ (by simp) rfl)) (aggI w') (hI.world.row.cell (i := 0) (by omega)))
    | 5, _ => injection ho with ho; subst ho; exact RG.Does.read rfl (fun L v w' h => RG.SW.skip (by decide) (by decide) (by decide) h) (fun L a w' hI hd => ex_move rfl (hI.fix 0 (Reg.notD rfl) (by decide)))
    | 6, _ => injection ho with ho; subst ho; exact RG.Does.read rfl (fun L v w' h => RG.SW.skip (by decide) (by decide) (by decide) h) (fun L a w' hI hd => ex_nil rfl (hI.pure 5 _ _ rfl (hd ⟨5, .data⟩ (by simp) rfl)))
    | 7, _ => injection ho with ho; subst ho; exact RG.Does.read rfl (fun L v w' h => RG.SW.skip (by decide) (by decide) (by decide) h) (fun L a w' hI hd => ex_field rfl (hI.pure 6 _ _ rfl (hd ⟨6, .data⟩ (by simp) rfl)) (fieldP3 w' _))
    | 8, _ => injection ho with ho; subst ho; exact RG.Does.read rfl (fun L v w' h => RG.SW.skip (by decide) (by decide) (by decide) h) (fun L a w' hI hd => ex_load rfl (hI.pure 7 _ _ rfl (hd ⟨7, .data⟩ (by simp) rfl)) (aggI w') (hI.world.row.cell (i := 3) (by omega)))
    | 9, _ => injection ho with ho; subst ho; exact RG.Does.call rfl (fun L a w' hI hd => call6 rfl (hI.pure 0 _ _ rfl (hd ⟨0, .data⟩ (by simp) rfl)) (hI.pure 4 _ _ rfl (hd ⟨4, .data⟩ (by simp) rfl)) rfl (hI.pure 8 _ _ rfl (hd ⟨8, .data⟩ (by simp) rfl)) rfl rfl rfl (callDo _ _)) (RG.SW.calls HX.out HF.out HW.out h2 hn4 (by decide) (by decide))
    | 10, _ => injection ho with ho; subst ho; exact RG.Does.make (u := fun w' => .pointer (some ⟨w'.heap.size, 0, none⟩)) rfl rfl (fun ev w' => alloc46 rfl) (fun L v w' h hL => by have := RG.SW.make h hL; rw [← upd_same L 10 true] at this; simpa only [upd_other _ _ (show 9 ≠ 10 by decide), upd_other _ _ (show 11 ≠ 10 by decide)] using this)
    | 11, _ => injection ho with ho; subst ho; exact RG.Does.put (ls := x.cells) rfl rfl rfl size46 (by simp [Stp.cells, Value.oneCell']) (fun L a w' hI hL hd => ⟨(hI.pure 9 _ _ rfl (hd ⟨9, .data⟩ (by simp) rfl)), by obtain ⟨q, e1, e2, e3⟩ := RG.SW.put hI.world (hd ⟨9, .data⟩ (by simp) rfl) (hd ⟨10, .data⟩ (by simp) rfl) hL; exact ⟨q, 0, e1, e2, by rw [← upd_same L 11 true] at e3; simpa only [upd_other _ _ (show 9 ≠ 11 by decide), upd_other _ _ (show 10 ≠ 11 by decide)] using e3⟩⟩)
  case fin =>
    intro L a' w1 hI hall
    have hw := hI.world
    simp only [hall 9 (by decide), hall 10 (by decide), hall 11 (by decide), if_true] at hw
    obtain ⟨q, hq, hq1, hq2, _, hr⟩ := hw.own rfl
    replace hr := hr rfl
    have ea := act_all a' 26 (by rw [hI.sz]; rfl) hI.df
    simp only [List.range, List.range.loop, List.map] at ea
    rw [hI.fix 0 (Reg.notD rfl) (by decide), hI.fix 1 (Reg.notD rfl) (by decide), hI.fix 2 (Reg.notD rfl) (by decide), hI.fix 3 (Reg.notD rfl) (by decide), hI.fix 4 (Reg.notD rfl) (by decide), hI.fix 5 (Reg.notD rfl) (by decide), hI.fix 17 (Reg.notD rfl) (by decide), hI.fix 18 (Reg.notD rfl) (by decide), hI.fix 19 (Reg.notD rfl) (by decide), hI.fix 20 (Reg.notD rfl) (by decide), hI.fix 21 (Reg.notD rfl) (by decide), hI.fix 22 (Reg.notD rfl) (by decide), hI.fix 23 (Reg.notD rfl) (by decide), hI.fix 24 (Reg.notD rfl) (by decide), hI.fix 25 (Reg.notD rfl) (by decide), hq] at ea
    clear hI hall
    generalize a'.eval (.tmp 7) = u7 at ea
    generalize a'.eval (.tmp 8) = u8 at ea
    generalize a'.eval (.tmp 9) = u9 at ea
    generalize a'.eval (.tmp 10) = u10 at ea
    generalize a'.eval (.tmp 11) = u11 at ea
    generalize a'.eval (.tmp 12) = u12 at ea
    generalize a'.eval (.tmp 13) = u13 at ea
    generalize a'.eval (.tmp 14) = u14 at ea
    generalize a'.eval (.tmp 15) = u15 at ea
    generalize a'.eval (.tmp 16) = u16 at ea
    simp only [show ∀ (ts : Array Value) (ds) (i : Nat), (Act.mk ts ds).eval (.tmp i) = ts.getD i undef from fun _ _ _ => rfl] at ea
    simp at ea
    subst ea
    have M1 := hide (show IsMem w1 bm bw n f' from by simpa using hw.mem)
    have R1 := hide hw.row
    have RR := hide hw.res
    have T1 := hide (T0.out.trans' hw.tch (fun k _ h => .inr h))
    have RQ := hide hr
    have hqb : q ≠ b := by omega
    have hqr : q ≠ w.heap.size := by omega
    have hqr' : w.heap.size ≠ q := by omega
    have hqm : q ≠ bm ∧ q ≠ bw := by omega
    have lw1 := hw.tch.size
    have l1 : b < w1.heap.size := by omega
    have l2 : w.heap.size < w1.heap.size := by omega
    clear hw hr hq
    have d0 : w1.cell? ⟨b, 0, none⟩ = some (.int .i64 hand) := R1.out.cell (i := 0) (by omega)
    have d1 : w1.cell? ⟨b, 1, none⟩ = some (.int .i64 room) := R1.out.cell (i := 1) (by omega)
    have d2 : w1.cell? ⟨b, 2, none⟩ = some (.int .i64 kind) := R1.out.cell (i := 2) (by omega)
    have d3 : w1.cell? ⟨b, 3, none⟩ = some (.int .i64 count) := R1.out.cell (i := 3) (by omega)
    have d4 : w1.cell? ⟨b, 4, none⟩ = some (.int .i64 st) := R1.out.cell (i := 4) (by omega)
    have d5 : w1.cell? ⟨b, 5, none⟩ = some (.int .u64 num) := R1.out.cell (i := 5) (by omega)
    have d6 : w1.cell? ⟨b, 6, none⟩ = some (.int .u64 value) := R1.out.cell (i := 6) (by omega)
    have d7 : w1.cell? ⟨b, 7, none⟩ = some (.bool t.ok) := R1.out.cell (i := 7) (by omega)
    have d8 : w1.cell? ⟨b, 8, none⟩ = some (.int .u64 t.val) := R1.out.cell (i := 8) (by omega)
    have df0 := R1.out.frozen 0
    have df1 := R1.out.frozen 1
    have df2 := R1.out.frozen 2
    have df3 := R1.out.frozen 3
    have df4 := R1.out.frozen 4
    have df5 := R1.out.frozen 5
    have df6 := R1.out.frozen 6
    have df7 := R1.out.frozen 7
    have df8 := R1.out.frozen 8
    have r0 : w1.cell? ⟨w.heap.size, 0, none⟩ = some (.int .i64 0) := RR.out.cell (i := 0) (by omega)
    have rf0 := RR.out.frozen 0
    have s0 : w1.cell? ⟨q, 0, none⟩ = some (.int .i64 x.hand) := by have := RQ.out 0 _ rfl; simpa using this
    have r1 : w1.cell? ⟨w.heap.size, 1, none⟩ = some (.int .i64 0) := RR.out.cell (i := 1) (by omega)
    have rf1 := RR.out.frozen 1
    have s1 : w1.cell? ⟨q, 1, none⟩ = some (.int .i64 x.act) := by have := RQ.out 1 _ rfl; simpa using this
    have r2 : w1.cell? ⟨w.heap.size, 2, none⟩ = some (.int .i64 0) := RR.out.cell (i := 2) (by omega)
    have rf2 := RR.out.frozen 2
    have s2 : w1.cell? ⟨q, 2, none⟩ = some (.int .i64 x.at_) := by have := RQ.out 2 _ rfl; simpa using this
    have r3 : w1.cell? ⟨w.heap.size, 3, none⟩ = some (.int .u64 0) := RR.out.cell (i := 3) (by omega)
    have rf3 := RR.out.frozen 3
    have s3 : w1.cell? ⟨q, 3, none⟩ = some (.int .u64 x.had) := by have := RQ.out 3 _ rfl; simpa using this
    have r4 : w1.cell? ⟨w.heap.size, 4, none⟩ = some (.int .u64 0) := RR.out.cell (i := 4) (by omega)
    have rf4 := RR.out.frozen 4
    have s4 : w1.cell? ⟨q, 4, none⟩ = some (.int .u64 x.put) := by have := RQ.out 4 _ rfl; simpa using this
    have r5 : w1.cell? ⟨w.heap.size, 5, none⟩ = some (.bool false) := RR.out.cell (i := 5) (by omega)
    have rf5 := RR.out.frozen 5
    have s5 : w1.cell? ⟨q, 5, none⟩ = some (.bool x.ok) := by have := RQ.out 5 _ rfl; simpa using this
    go_wp2_with fail
    go_light
    refine bodyPost_ret (v := .tuple #[x.val, .int .i64 0]) ?res rfl ⟨rfl, ?row, ?mem, ?tch⟩
    case row =>
      refine World.rowIs.congr ?_ (fun i hi => pas_num hand room kind count st num value t 1 x.had i hi)
      repeat (first | (with_reducible apply World.rowIs.alloc) | (with_reducible apply World.rowIs.drew) | (with_reducible refine World.rowIs.setOther ?_ ?side _; case side => (simp; omega)))
      with_reducible refine World.rowIs.set ?_ 4 _
      repeat (first | (with_reducible apply World.rowIs.alloc) | (with_reducible apply World.rowIs.drew) | (with_reducible refine World.rowIs.setOther ?_ ?side _; case side => (simp; omega)))
      with_reducible refine World.rowIs.set ?_ 5 _
      repeat (first | (with_reducible apply World.rowIs.alloc) | (with_reducible apply World.rowIs.drew) | (with_reducible refine World.rowIs.setOther ?_ ?side _; case side => (simp; omega)))
      with_reducible exact R1.out
    case mem =>
      repeat (first | (with_reducible apply IsMem.alloc) | (with_reducible apply IsMem.drew) | ((with_reducible refine IsMem.setOther ?_ ?_ ?_ _); rotate_left; (simp; omega); (simp; omega)))
      with_reducible exact M1.out
    case tch =>
      repeat (first | (with_reducible apply Touch.alloc) | (with_reducible apply Touch.drew) | (with_reducible refine Touch.setCell ?_ _ ?side _; case side => simp))
      with_reducible exact T1.out
    case res => simp [results, Try.results80, go_sem, Stp.val, *]

set_option maxHeartbeats 4000000 in
theorem take_goes {w : World} {b bm bw n : Nat} {f f' : Nat → Int} {x : Stp} {hand room kind count st num value : Int} {t : Ans} (h : w.rowIs b 104 9 (pasC hand room kind count st num value t)) (hm : IsMem w bm bw n f) (h1 : b ≠ bm) (h2 : b ≠ bw) (hok : x.ok = true)
    (hx : stepOf n f ⟨hand, 5, count, num, u64 (num + 1), true⟩ = x) (hf' : wordsOf n f ⟨hand, 5, count, num, u64 (num + 1), true⟩ = f') :
    Calls Try.prog 82 #[.pointer (some ⟨b, 0, none⟩), .pointer (some ⟨bm, 0, none⟩)] w fun e w' => e = .returned (.tuple #[x.val, .int .i64 0]) ∧
      w'.rowIs b 104 9 (pasC hand room kind count 3 num value t) ∧ IsMem w' bm bw n f' ∧ Touch w w' (fun k => k = b ∨ k = bw) := by
  have c0 : w.cell? ⟨b, 0, none⟩ = some (.int .i64 hand) := h.cell (i := 0) (by omega)
  have c1 : w.cell? ⟨b, 1, none⟩ = some (.int .i64 room) := h.cell (i := 1) (by omega)
  have c2 : w.cell? ⟨b, 2, none⟩ = some (.int .i64 kind) := h.cell (i := 2) (by omega)
  have c3 : w.cell? ⟨b, 3, none⟩ = some (.int .i64 count) := h.cell (i := 3) (by omega)
  have c4 : w.cell? ⟨b, 4, none⟩ = some (.int .i64 st) := h.cell (i := 4) (by omega)
  have c5 : w.cell? ⟨b, 5, none⟩ = some (.int .u64 num) := h.cell (i := 5) (by omega)
  have c6 : w.cell? ⟨b, 6, none⟩ = some (.int .u64 value) := h.cell (i := 6) (by omega)
  have c7 : w.cell? ⟨b, 7, none⟩ = some (.bool t.ok) := h.cell (i := 7) (by omega)
  have c8 : w.cell? ⟨b, 8, none⟩ = some (.int .u64 t.val) := h.cell (i := 8) (by omega)
  have hl := h.lt
  have lw := hm.row.lt
  have lm := hm.head.lt
  have hn3 : w.heap.size ≠ b := by omega
  have hn4 : w.heap.size ≠ bw := by omega
  have hn5 : w.heap.size ≠ bm := by omega
  obtain ⟨W1, hW1⟩ : ∃ W1, (w.alloc (.cells #[.int .i64 0, .int .i64 0, .int .i64 0, .int .u64 0, .int .u64 0, .bool false] 57)) = W1 := ⟨_, rfl⟩
  have R := hide (show W1.rowIs b 104 9 (pasC hand room kind count st num value t) from by
    rw [← hW1]
    skip
    repeat (first | (with_reducible refine World.rowIs.set ?_ _ _) | (with_reducible apply World.rowIs.alloc))
    exact h)
  have M := hide (show IsMem W1 bm bw n f from by
    rw [← hW1]
    repeat (first | (with_reducible apply IsMem.alloc) | ((with_reducible refine IsMem.setOther ?_ ?_ ?_ _); rotate_left; (simp; omega); (simp; omega)))
    exact hm)
  have RZ := hide (show W1.rowIs w.heap.size 57 6 zcell from by
    rw [← hW1]
    have := row0 w
    simpa using this)
  have T0 := hide (show Touch w W1 (fun k => k = b ∨ k = bw) from by
    rw [← hW1]
    repeat (first | (with_reducible apply Touch.alloc) | (with_reducible refine Touch.setCell ?_ _ ?side _; case side => simp))
    exact Touch.refl w _)
  have sz : W1.heap.size = w.heap.size + 1 := by rw [← hW1]; simp
  have HX := hide hx
  have HF := hide hf'
  have HW : Hid (0 ≤ (⟨hand, 5, count, num, u64 (num + 1), true⟩ : Stp).put ∧ (⟨hand, 5, count, num, u64 (num + 1), true⟩ : Stp).put ≤ 18446744073709551615) := ⟨u64_lo _, u64_hi _⟩
  clear hm h hx hf' 
  go_enter Try.func82, Try.ntmps82
  go_wp2_with fail
  clear hW1 c0 c1 c2 c3 c4 c5 c6 c7 c8 
  refine RG.region (ks := [(0, 7), (1, 8), (2, 9), (3, 10), (4, 11), (5, 12), (6, 13), (7, 14), (8, 15), (9, 16), (10, 17), (11, 18), (12, 19), (13, 20), (14, 21), (15, 22), (16, 23), (17, 24), (18, 25)]) (vals := fun i => match i with
      | 0 => .pointer (some ⟨bm, 0, none⟩)
      | 1 => .pointer (some ⟨b, 0, none⟩)
      | 2 => .pointer (some ⟨b, 0, none⟩)
      | 3 => .pointer (some ⟨b, 0, none⟩)
      | 4 => .int .i64 hand
      | 5 => .pointer (some ⟨b, 0, none⟩)
      | 6 => .pointer (some ⟨b, 0, none⟩)
      | 7 => .pointer (some ⟨b, 3, none⟩)
      | 8 => .int .i64 count
      | 9 => .pointer (some ⟨b, 0, none⟩)
      | 10 => .pointer (some ⟨b, 0, none⟩)
      | 11 => .pointer (some ⟨b, 5, none⟩)
      | 12 => .int .u64 num
      | 13 => .pointer (some ⟨b, 0, none⟩)
      | 14 => .pointer (some ⟨b, 0, none⟩)
      | 15 => .pointer (some ⟨b, 5, none⟩)
      | 16 => .int .u64 num
      | 17 => .int .u64 (u64 (num + 1))
      | 18 => .agg #[.int .i64 x.hand, .int .i64 x.act, .int .i64 x.at_, .int .u64 x.had, .int .u64 x.put, .bool x.ok]
      | _ => undef) (x := 6) (WI := fun L v w' => RG.SW b 104 9 (pasC hand room kind count st num value t) bm bw n f f' x w.heap.size W1 (L 18) (L 19) (L 20) v w') (by kernel_rfl) ?gg ?bk rfl ?dd ?xx (RG.SW.start R.out M.out RZ.out) ?does ?fin
  case gg =>
    intro i o ho
    have hi : i < 21 := by have := (Array.getElem?_eq_some_iff.1 ho).1; simpa using this
    match i, hi with
    | 0, _ | 1, _ | 2, _ | 3, _ | 4, _ | 5, _ | 6, _ | 7, _ | 8, _ | 9, _ | 10, _ | 11, _ | 12, _ | 13, _ | 14, _ | 15, _ | 16, _ | 17, _ | 18, _ | 19, _ | 20, _ => injection ho with ho; subst ho; rfl
  case bk =>
    intro i o ho
    have hi : i < 21 := by have := (Array.getElem?_eq_some_iff.1 ho).1; simpa using this
    match i, hi with
    | 0, _ | 1, _ | 2, _ | 3, _ | 4, _ | 5, _ | 6, _ | 7, _ | 8, _ | 9, _ | 10, _ | 11, _ | 12, _ | 13, _ | 14, _ | 15, _ | 16, _ | 17, _ | 18, _ | 19, _ | 20, _ => injection ho with ho; subst ho; simp [Region.binds]
  case dd =>
    intro k hk
    have hk' : k < 36 := by
      simp [RetN.D] at hk
      omega
    simpa using hk'
  case xx => simp
  case does =>
    intro i o ho
    have hi : i < 21 := by have := (Array.getElem?_eq_some_iff.1 ho).1; simpa using this
    match i, hi with
    | 0, _ => injection ho with ho; subst ho; exact RG.Does.read rfl (fun L v w' h => RG.SW.skip (by decide) (by decide) (by decide) h) (fun L a w' hI hd => ex_move rfl (hI.fix 1 (Reg.notD rfl) (by decide)))
    | 1, _ => injection ho with ho; subst ho; exact RG.Does.read rfl (fun L v w' h => RG.SW.skip (by decide) (by decide) (by decide) h) (fun L a w' hI hd => ex_move rfl (hI.fix 0 (Reg.notD rfl) (by decide)))
    | 2, _ => injection ho with ho; subst ho; exact RG.Does.read rfl (fun L v w' h => RG.SW.skip (by decide) (by decide) (by decide) h) (fun L a w' hI hd => ex_nil rfl (hI.pure 1 _ _ rfl (hd ⟨1, .data⟩ (by simp) rfl)))
    | 3, _ => injection ho with ho; subst ho; exact RG.Does.read rfl (fun L v w' h => RG.SW.skip (by decide) (by decide) (by decide) h) (fun L a w' hI hd => ex_field rfl (hI.pure 2 _ _ rfl (hd ⟨2, .data⟩ (by simp) rfl)) (fieldP0 w' _))
    | 4, _ => injection ho with ho; subst ho; exact RG.Does.read rfl (fun L v w' h => RG.SW.skip (by decide) (by decide) (by decide) h) (fun L a w' hI hd => ex_load rfl (hI.pure 3 _ _ rfl (hd ⟨3, .data⟩ (by simp) rfl)) (aggI w') (hI.world.row.cell (i := 0) (by omega)))
    | 5, _ => injection ho with ho; subst ho; exact RG.Does.read rfl (fun L v w' h => RG.SW.skip (by decide) (by decide) (by decide) h) (fun L a w' hI hd => ex_move rfl (hI.fix 0 (Reg.notD rfl) (by decide)))
    | 6, _ => injection ho with ho; subst ho; exact RG.Does.read rfl (fun L v w' h => RG.SW.skip (by decide) (by decide) (by decide) h) (fun L a w' hI hd => ex_nil rfl (hI.pure 5 _ _ rfl (hd ⟨5, .data⟩ (by simp) rfl)))
    | 7, _ => injection ho with ho; subst ho; exact RG.Does.read rfl (fun L v w' h => RG.SW.skip (by decide) (by decide) (by decide) h) (fun L a w' hI hd => ex_field rfl (hI.pure 6 _ _ rfl (hd ⟨6, .data⟩ (by simp) rfl)) (fieldP3 w' _))
    | 8, _ => injection ho with ho; subst ho; exact RG.Does.read rfl (fun L v w' h => RG.SW.skip (by decide) (by decide) (by decide) h) (fun L a w' hI hd => ex_load rfl (hI.pure 7 _ _ rfl (hd ⟨7, .data⟩ (by simp) rfl)) (aggI w') (hI.world.row.cell (i := 3) (by omega)))
    | 9, _ => injection ho with ho; subst ho; exact RG.Does.read rfl (fun L v w' h => RG.SW.skip (by decide) (by decide) (by decide) h) (fun L a w' hI hd => ex_move rfl (hI.fix 0 (Reg.notD rfl) (by decide)))
    | 10, _ => injection ho with ho; subst ho; exact RG.Does.read rfl (fun L v w' h => RG.SW.skip (by decide) (by decide) (by decide) h) (fun L a w' hI hd => ex_nil rfl (hI.pure 9 _ _ rfl (hd ⟨9, .data⟩ (by simp) rfl)))
    | 11, _ => injection ho with ho; subst ho; exact RG.Does.read rfl (fun L v w' h => RG.SW.skip (by decide) (by decide) (by decide) h) (fun L a w' hI hd => ex_field rfl (hI.pure 10 _ _ rfl (hd ⟨10, .data⟩ (by simp) rfl)) (fieldP5 w' _))
    | 12, _ => injection ho with ho; subst ho; exact RG.Does.read rfl (fun L v w' h => RG.SW.skip (by decide) (by decide) (by decide) h) (fun L a w' hI hd => ex_load rfl (hI.pure 11 _ _ rfl (hd ⟨11, .data⟩ (by simp) rfl)) (aggU w') (hI.world.row.cell (i := 5) (by omega)))
    | 13, _ => injection ho with ho; subst ho; exact RG.Does.read rfl (fun L v w' h => RG.SW.skip (by decide) (by decide) (by decide) h) (fun L a w' hI hd => ex_move rfl (hI.fix 0 (Reg.notD rfl) (by decide)))
    | 14, _ => injection ho with ho; subst ho; exact RG.Does.read rfl (fun L v w' h => RG.SW.skip (by decide) (by decide) (by decide) h) (fun L a w' hI hd => ex_nil rfl (hI.pure 13 _ _ rfl (hd ⟨13, .data⟩ (by simp) rfl)))
    | 15, _ => injection ho with ho; subst ho; exact RG.Does.read rfl (fun L v w' h => RG.SW.skip (by decide) (by decide) (by decide) h) (fun L a w' hI hd => ex_field rfl (hI.pure 14 _ _ rfl (hd ⟨14, .data⟩ (by simp) rfl)) (fieldP5 w' _))
    | 16, _ => injection ho with ho; subst ho; exact RG.Does.read rfl (fun L v w' h => RG.SW.skip (by decide) (by decide) (by decide) h) (fun L a w' hI hd => ex_load rfl (hI.pure 15 _ _ rfl (hd ⟨15, .data⟩ (by simp) rfl)) (aggU w') (hI.world.row.cell (i := 5) (by omega)))
    | 17, _ => injection ho with ho; subst ho; exact RG.Does.read rfl (fun L v w' h => RG.SW.skip (by decide) (by decide) (by decide) h) (fun L a w' hI hd => ex_add1 rfl (hI.pure 16 _ _ rfl (hd ⟨16, .data⟩ (by simp) rfl)) rfl)
    | 18, _ => injection ho with ho; subst ho; exact RG.Does.call rfl (fun L a w' hI hd => call6 rfl (hI.pure 0 _ _ rfl (hd ⟨0, .data⟩ (by simp) rfl)) (hI.pure 4 _ _ rfl (hd ⟨4, .data⟩ (by simp) rfl)) rfl (hI.pure 8 _ _ rfl (hd ⟨8, .data⟩ (by simp) rfl)) (hI.pure 12 _ _ rfl (hd ⟨12, .data⟩ (by simp) rfl)) (hI.pure 17 _ _ rfl (hd ⟨17, .data⟩ (by simp) rfl)) rfl (callDo _ _)) (RG.SW.calls HX.out HF.out HW.out h2 hn4 (by decide) (by decide))
    | 19, _ => injection ho with ho; subst ho; exact RG.Does.make (u := fun w' => .pointer (some ⟨w'.heap.size, 0, none⟩)) rfl rfl (fun ev w' => alloc46 rfl) (fun L v w' h hL => by have := RG.SW.make h hL; rw [← upd_same L 19 true] at this; simpa only [upd_other _ _ (show 18 ≠ 19 by decide), upd_other _ _ (show 20 ≠ 19 by decide)] using this)
    | 20, _ => injection ho with ho; subst ho; exact RG.Does.put (ls := x.cells) rfl rfl rfl size46 (by simp [Stp.cells, Value.oneCell']) (fun L a w' hI hL hd => ⟨(hI.pure 18 _ _ rfl (hd ⟨18, .data⟩ (by simp) rfl)), by obtain ⟨q, e1, e2, e3⟩ := RG.SW.put hI.world (hd ⟨18, .data⟩ (by simp) rfl) (hd ⟨19, .data⟩ (by simp) rfl) hL; exact ⟨q, 0, e1, e2, by rw [← upd_same L 20 true] at e3; simpa only [upd_other _ _ (show 18 ≠ 20 by decide), upd_other _ _ (show 19 ≠ 20 by decide)] using e3⟩⟩)
  case fin =>
    intro L a' w1 hI hall
    have hw := hI.world
    simp only [hall 18 (by decide), hall 19 (by decide), hall 20 (by decide), if_true] at hw
    obtain ⟨q, hq, hq1, hq2, _, hr⟩ := hw.own rfl
    replace hr := hr rfl
    have ea := act_all a' 36 (by rw [hI.sz]; rfl) hI.df
    simp only [List.range, List.range.loop, List.map] at ea
    rw [hI.fix 0 (Reg.notD rfl) (by decide), hI.fix 1 (Reg.notD rfl) (by decide), hI.fix 2 (Reg.notD rfl) (by decide), hI.fix 3 (Reg.notD rfl) (by decide), hI.fix 4 (Reg.notD rfl) (by decide), hI.fix 5 (Reg.notD rfl) (by decide), hI.fix 26 (Reg.notD rfl) (by decide), hI.fix 27 (Reg.notD rfl) (by decide), hI.fix 28 (Reg.notD rfl) (by decide), hI.fix 29 (Reg.notD rfl) (by decide), hI.fix 30 (Reg.notD rfl) (by decide), hI.fix 31 (Reg.notD rfl) (by decide), hI.fix 32 (Reg.notD rfl) (by decide), hI.fix 33 (Reg.notD rfl) (by decide), hI.fix 34 (Reg.notD rfl) (by decide), hI.fix 35 (Reg.notD rfl) (by decide), hq] at ea
    clear hI hall
    generalize a'.eval (.tmp 7) = u7 at ea
    generalize a'.eval (.tmp 8) = u8 at ea
    generalize a'.eval (.tmp 9) = u9 at ea
    generalize a'.eval (.tmp 10) = u10 at ea
    generalize a'.eval (.tmp 11) = u11 at ea
    generalize a'.eval (.tmp 12) = u12 at ea
    generalize a'.eval (.tmp 13) = u13 at ea
    generalize a'.eval (.tmp 14) = u14 at ea
    generalize a'.eval (.tmp 15) = u15 at ea
    generalize a'.eval (.tmp 16) = u16 at ea
    generalize a'.eval (.tmp 17) = u17 at ea
    generalize a'.eval (.tmp 18) = u18 at ea
    generalize a'.eval (.tmp 19) = u19 at ea
    generalize a'.eval (.tmp 20) = u20 at ea
    generalize a'.eval (.tmp 21) = u21 at ea
    generalize a'.eval (.tmp 22) = u22 at ea
    generalize a'.eval (.tmp 23) = u23 at ea
    generalize a'.eval (.tmp 24) = u24 at ea
    generalize a'.eval (.tmp 25) = u25 at ea
    simp only [show ∀ (ts : Array Value) (ds) (i : Nat), (Act.mk ts ds).eval (.tmp i) = ts.getD i undef from fun _ _ _ => rfl] at ea
    simp at ea
    subst ea
    have M1 := hide (show IsMem w1 bm bw n f' from by simpa using hw.mem)
    have R1 := hide hw.row
    have RR := hide hw.res
    have T1 := hide (T0.out.trans' hw.tch (fun k _ h => .inr h))
    have RQ := hide hr
    have hqb : q ≠ b := by omega
    have hqr : q ≠ w.heap.size := by omega
    have hqr' : w.heap.size ≠ q := by omega
    have hqm : q ≠ bm ∧ q ≠ bw := by omega
    have lw1 := hw.tch.size
    have l1 : b < w1.heap.size := by omega
    have l2 : w.heap.size < w1.heap.size := by omega
    clear hw hr hq
    have d0 : w1.cell? ⟨b, 0, none⟩ = some (.int .i64 hand) := R1.out.cell (i := 0) (by omega)
    have d1 : w1.cell? ⟨b, 1, none⟩ = some (.int .i64 room) := R1.out.cell (i := 1) (by omega)
    have d2 : w1.cell? ⟨b, 2, none⟩ = some (.int .i64 kind) := R1.out.cell (i := 2) (by omega)
    have d3 : w1.cell? ⟨b, 3, none⟩ = some (.int .i64 count) := R1.out.cell (i := 3) (by omega)
    have d4 : w1.cell? ⟨b, 4, none⟩ = some (.int .i64 st) := R1.out.cell (i := 4) (by omega)
    have d5 : w1.cell? ⟨b, 5, none⟩ = some (.int .u64 num) := R1.out.cell (i := 5) (by omega)
    have d6 : w1.cell? ⟨b, 6, none⟩ = some (.int .u64 value) := R1.out.cell (i := 6) (by omega)
    have d7 : w1.cell? ⟨b, 7, none⟩ = some (.bool t.ok) := R1.out.cell (i := 7) (by omega)
    have d8 : w1.cell? ⟨b, 8, none⟩ = some (.int .u64 t.val) := R1.out.cell (i := 8) (by omega)
    have df0 := R1.out.frozen 0
    have df1 := R1.out.frozen 1
    have df2 := R1.out.frozen 2
    have df3 := R1.out.frozen 3
    have df4 := R1.out.frozen 4
    have df5 := R1.out.frozen 5
    have df6 := R1.out.frozen 6
    have df7 := R1.out.frozen 7
    have df8 := R1.out.frozen 8
    have r0 : w1.cell? ⟨w.heap.size, 0, none⟩ = some (.int .i64 0) := RR.out.cell (i := 0) (by omega)
    have rf0 := RR.out.frozen 0
    have s0 : w1.cell? ⟨q, 0, none⟩ = some (.int .i64 x.hand) := by have := RQ.out 0 _ rfl; simpa using this
    have r1 : w1.cell? ⟨w.heap.size, 1, none⟩ = some (.int .i64 0) := RR.out.cell (i := 1) (by omega)
    have rf1 := RR.out.frozen 1
    have s1 : w1.cell? ⟨q, 1, none⟩ = some (.int .i64 x.act) := by have := RQ.out 1 _ rfl; simpa using this
    have r2 : w1.cell? ⟨w.heap.size, 2, none⟩ = some (.int .i64 0) := RR.out.cell (i := 2) (by omega)
    have rf2 := RR.out.frozen 2
    have s2 : w1.cell? ⟨q, 2, none⟩ = some (.int .i64 x.at_) := by have := RQ.out 2 _ rfl; simpa using this
    have r3 : w1.cell? ⟨w.heap.size, 3, none⟩ = some (.int .u64 0) := RR.out.cell (i := 3) (by omega)
    have rf3 := RR.out.frozen 3
    have s3 : w1.cell? ⟨q, 3, none⟩ = some (.int .u64 x.had) := by have := RQ.out 3 _ rfl; simpa using this
    have r4 : w1.cell? ⟨w.heap.size, 4, none⟩ = some (.int .u64 0) := RR.out.cell (i := 4) (by omega)
    have rf4 := RR.out.frozen 4
    have s4 : w1.cell? ⟨q, 4, none⟩ = some (.int .u64 x.put) := by have := RQ.out 4 _ rfl; simpa using this
    have r5 : w1.cell? ⟨w.heap.size, 5, none⟩ = some (.bool false) := RR.out.cell (i := 5) (by omega)
    have rf5 := RR.out.frozen 5
    have s5 : w1.cell? ⟨q, 5, none⟩ = some (.bool x.ok) := by have := RQ.out 5 _ rfl; simpa using this
    go_wp2_with fail
    go_light
    refine bodyPost_ret (v := .tuple #[x.val, .int .i64 0]) ?res rfl ⟨rfl, ?row, ?mem, ?tch⟩
    case row =>
      refine World.rowIs.congr ?_ (fun i hi => pas_st hand room kind count st num value t 3 i hi)
      repeat (first | (with_reducible apply World.rowIs.alloc) | (with_reducible apply World.rowIs.drew) | (with_reducible refine World.rowIs.setOther ?_ ?side _; case side => (simp; omega)))
      with_reducible refine World.rowIs.set ?_ 4 _
      repeat (first | (with_reducible apply World.rowIs.alloc) | (with_reducible apply World.rowIs.drew) | (with_reducible refine World.rowIs.setOther ?_ ?side _; case side => (simp; omega)))
      with_reducible exact R1.out
    case mem =>
      repeat (first | (with_reducible apply IsMem.alloc) | (with_reducible apply IsMem.drew) | ((with_reducible refine IsMem.setOther ?_ ?_ ?_ _); rotate_left; (simp; omega); (simp; omega)))
      with_reducible exact M1.out
    case tch =>
      repeat (first | (with_reducible apply Touch.alloc) | (with_reducible apply Touch.drew) | (with_reducible refine Touch.setCell ?_ _ ?side _; case side => simp))
      with_reducible exact T1.out
    case res => simp [results, Try.results82, go_sem, Stp.val, *]

set_option maxHeartbeats 4000000 in
theorem take_fails {w : World} {b bm bw n : Nat} {f f' : Nat → Int} {x : Stp} {hand room kind count st num value : Int} {t : Ans} (h : w.rowIs b 104 9 (pasC hand room kind count st num value t)) (hm : IsMem w bm bw n f) (h1 : b ≠ bm) (h2 : b ≠ bw) (hok : x.ok = false)
    (hx : stepOf n f ⟨hand, 5, count, num, u64 (num + 1), true⟩ = x) (hf' : wordsOf n f ⟨hand, 5, count, num, u64 (num + 1), true⟩ = f') :
    Calls Try.prog 82 #[.pointer (some ⟨b, 0, none⟩), .pointer (some ⟨bm, 0, none⟩)] w fun e w' => e = .returned (.tuple #[x.val, .int .i64 0]) ∧
      w'.rowIs b 104 9 (pasC hand room kind count 0 num value t) ∧ IsMem w' bm bw n f' ∧ Touch w w' (fun k => k = b ∨ k = bw) := by
  have c0 : w.cell? ⟨b, 0, none⟩ = some (.int .i64 hand) := h.cell (i := 0) (by omega)
  have c1 : w.cell? ⟨b, 1, none⟩ = some (.int .i64 room) := h.cell (i := 1) (by omega)
  have c2 : w.cell? ⟨b, 2, none⟩ = some (.int .i64 kind) := h.cell (i := 2) (by omega)
  have c3 : w.cell? ⟨b, 3, none⟩ = some (.int .i64 count) := h.cell (i := 3) (by omega)
  have c4 : w.cell? ⟨b, 4, none⟩ = some (.int .i64 st) := h.cell (i := 4) (by omega)
  have c5 : w.cell? ⟨b, 5, none⟩ = some (.int .u64 num) := h.cell (i := 5) (by omega)
  have c6 : w.cell? ⟨b, 6, none⟩ = some (.int .u64 value) := h.cell (i := 6) (by omega)
  have c7 : w.cell? ⟨b, 7, none⟩ = some (.bool t.ok) := h.cell (i := 7) (by omega)
  have c8 : w.cell? ⟨b, 8, none⟩ = some (.int .u64 t.val) := h.cell (i := 8) (by omega)
  have hl := h.lt
  have lw := hm.row.lt
  have lm := hm.head.lt
  have hn3 : w.heap.size ≠ b := by omega
  have hn4 : w.heap.size ≠ bw := by omega
  have hn5 : w.heap.size ≠ bm := by omega
  obtain ⟨W1, hW1⟩ : ∃ W1, (w.alloc (.cells #[.int .i64 0, .int .i64 0, .int .i64 0, .int .u64 0, .int .u64 0, .bool false] 57)) = W1 := ⟨_, rfl⟩
  have R := hide (show W1.rowIs b 104 9 (pasC hand room kind count st num value t) from by
    rw [← hW1]
    skip
    repeat (first | (with_reducible refine World.rowIs.set ?_ _ _) | (with_reducible apply World.rowIs.alloc))
    exact h)
  have M := hide (show IsMem W1 bm bw n f from by
    rw [← hW1]
    repeat (first | (with_reducible apply IsMem.alloc) | ((with_reducible refine IsMem.setOther ?_ ?_ ?_ _); rotate_left; (simp; omega); (simp; omega)))
    exact hm)
  have RZ := hide (show W1.rowIs w.heap.size 57 6 zcell from by
    rw [← hW1]
    have := row0 w
    simpa using this)
  have T0 := hide (show Touch w W1 (fun k => k = b ∨ k = bw) from by
    rw [← hW1]
    repeat (first | (with_reducible apply Touch.alloc) | (with_reducible refine Touch.setCell ?_ _ ?side _; case side => simp))
    exact Touch.refl w _)
  have sz : W1.heap.size = w.heap.size + 1 := by rw [← hW1]; simp
  have HX := hide hx
  have HF := hide hf'
  have HW : Hid (0 ≤ (⟨hand, 5, count, num, u64 (num + 1), true⟩ : Stp).put ∧ (⟨hand, 5, count, num, u64 (num + 1), true⟩ : Stp).put ≤ 18446744073709551615) := ⟨u64_lo _, u64_hi _⟩
  clear hm h hx hf' 
  go_enter Try.func82, Try.ntmps82
  go_wp2_with fail
  clear hW1 c0 c1 c2 c3 c4 c5 c6 c7 c8 
  refine RG.region (ks := [(0, 7), (1, 8), (2, 9), (3, 10), (4, 11), (5, 12), (6, 13), (7, 14), (8, 15), (9, 16), (10, 17), (11, 18), (12, 19), (13, 20), (14, 21), (15, 22), (16, 23), (17, 24), (18, 25)]) (vals := fun i => match i with
      | 0 => .pointer (some ⟨bm, 0, none⟩)
      | 1 => .pointer (some ⟨b, 0, none⟩)
      | 2 => .pointer (some ⟨b, 0, none⟩)
      | 3 => .pointer (some ⟨b, 0, none⟩)
      | 4 => .int .i64 hand
      | 5 => .pointer (some ⟨b, 0, none⟩)
      | 6 => .pointer (some ⟨b, 0, none⟩)
      | 7 => .pointer (some ⟨b, 3, none⟩)
      | 8 => .int .i64 count
      | 9 => .pointer (some ⟨b, 0, none⟩)
      | 10 => .pointer (some ⟨b, 0, none⟩)
      | 11 => .pointer (some ⟨b, 5, none⟩)
      | 12 => .int .u64 num
      | 13 => .pointer (some ⟨b, 0, none⟩)
      | 14 => .pointer (some ⟨b, 0, none⟩)
      | 15 => .pointer (some ⟨b, 5, none⟩)
      | 16 => .int .u64 num
      | 17 => .int .u64 (u64 (num + 1))
      | 18 => .agg #[.int .i64 x.hand, .int .i64 x.act, .int .i64 x.at_, .int .u64 x.had, .int .u64 x.put, .bool x.ok]
      | _ => undef) (x := 6) (WI := fun L v w' => RG.SW b 104 9 (pasC hand room kind count st num value t) bm bw n f f' x w.heap.size W1 (L 18) (L 19) (L 20) v w') (by kernel_rfl) ?gg ?bk rfl ?dd ?xx (RG.SW.start R.out M.out RZ.out) ?does ?fin
  case gg =>
    intro i o ho
    have hi : i < 21 := by have := (Array.getElem?_eq_some_iff.1 ho).1; simpa using this
    match i, hi with
    | 0, _ | 1, _ | 2, _ | 3, _ | 4, _ | 5, _ | 6, _ | 7, _ | 8, _ | 9, _ | 10, _ | 11, _ | 12, _ | 13, _ | 14, _ | 15, _ | 16, _ | 17, _ | 18, _ | 19, _ | 20, _ => injection ho with ho; subst ho; rfl
  case bk =>
    intro i o ho
    have hi : i < 21 := by have := (Array.getElem?_eq_some_iff.1 ho).1; simpa using this
    match i, hi with
    | 0, _ | 1, _ | 2, _ | 3, _ | 4, _ | 5, _ | 6, _ | 7, _ | 8, _ | 9, _ | 10, _ | 11, _ | 12, _ | 13, _ | 14, _ | 15, _ | 16, _ | 17, _ | 18, _ | 19, _ | 20, _ => injection ho with ho; subst ho; simp [Region.binds]
  case dd =>
    intro k hk
    have hk' : k < 36 := by
      simp [RetN.D] at hk
      omega
    simpa using hk'
  case xx => simp
  case does =>
    intro i o ho
    have hi : i < 21 := by have := (Array.getElem?_eq_some_iff.1 ho).1; simpa using this
    match i, hi with
    | 0, _ => injection ho with ho; subst ho; exact RG.Does.read rfl (fun L v w' h => RG.SW.skip (by decide) (by decide) (by decide) h) (fun L a w' hI hd => ex_move rfl (hI.fix 1 (Reg.notD rfl) (by decide)))
    | 1, _ => injection ho with ho; subst ho; exact RG.Does.read rfl (fun L v w' h => RG.SW.skip (by decide) (by decide) (by decide) h) (fun L a w' hI hd => ex_move rfl (hI.fix 0 (Reg.notD rfl) (by decide)))
    | 2, _ => injection ho with ho; subst ho; exact RG.Does.read rfl (fun L v w' h => RG.SW.skip (by decide) (by decide) (by decide) h) (fun L a w' hI hd => ex_nil rfl (hI.pure 1 _ _ rfl (hd ⟨1, .data⟩ (by simp) rfl)))
    | 3, _ => injection ho with ho; subst ho; exact RG.Does.read rfl (fun L v w' h => RG.SW.skip (by decide) (by decide) (by decide) h) (fun L a w' hI hd => ex_field rfl (hI.pure 2 _ _ rfl (hd ⟨2, .data⟩ (by simp) rfl)) (fieldP0 w' _))
    | 4, _ => injection ho with ho; subst ho; exact RG.Does.read rfl (fun L v w' h => RG.SW.skip (by decide) (by decide) (by decide) h) (fun L a w' hI hd => ex_load rfl (hI.pure 3 _ _ rfl (hd ⟨3, .data⟩ (by simp) rfl)) (aggI w') (hI.world.row.cell (i := 0) (by omega)))
    | 5, _ => injection ho with ho; subst ho; exact RG.Does.read rfl (fun L v w' h => RG.SW.skip (by decide) (by decide) (by decide) h) (fun L a w' hI hd => ex_move rfl (hI.fix 0 (Reg.notD rfl) (by decide)))
    | 6, _ => injection ho with ho; subst ho; exact RG.Does.read rfl (fun L v w' h => RG.SW.skip (by decide) (by decide) (by decide) h) (fun L a w' hI hd => ex_nil rfl (hI.pure 5 _ _ rfl (hd ⟨5, .data⟩ (by simp) rfl)))
    | 7, _ => injection ho with ho; subst ho; exact RG.Does.read rfl (fun L v w' h => RG.SW.skip (by decide) (by decide) (by decide) h) (fun L a w' hI hd => ex_field rfl (hI.pure 6 _ _ rfl (hd ⟨6, .data⟩ (by simp) rfl)) (fieldP3 w' _))
    | 8, _ => injection ho with ho; subst ho; exact RG.Does.read rfl (fun L v w' h => RG.SW.skip (by decide) (by decide) (by decide) h) (fun L a w' hI hd => ex_load rfl (hI.pure 7 _ _ rfl (hd ⟨7, .data⟩ (by simp) rfl)) (aggI w') (hI.world.row.cell (i := 3) (by omega)))
    | 9, _ => injection ho with ho; subst ho; exact RG.Does.read rfl (fun L v w' h => RG.SW.skip (by decide) (by decide) (by decide) h) (fun L a w' hI hd => ex_move rfl (hI.fix 0 (Reg.notD rfl) (by decide)))
    | 10, _ => injection ho with ho; subst ho; exact RG.Does.read rfl (fun L v w' h => RG.SW.skip (by decide) (by decide) (by decide) h) (fun L a w' hI hd => ex_nil rfl (hI.pure 9 _ _ rfl (hd ⟨9, .data⟩ (by simp) rfl)))
    | 11, _ => injection ho with ho; subst ho; exact RG.Does.read rfl (fun L v w' h => RG.SW.skip (by decide) (by decide) (by decide) h) (fun L a w' hI hd => ex_field rfl (hI.pure 10 _ _ rfl (hd ⟨10, .data⟩ (by simp) rfl)) (fieldP5 w' _))
    | 12, _ => injection ho with ho; subst ho; exact RG.Does.read rfl (fun L v w' h => RG.SW.skip (by decide) (by decide) (by decide) h) (fun L a w' hI hd => ex_load rfl (hI.pure 11 _ _ rfl (hd ⟨11, .data⟩ (by simp) rfl)) (aggU w') (hI.world.row.cell (i := 5) (by omega)))
    | 13, _ => injection ho with ho; subst ho; exact RG.Does.read rfl (fun L v w' h => RG.SW.skip (by decide) (by decide) (by decide) h) (fun L a w' hI hd => ex_move rfl (hI.fix 0 (Reg.notD rfl) (by decide)))
    | 14, _ => injection ho with ho; subst ho; exact RG.Does.read rfl (fun L v w' h => RG.SW.skip (by decide) (by decide) (by decide) h) (fun L a w' hI hd => ex_nil rfl (hI.pure 13 _ _ rfl (hd ⟨13, .data⟩ (by simp) rfl)))
    | 15, _ => injection ho with ho; subst ho; exact RG.Does.read rfl (fun L v w' h => RG.SW.skip (by decide) (by decide) (by decide) h) (fun L a w' hI hd => ex_field rfl (hI.pure 14 _ _ rfl (hd ⟨14, .data⟩ (by simp) rfl)) (fieldP5 w' _))
    | 16, _ => injection ho with ho; subst ho; exact RG.Does.read rfl (fun L v w' h => RG.SW.skip (by decide) (by decide) (by decide) h) (fun L a w' hI hd => ex_load rfl (hI.pure 15 _ _ rfl (hd ⟨15, .data⟩ (by simp) rfl)) (aggU w') (hI.world.row.cell (i := 5) (by omega)))
    | 17, _ => injection ho with ho; subst ho; exact RG.Does.read rfl (fun L v w' h => RG.SW.skip (by decide) (by decide) (by decide) h) (fun L a w' hI hd => ex_add1 rfl (hI.pure 16 _ _ rfl (hd ⟨16, .data⟩ (by simp) rfl)) rfl)
    | 18, _ => injection ho with ho; subst ho; exact RG.Does.call rfl (fun L a w' hI hd => call6 rfl (hI.pure 0 _ _ rfl (hd ⟨0, .data⟩ (by simp) rfl)) (hI.pure 4 _ _ rfl (hd ⟨4, .data⟩ (by simp) rfl)) rfl (hI.pure 8 _ _ rfl (hd ⟨8, .data⟩ (by simp) rfl)) (hI.pure 12 _ _ rfl (hd ⟨12, .data⟩ (by simp) rfl)) (hI.pure 17 _ _ rfl (hd ⟨17, .data⟩ (by simp) rfl)) rfl (callDo _ _)) (RG.SW.calls HX.out HF.out HW.out h2 hn4 (by decide) (by decide))
    | 19, _ => injection ho with ho; subst ho; exact RG.Does.make (u := fun w' => .pointer (some ⟨w'.heap.size, 0, none⟩)) rfl rfl (fun ev w' => alloc46 rfl) (fun L v w' h hL => by have := RG.SW.make h hL; rw [← upd_same L 19 true] at this; simpa only [upd_other _ _ (show 18 ≠ 19 by decide), upd_other _ _ (show 20 ≠ 19 by decide)] using this)
    | 20, _ => injection ho with ho; subst ho; exact RG.Does.put (ls := x.cells) rfl rfl rfl size46 (by simp [Stp.cells, Value.oneCell']) (fun L a w' hI hL hd => ⟨(hI.pure 18 _ _ rfl (hd ⟨18, .data⟩ (by simp) rfl)), by obtain ⟨q, e1, e2, e3⟩ := RG.SW.put hI.world (hd ⟨18, .data⟩ (by simp) rfl) (hd ⟨19, .data⟩ (by simp) rfl) hL; exact ⟨q, 0, e1, e2, by rw [← upd_same L 20 true] at e3; simpa only [upd_other _ _ (show 18 ≠ 20 by decide), upd_other _ _ (show 19 ≠ 20 by decide)] using e3⟩⟩)
  case fin =>
    intro L a' w1 hI hall
    have hw := hI.world
    simp only [hall 18 (by decide), hall 19 (by decide), hall 20 (by decide), if_true] at hw
    obtain ⟨q, hq, hq1, hq2, _, hr⟩ := hw.own rfl
    replace hr := hr rfl
    have ea := act_all a' 36 (by rw [hI.sz]; rfl) hI.df
    simp only [List.range, List.range.loop, List.map] at ea
    rw [hI.fix 0 (Reg.notD rfl) (by decide), hI.fix 1 (Reg.notD rfl) (by decide), hI.fix 2 (Reg.notD rfl) (by decide), hI.fix 3 (Reg.notD rfl) (by decide), hI.fix 4 (Reg.notD rfl) (by decide), hI.fix 5 (Reg.notD rfl) (by decide), hI.fix 26 (Reg.notD rfl) (by decide), hI.fix 27 (Reg.notD rfl) (by decide), hI.fix 28 (Reg.notD rfl) (by decide), hI.fix 29 (Reg.notD rfl) (by decide), hI.fix 30 (Reg.notD rfl) (by decide), hI.fix 31 (Reg.notD rfl) (by decide), hI.fix 32 (Reg.notD rfl) (by decide), hI.fix 33 (Reg.notD rfl) (by decide), hI.fix 34 (Reg.notD rfl) (by decide), hI.fix 35 (Reg.notD rfl) (by decide), hq] at ea
    clear hI hall
    generalize a'.eval (.tmp 7) = u7 at ea
    generalize a'.eval (.tmp 8) = u8 at ea
    generalize a'.eval (.tmp 9) = u9 at ea
    generalize a'.eval (.tmp 10) = u10 at ea
    generalize a'.eval (.tmp 11) = u11 at ea
    generalize a'.eval (.tmp 12) = u12 at ea
    generalize a'.eval (.tmp 13) = u13 at ea
    generalize a'.eval (.tmp 14) = u14 at ea
    generalize a'.eval (.tmp 15) = u15 at ea
    generalize a'.eval (.tmp 16) = u16 at ea
    generalize a'.eval (.tmp 17) = u17 at ea
    generalize a'.eval (.tmp 18) = u18 at ea
    generalize a'.eval (.tmp 19) = u19 at ea
    generalize a'.eval (.tmp 20) = u20 at ea
    generalize a'.eval (.tmp 21) = u21 at ea
    generalize a'.eval (.tmp 22) = u22 at ea
    generalize a'.eval (.tmp 23) = u23 at ea
    generalize a'.eval (.tmp 24) = u24 at ea
    generalize a'.eval (.tmp 25) = u25 at ea
    simp only [show ∀ (ts : Array Value) (ds) (i : Nat), (Act.mk ts ds).eval (.tmp i) = ts.getD i undef from fun _ _ _ => rfl] at ea
    simp at ea
    subst ea
    have M1 := hide (show IsMem w1 bm bw n f' from by simpa using hw.mem)
    have R1 := hide hw.row
    have RR := hide hw.res
    have T1 := hide (T0.out.trans' hw.tch (fun k _ h => .inr h))
    have RQ := hide hr
    have hqb : q ≠ b := by omega
    have hqr : q ≠ w.heap.size := by omega
    have hqr' : w.heap.size ≠ q := by omega
    have hqm : q ≠ bm ∧ q ≠ bw := by omega
    have lw1 := hw.tch.size
    have l1 : b < w1.heap.size := by omega
    have l2 : w.heap.size < w1.heap.size := by omega
    clear hw hr hq
    have d0 : w1.cell? ⟨b, 0, none⟩ = some (.int .i64 hand) := R1.out.cell (i := 0) (by omega)
    have d1 : w1.cell? ⟨b, 1, none⟩ = some (.int .i64 room) := R1.out.cell (i := 1) (by omega)
    have d2 : w1.cell? ⟨b, 2, none⟩ = some (.int .i64 kind) := R1.out.cell (i := 2) (by omega)
    have d3 : w1.cell? ⟨b, 3, none⟩ = some (.int .i64 count) := R1.out.cell (i := 3) (by omega)
    have d4 : w1.cell? ⟨b, 4, none⟩ = some (.int .i64 st) := R1.out.cell (i := 4) (by omega)
    have d5 : w1.cell? ⟨b, 5, none⟩ = some (.int .u64 num) := R1.out.cell (i := 5) (by omega)
    have d6 : w1.cell? ⟨b, 6, none⟩ = some (.int .u64 value) := R1.out.cell (i := 6) (by omega)
    have d7 : w1.cell? ⟨b, 7, none⟩ = some (.bool t.ok) := R1.out.cell (i := 7) (by omega)
    have d8 : w1.cell? ⟨b, 8, none⟩ = some (.int .u64 t.val) := R1.out.cell (i := 8) (by omega)
    have df0 := R1.out.frozen 0
    have df1 := R1.out.frozen 1
    have df2 := R1.out.frozen 2
    have df3 := R1.out.frozen 3
    have df4 := R1.out.frozen 4
    have df5 := R1.out.frozen 5
    have df6 := R1.out.frozen 6
    have df7 := R1.out.frozen 7
    have df8 := R1.out.frozen 8
    have r0 : w1.cell? ⟨w.heap.size, 0, none⟩ = some (.int .i64 0) := RR.out.cell (i := 0) (by omega)
    have rf0 := RR.out.frozen 0
    have s0 : w1.cell? ⟨q, 0, none⟩ = some (.int .i64 x.hand) := by have := RQ.out 0 _ rfl; simpa using this
    have r1 : w1.cell? ⟨w.heap.size, 1, none⟩ = some (.int .i64 0) := RR.out.cell (i := 1) (by omega)
    have rf1 := RR.out.frozen 1
    have s1 : w1.cell? ⟨q, 1, none⟩ = some (.int .i64 x.act) := by have := RQ.out 1 _ rfl; simpa using this
    have r2 : w1.cell? ⟨w.heap.size, 2, none⟩ = some (.int .i64 0) := RR.out.cell (i := 2) (by omega)
    have rf2 := RR.out.frozen 2
    have s2 : w1.cell? ⟨q, 2, none⟩ = some (.int .i64 x.at_) := by have := RQ.out 2 _ rfl; simpa using this
    have r3 : w1.cell? ⟨w.heap.size, 3, none⟩ = some (.int .u64 0) := RR.out.cell (i := 3) (by omega)
    have rf3 := RR.out.frozen 3
    have s3 : w1.cell? ⟨q, 3, none⟩ = some (.int .u64 x.had) := by have := RQ.out 3 _ rfl; simpa using this
    have r4 : w1.cell? ⟨w.heap.size, 4, none⟩ = some (.int .u64 0) := RR.out.cell (i := 4) (by omega)
    have rf4 := RR.out.frozen 4
    have s4 : w1.cell? ⟨q, 4, none⟩ = some (.int .u64 x.put) := by have := RQ.out 4 _ rfl; simpa using this
    have r5 : w1.cell? ⟨w.heap.size, 5, none⟩ = some (.bool false) := RR.out.cell (i := 5) (by omega)
    have rf5 := RR.out.frozen 5
    have s5 : w1.cell? ⟨q, 5, none⟩ = some (.bool x.ok) := by have := RQ.out 5 _ rfl; simpa using this
    go_wp2_with fail
    go_light
    refine bodyPost_ret (v := .tuple #[x.val, .int .i64 0]) ?res rfl ⟨rfl, ?row, ?mem, ?tch⟩
    case row =>
      refine World.rowIs.congr ?_ (fun i hi => pas_st2 hand room kind count st num value t 3 0 i hi)
      repeat (first | (with_reducible apply World.rowIs.alloc) | (with_reducible apply World.rowIs.drew) | (with_reducible refine World.rowIs.setOther ?_ ?side _; case side => (simp; omega)))
      with_reducible refine World.rowIs.set ?_ 4 _
      repeat (first | (with_reducible apply World.rowIs.alloc) | (with_reducible apply World.rowIs.drew) | (with_reducible refine World.rowIs.setOther ?_ ?side _; case side => (simp; omega)))
      with_reducible refine World.rowIs.set ?_ 4 _
      repeat (first | (with_reducible apply World.rowIs.alloc) | (with_reducible apply World.rowIs.drew) | (with_reducible refine World.rowIs.setOther ?_ ?side _; case side => (simp; omega)))
      with_reducible exact R1.out
    case mem =>
      repeat (first | (with_reducible apply IsMem.alloc) | (with_reducible apply IsMem.drew) | ((with_reducible refine IsMem.setOther ?_ ?_ ?_ _); rotate_left; (simp; omega); (simp; omega)))
      with_reducible exact M1.out
    case tch =>
      repeat (first | (with_reducible apply Touch.alloc) | (with_reducible apply Touch.drew) | (with_reducible refine Touch.setCell ?_ _ ?side _; case side => simp))
      with_reducible exact T1.out
    case res => simp [results, Try.results82, go_sem, Stp.val, *]

end Belt
end Go.Proofs.Ytchhkoalibapiaa
