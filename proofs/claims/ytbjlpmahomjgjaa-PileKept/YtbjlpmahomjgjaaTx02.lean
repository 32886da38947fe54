/-
  Lemmas: PileA.
-/
import Derived.Test.YtbjlpmahomjgjaaTx01
import Derived.Test.YtbjlpmahomjgjaaTp18
set_option linter.unusedVariables false
set_option linter.unusedSimpArgs false
set_option maxRecDepth 20000
namespace Go.Proofs.Ytbjlpmahomjgjaa
open Go.RowKit
namespace Pile

theorem fieldP0 (w : World) (b : Nat) : (Instr.fieldAt 130 (.pointer (some ⟨b, 0, none⟩)) 0).run Try.prog w = .ok (.pointer (some ⟨b, 0, none⟩)) w := by simp [go_sem]
theorem fieldP1 (w : World) (b : Nat) : (Instr.fieldAt 130 (.pointer (some ⟨b, 0, none⟩)) 1).run Try.prog w = .ok (.pointer (some ⟨b, 1, none⟩)) w := by simp [go_sem]
theorem fieldP2 (w : World) (b : Nat) : (Instr.fieldAt 130 (.pointer (some ⟨b, 0, none⟩)) 2).run Try.prog w = .ok (.pointer (some ⟨b, 2, none⟩)) w := by simp [go_sem]
theorem fieldP3 (w : World) (b : Nat) : (Instr.fieldAt 130 (.pointer (some ⟨b, 0, none⟩)) 3).run Try.prog w = .ok (.pointer (some ⟨b, 3, none⟩)) w := by simp [go_sem]
theorem fieldP4 (w : World) (b : Nat) : (Instr.fieldAt 130 (.pointer (some ⟨b, 0, none⟩)) 4).run Try.prog w = .ok (.pointer (some ⟨b, 4, none⟩)) w := by simp [go_sem]
theorem fieldP5 (w : World) (b : Nat) : (Instr.fieldAt 130 (.pointer (some ⟨b, 0, none⟩)) 5).run Try.prog w = .ok (.pointer (some ⟨b, 5, none⟩)) w := by simp [go_sem]
theorem fieldP6 (w : World) (b : Nat) : (Instr.fieldAt 130 (.pointer (some ⟨b, 0, none⟩)) 6).run Try.prog w = .ok (.pointer (some ⟨b, 6, none⟩)) w := by simp [go_sem]
theorem fieldP7 (w : World) (b : Nat) : (Instr.fieldAt 130 (.pointer (some ⟨b, 0, none⟩)) 7).run Try.prog w = .ok (.pointer (some ⟨b, 7, none⟩)) w := by simp [go_sem]
theorem fieldP8 (w : World) (b : Nat) : (Instr.fieldAt 130 (.pointer (some ⟨b, 0, none⟩)) 8).run Try.prog w = .ok (.pointer (some ⟨b, 8, none⟩)) w := by simp [go_sem]
theorem fieldP9 (w : World) (b : Nat) : (Instr.fieldAt 130 (.pointer (some ⟨b, 0, none⟩)) 9).run Try.prog w = .ok (.pointer (some ⟨b, 9, none⟩)) w := by simp [go_sem]
theorem fieldS3 (w : World) (b : Nat) : (Instr.fieldAt 63 (.pointer (some ⟨b, 0, none⟩)) 3).run Try.prog w = .ok (.pointer (some ⟨b, 3, none⟩)) w := by simp [go_sem]
theorem aggI (w : World) : (isAgg 3).run Try.prog w = .ok false w := by simp [go_sem]
theorem aggU (w : World) : (isAgg 42).run Try.prog w = .ok false w := by simp [go_sem]
theorem callLink (args : Array Value) (w : World) : (callFunc 46 args).run Try.prog w = .ok (.enter 46 args) w := by simp [go_sem]
theorem callValue (args : Array Value) (w : World) : (callFunc 168 args).run Try.prog w = .ok (.enter 168 args) w := by simp [go_sem]
theorem callIndex (args : Array Value) (w : World) : (callFunc 70 args).run Try.prog w = .ok (.enter 70 args) w := by simp [go_sem]
theorem callBump (args : Array Value) (w : World) : (callFunc 167 args).run Try.prog w = .ok (.enter 167 args) w := by simp [go_sem]
theorem link_any (p : Int) (h0 : 0 ≤ p) (h1 : p < 4294967296) (w : World) : Calls Try.prog 46 #[.int .i64 p] w fun e w' => e = .returned (.int .i64 (2 * p)) ∧ w' = w := by
  have g3 : wrap64 (2 * p) = 2 * p := by unfold wrap64; omega
  go_enter Try.func46, Try.ntmps46
  go_wp2
  go_ret
  first | exact ⟨rfl, rfl⟩ | exact ⟨ret_int g3, rfl⟩
theorem value_any (p : Int) (h0 : 0 ≤ p) (h1 : p < 4294967296) (w : World) : Calls Try.prog 168 #[.int .i64 p] w fun e w' => e = .returned (.int .i64 (2 * p + 1)) ∧ w' = w := by
  have g3 : wrap64 (2 * p) = 2 * p := by unfold wrap64; omega
  have g4 : wrap64 (2 * p + 1) = 2 * p + 1 := by unfold wrap64; omega
  go_enter Try.func168, Try.ntmps168
  go_wp2
  go_ret
  first | exact ⟨rfl, rfl⟩ | exact ⟨ret_int g4, rfl⟩

theorem car_st (hand kind fr on st head place below value : Int) (t : Ans) (s : Int) (i : Nat) (hi : i < 11) : (fun j => if j = 4 then Value.int .i64 s else (fun j => carC hand kind fr on st head place below value t j) j) i = carC hand kind fr on s head place below value t i := by
  match i, hi with
  | 0, _ | 1, _ | 2, _ | 3, _ | 4, _ | 5, _ | 6, _ | 7, _ | 8, _ | 9, _ | 10, _ => rfl
theorem car_low (hand kind fr on st head place below value : Int) (t : Ans) (s p : Int) (i : Nat) (hi : i < 11) : (fun j => if j = 4 then Value.int .i64 s else (fun j => if j = 7 then Value.int .i64 p else (fun j => carC hand kind fr on st head place below value t j) j) j) i = carC hand kind fr on s head place p value t i := by
  match i, hi with
  | 0, _ | 1, _ | 2, _ | 3, _ | 4, _ | 5, _ | 6, _ | 7, _ | 8, _ | 9, _ | 10, _ => rfl
theorem car_head (hand kind fr on st head place below value : Int) (t : Ans) (s p : Int) (i : Nat) (hi : i < 11) : (fun j => if j = 4 then Value.int .i64 s else (fun j => if j = 5 then Value.int .u64 p else (fun j => carC hand kind fr on st head place below value t j) j) j) i = carC hand kind fr on s p place below value t i := by
  match i, hi with
  | 0, _ | 1, _ | 2, _ | 3, _ | 4, _ | 5, _ | 6, _ | 7, _ | 8, _ | 9, _ | 10, _ => rfl
theorem car_val (hand kind fr on st head place below value : Int) (t : Ans) (p : Int) (i : Nat) (hi : i < 11) : (fun j => if j = 8 then Value.int .u64 p else (fun j => carC hand kind fr on st head place below value t j) j) i = carC hand kind fr on st head place below p t i := by
  match i, hi with
  | 0, _ | 1, _ | 2, _ | 3, _ | 4, _ | 5, _ | 6, _ | 7, _ | 8, _ | 9, _ | 10, _ => rfl
theorem car_told (hand kind fr on st head place below value : Int) (t : Ans) (o : Bool) (p : Int) (i : Nat) (hi : i < 11) : (fun j => if j = 10 then Value.int .u64 p else (fun j => if j = 9 then Value.bool o else (fun j => carC hand kind fr on st head place below value t j) j) j) i = carC hand kind fr on st head place below value ⟨o, p⟩ i := by
  match i, hi with
  | 0, _ | 1, _ | 2, _ | 3, _ | 4, _ | 5, _ | 6, _ | 7, _ | 8, _ | 9, _ | 10, _ => rfl
theorem car_told2 (hand kind fr on st head place below value : Int) (t : Ans) (o : Bool) (p q : Int) (i : Nat) (hi : i < 11) : (fun j => if j = 10 then Value.int .u64 q else (fun j => if j = 10 then Value.int .u64 p else (fun j => if j = 9 then Value.bool o else (fun j => carC hand kind fr on st head place below value t j) j) j) j) i = carC hand kind fr on st head place below value ⟨o, q⟩ i := by
  match i, hi with
  | 0, _ | 1, _ | 2, _ | 3, _ | 4, _ | 5, _ | 6, _ | 7, _ | 8, _ | 9, _ | 10, _ => rfl
theorem car_st2 (hand kind fr on st head place below value : Int) (t : Ans) (s u : Int) (i : Nat) (hi : i < 11) : (fun j => if j = 4 then Value.int .i64 u else (fun j => if j = 4 then Value.int .i64 s else (fun j => carC hand kind fr on st head place below value t j) j) j) i = carC hand kind fr on u head place below value t i := by
  match i, hi with
  | 0, _ | 1, _ | 2, _ | 3, _ | 4, _ | 5, _ | 6, _ | 7, _ | 8, _ | 9, _ | 10, _ => rfl

set_option maxHeartbeats 4000000 in
theorem look_goes {w : World} {b bm bw n : Nat} {f f' : Nat → Int} {x : Stp} {hand kind fr on st head place below value : Int} {t : Ans} (h : w.rowIs b 130 11 (carC hand kind fr on st head place below value t)) (hm : IsMem w bm bw n f) (h1 : b ≠ bm) (h2 : b ≠ bw) (hp : 0 ≤ place ∧ place < 4294967296) {ix : Int} (hxh : 0 ≤ x.had ∧ x.had ≤ 18446744073709551615) (hix : x.had % 4294967296 = ix) 
    (hx : stepOf n f ⟨hand, 1, 2 * place, 0, 0, true⟩ = x) (hf' : wordsOf n f ⟨hand, 1, 2 * place, 0, 0, true⟩ = f') :
    Calls Try.prog 161 #[.pointer (some ⟨b, 0, none⟩), .pointer (some ⟨bm, 0, none⟩)] w fun e w' => e = .returned (.tuple #[x.val, .int .i64 0]) ∧
      w'.rowIs b 130 11 (carC hand kind fr on 2 head place ix value t) ∧ IsMem w' bm bw n f' ∧ Touch w w' (fun k => k = b ∨ k = bw) := by
  have c0 : w.cell? ⟨b, 0, none⟩ = some (.int .i64 hand) := h.cell (i := 0) (by omega)
  have c1 : w.cell? ⟨b, 1, none⟩ = some (.int .i64 kind) := h.cell (i := 1) (by omega)
  have c2 : w.cell? ⟨b, 2, none⟩ = some (.int .i64 fr) := h.cell (i := 2) (by omega)
  have c3 : w.cell? ⟨b, 3, none⟩ = some (.int .i64 on) := h.cell (i := 3) (by omega)
  have c4 : w.cell? ⟨b, 4, none⟩ = some (.int .i64 st) := h.cell (i := 4) (by omega)
  have c5 : w.cell? ⟨b, 5, none⟩ = some (.int .u64 head) := h.cell (i := 5) (by omega)
  have c6 : w.cell? ⟨b, 6, none⟩ = some (.int .i64 place) := h.cell (i := 6) (by omega)
  have c7 : w.cell? ⟨b, 7, none⟩ = some (.int .i64 below) := h.cell (i := 7) (by omega)
  have c8 : w.cell? ⟨b, 8, none⟩ = some (.int .u64 value) := h.cell (i := 8) (by omega)
  have c9 : w.cell? ⟨b, 9, none⟩ = some (.bool t.ok) := h.cell (i := 9) (by omega)
  have c10 : w.cell? ⟨b, 10, none⟩ = some (.int .u64 t.val) := h.cell (i := 10) (by omega)
  have hl := h.lt
  have lw := hm.row.lt
  have lm := hm.head.lt
  have hn3 : w.heap.size ≠ b := by omega
  have hn4 : w.heap.size ≠ bw := by omega
  have hn5 : w.heap.size ≠ bm := by omega
  obtain ⟨W1, hW1⟩ : ∃ W1, (w.alloc (.cells #[.int .i64 0, .int .i64 0, .int .i64 0, .int .u64 0, .int .u64 0, .bool false] 63)) = W1 := ⟨_, rfl⟩
  have R := hide (show W1.rowIs b 130 11 (carC hand kind fr on st head place below value t) from by
    rw [← hW1]
    skip
    repeat (first | (with_reducible refine World.rowIs.set ?_ _ _) | (with_reducible apply World.rowIs.alloc))
    exact h)
  have M := hide (show IsMem W1 bm bw n f from by
    rw [← hW1]
    repeat (first | (with_reducible apply IsMem.alloc) | ((with_reducible refine IsMem.setOther ?_ ?_ ?_ _); rotate_left; (simp; omega); (simp; omega)))
    exact hm)
  have RZ := hide (show W1.rowIs w.heap.size 63 6 zcell from by
    rw [← hW1]
    have := row0 w
    simpa using this)
  have T0 := hide (show Touch w W1 (fun k => k = b ∨ k = bw) from by
    rw [← hW1]
    repeat (first | (with_reducible apply Touch.alloc) | (with_reducible refine Touch.setCell ?_ _ ?side _; case side => simp))
    exact Touch.refl w _)
  have sz : W1.heap.size = w.heap.size + 1 := by rw [← hW1]; simp
  have HX := hide hx
  have HF := hide hf'
  have HW : Hid (0 ≤ (⟨hand, 1, 2 * place, 0, 0, true⟩ : Stp).put ∧ (⟨hand, 1, 2 * place, 0, 0, true⟩ : Stp).put ≤ 18446744073709551615) := ⟨Int.le_refl 0, by show (0 : Int) ≤ 18446744073709551615; decide⟩
  have HPL := hide hp
  have HXH := hide hxh
  have HIX := hide hix
  clear hm h hx hf' hp hxh hix
  go_enter Try.func161, Try.ntmps161
  go_wp2_with fail
  clear hW1 c0 c1 c2 c3 c4 c5 c6 c7 c8 c9 c10 
  refine RG.region (ks := [(0, 7), (1, 8), (2, 9), (3, 10), (4, 11), (5, 12), (6, 13), (7, 14), (8, 15), (9, 16), (10, 17)]) (vals := fun i => match i with
      | 0 => .pointer (some ⟨bm, 0, none⟩)
      | 1 => .pointer (some ⟨b, 0, none⟩)
      | 2 => .pointer (some ⟨b, 0, none⟩)
      | 3 => .pointer (some ⟨b, 0, none⟩)
      | 4 => .int .i64 hand
      | 5 => .pointer (some ⟨b, 0, none⟩)
      | 6 => .pointer (some ⟨b, 0, none⟩)
      | 7 => .pointer (some ⟨b, 6, none⟩)
      | 8 => .int .i64 place
      | 9 => .int .i64 (2 * place)
      | 10 => .agg #[.int .i64 x.hand, .int .i64 x.act, .int .i64 x.at_, .int .u64 x.had, .int .u64 x.put, .bool x.ok]
      | _ => undef) (x := 6) (WI := fun L v w' => RG.SW b 130 11 (carC hand kind fr on st head place below value t) bm bw n f f' x w.heap.size W1 (L 10) (L 11) (L 12) v w') (by kernel_rfl) ?gg ?bk rfl ?dd ?xx (RG.SW.start R.out M.out RZ.out) ?does ?fin
  case gg =>
    intro i o ho
    have hi : i < 13 := by have := (Array.getElem?_eq_some_iff.1 ho).1; simpa using this
    match i, hi with
    | 0, _ | 1, _ | 2, _ | 3, _ | 4, _ | 5, _ | 6, _ | 7, _ | 8, _ | 9, _ | 10, _ | 11, _ | 12, _ => injection ho with ho; subst ho; rfl
  case bk =>
    intro i o ho
    have hi : i < 13 := by have := (Array.getElem?_eq_some_iff.1 ho).1; simpa using this
    match i, hi with
    | 0, _ | 1, _ | 2, _ | 3, _ | 4, _ | 5, _ | 6, _ | 7, _ | 8, _ | 9, _ | 10, _ | 11, _ | 12, _ => injection ho with ho; subst ho; simp [Region.binds]
  case dd =>
    intro k hk
    have hk' : k < 28 := by
      simp [RetN.D] at hk
      omega
    simpa using hk'
  case xx => simp
  case does =>
    intro i o ho
    have hi : i < 13 := by have := (Array.getElem?_eq_some_iff.1 ho).1; simpa using this
    match i, hi with
    | 0, _ => injection ho with ho; subst ho; exact RG.Does.read rfl (fun L v w' h => RG.SW.skip (by decide) (by decide) (by decide) h) (fun L a w' hI hd => ex_move rfl (hI.fix 1 (Reg.notD rfl) (by decide)))
    | 1, _ => injection ho with ho; subst ho; exact RG.Does.read rfl (fun L v w' h => RG.SW.skip (by decide) (by decide) (by decide) h) (fun L a w' hI hd => ex_move rfl (hI.fix 0 (Reg.notD rfl) (by decide)))
    | 2, _ => injection ho with ho; subst ho; exact RG.Does.read rfl (fun L v w' h => RG.SW.skip (by decide) (by decide) (by decide) h) (fun L a w' hI hd => ex_nil rfl (hI.pure 1 _ _ rfl (hd ⟨1, .data⟩ (by simp) rfl)))
    | 3, _ => injection ho with ho; subst ho; exact RG.Does.read rfl (fun L v w' h => RG.SW.skip (by decide) (by decide) (by decide) h) (fun L a w' hI hd => ex_field rfl (hI.pure 2 _ _ rfl (hd ⟨2, .data⟩ (by simp) rfl)) (fieldP0 w' _))
    | 4, _ => injection ho with ho; subst ho; exact RG.Does.read rfl (fun L v w' h => RG.SW.skip (by decide) (by decide) (by decide) h) (fun L a w' hI hd => ex_load rfl (hI.pure 3 _ _ rfl (hd ⟨3, .data⟩ (by simp) rfl)) (aggI w') (hI.world.row.cell (i := 0) (by omega)))
    | 5, _ => injection ho with ho; subst ho; exact RG.Does.read rfl (fun L v w' h => RG.SW.skip (by decide) (by decide) (by decide) h) (fun L a w' hI hd => ex_move rfl (hI.fix 0 (Reg.notD rfl) (by decide)))
    | 6, _ => injection ho with ho; subst ho; exact RG.Does.read rfl (fun L v w' h => RG.SW.skip (by decide) (by decide) (by decide) h) (fun L a w' hI hd => ex_nil rfl (hI.pure 5 _ _ rfl (hd ⟨5, .data⟩ (by simp) rfl)))
    | 7, _ => injection ho with ho; subst ho; exact RG.Does.read rfl (fun L v w' h => RG.SW.skip (by decide) (by decide) (by decide) h) (fun L a w' hI hd => ex_field rfl (hI.pure 6 _ _ rfl (hd ⟨6, .data⟩ (by simp) rfl)) (fieldP6 w' _))
    | 8, _ => injection ho with ho; subst ho; exact RG.Does.read rfl (fun L v w' h => RG.SW.skip (by decide) (by decide) (by decide) h) (fun L a w' hI hd => ex_load rfl (hI.pure 7 _ _ rfl (hd ⟨7, .data⟩ (by simp) rfl)) (aggI w') (hI.world.row.cell (i := 6) (by omega)))
    | 9, _ => injection ho with ho; subst ho; exact RG.Does.ask rfl (fun L v w' h => RG.SW.skip (by decide) (by decide) (by decide) h) (fun L a w' hI hd => call1 rfl (hI.pure 8 _ _ rfl (hd ⟨8, .data⟩ (by simp) rfl)) rfl (callLink _ _)) (fun w => link_any place HPL.out.1 HPL.out.2 w)
    | 10, _ => injection ho with ho; subst ho; exact RG.Does.call rfl (fun L a w' hI hd => call6 rfl (hI.pure 0 _ _ rfl (hd ⟨0, .data⟩ (by simp) rfl)) (hI.pure 4 _ _ rfl (hd ⟨4, .data⟩ (by simp) rfl)) rfl (hI.pure 9 _ _ rfl (hd ⟨9, .data⟩ (by simp) rfl)) rfl rfl rfl (callDo _ _)) (RG.SW.calls HX.out HF.out HW.out h2 hn4 (by decide) (by decide))
    | 11, _ => injection ho with ho; subst ho; exact RG.Does.make (u := fun w' => .pointer (some ⟨w'.heap.size, 0, none⟩)) rfl rfl (fun ev w' => alloc46 rfl) (fun L v w' h hL => by have := RG.SW.make h hL; rw [← upd_same L 11 true] at this; simpa only [upd_other _ _ (show 10 ≠ 11 by decide), upd_other _ _ (show 12 ≠ 11 by decide)] using this)
    | 12, _ => injection ho with ho; subst ho; exact RG.Does.put (ls := x.cells) rfl rfl rfl size46 (by simp [Stp.cells, Value.oneCell']) (fun L a w' hI hL hd => ⟨(hI.pure 10 _ _ rfl (hd ⟨10, .data⟩ (by simp) rfl)), by obtain ⟨q, e1, e2, e3⟩ := RG.SW.put hI.world (hd ⟨10, .data⟩ (by simp) rfl) (hd ⟨11, .data⟩ (by simp) rfl) hL; exact ⟨q, 0, e1, e2, by rw [← upd_same L 12 true] at e3; simpa only [upd_other _ _ (show 10 ≠ 12 by decide), upd_other _ _ (show 11 ≠ 12 by decide)] using e3⟩⟩)
  case fin =>
    intro L a' w1 hI hall
    have hw := hI.world
    simp only [hall 10 (by decide), hall 11 (by decide), hall 12 (by decide), if_true] at hw
    obtain ⟨q, hq, hq1, hq2, _, hr⟩ := hw.own rfl
    replace hr := hr rfl
    have ea := act_all a' 28 (by rw [hI.sz]; rfl) hI.df
    simp only [List.range, List.range.loop, List.map] at ea
    rw [hI.fix 0 (Reg.notD rfl) (by decide), hI.fix 1 (Reg.notD rfl) (by decide), hI.fix 2 (Reg.notD rfl) (by decide), hI.fix 3 (Reg.notD rfl) (by decide), hI.fix 4 (Reg.notD rfl) (by decide), hI.fix 5 (Reg.notD rfl) (by decide), hI.fix 18 (Reg.notD rfl) (by decide), hI.fix 19 (Reg.notD rfl) (by decide), hI.fix 20 (Reg.notD rfl) (by decide), hI.fix 21 (Reg.notD rfl) (by decide), hI.fix 22 (Reg.notD rfl) (by decide), hI.fix 23 (Reg.notD rfl) (by decide), hI.fix 24 (Reg.notD rfl) (by decide), hI.fix 25 (Reg.notD rfl) (by decide), hI.fix 26 (Reg.notD rfl) (by decide), hI.fix 27 (Reg.notD rfl) (by decide), hq] at ea
    clear hI hall
    generalize a'.eval (.tmp 7) = u7 at ea
    generalize a'.eval (.tmp 8) = u8 at ea
    generalize a'.eval (.tmp 9) = u9 at ea
    generalize a'.eval (.tmp 10) = u10 at ea
    generalize a'.eval (.tmp 11) = u11 at ea
    generalize a'.eval (.tmp 12) = u12 at ea
    generalize a'.eval (.tmp 13) = u13 at ea
    generalize a'.eval (.tmp 14) = u14 at ea
    generalize a'.eval (.tmp 15) = u15 at ea
    generalize a'.eval (.tmp 16) = u16 at ea
    generalize a'.eval (.tmp 17) = u17 at ea
    simp only [show ∀ (ts : Array Value) (ds) (i : Nat), (Act.mk ts ds).eval (.tmp i) = ts.getD i undef from fun _ _ _ => rfl] at ea
    simp at ea
    subst ea
    have M1 := hide (show IsMem w1 bm bw n f' from by simpa using hw.mem)
    have R1 := hide hw.row
    have RR := hide hw.res
    have T1 := hide (T0.out.trans' hw.tch (fun k _ h => .inr h))
    have RQ := hide hr
    have hqb : q ≠ b := by omega
    have hqr : q ≠ w.heap.size := by omega
    have hqr' : w.heap.size ≠ q := by omega
    have hqm : q ≠ bm ∧ q ≠ bw := by omega
    have lw1 := hw.tch.size
    have l1 : b < w1.heap.size := by omega
    have l2 : w.heap.size < w1.heap.size := by omega
    clear hw hr hq
    have d0 : w1.cell? ⟨b, 0, none⟩ = some (.int .i64 hand) := R1.out.cell (i := 0) (by omega)
    have d1 : w1.cell? ⟨b, 1, none⟩ = some (.int .i64 kind) := R1.out.cell (i := 1) (by omega)
    have d2 : w1.cell? ⟨b, 2, none⟩ = some (.int .i64 fr) := R1.out.cell (i := 2) (by omega)
    have d3 : w1.cell? ⟨b, 3, none⟩ = some (.int .i64 on) := R1.out.cell (i := 3) (by omega)
    have d4 : w1.cell? ⟨b, 4, none⟩ = some (.int .i64 st) := R1.out.cell (i := 4) (by omega)
    have d5 : w1.cell? ⟨b, 5, none⟩ = some (.int .u64 head) := R1.out.cell (i := 5) (by omega)
    have d6 : w1.cell? ⟨b, 6, none⟩ = some (.int .i64 place) := R1.out.cell (i := 6) (by omega)
    have d7 : w1.cell? ⟨b, 7, none⟩ = some (.int .i64 below) := R1.out.cell (i := 7) (by omega)
    have d8 : w1.cell? ⟨b, 8, none⟩ = some (.int .u64 value) := R1.out.cell (i := 8) (by omega)
    have d9 : w1.cell? ⟨b, 9, none⟩ = some (.bool t.ok) := R1.out.cell (i := 9) (by omega)
    have d10 : w1.cell? ⟨b, 10, none⟩ = some (.int .u64 t.val) := R1.out.cell (i := 10) (by omega)
    have df0 := R1.out.frozen 0
    have df1 := R1.out.frozen 1
    have df2 := R1.out.frozen 2
    have df3 := R1.out.frozen 3
    have df4 := R1.out.frozen 4
    have df5 := R1.out.frozen 5
    have df6 := R1.out.frozen 6
    have df7 := R1.out.frozen 7
    have df8 := R1.out.frozen 8
    have df9 := R1.out.frozen 9
    have df10 := R1.out.frozen 10
    have r0 : w1.cell? ⟨w.heap.size, 0, none⟩ = some (.int .i64 0) := RR.out.cell (i := 0) (by omega)
    have rf0 := RR.out.frozen 0
    have s0 : w1.cell? ⟨q, 0, none⟩ = some (.int .i64 x.hand) := by have := RQ.out 0 _ rfl; simpa using this
    have r1 : w1.cell? ⟨w.heap.size, 1, none⟩ = some (.int .i64 0) := RR.out.cell (i := 1) (by omega)
    have rf1 := RR.out.frozen 1
    have s1 : w1.cell? ⟨q, 1, none⟩ = some (.int .i64 x.act) := by have := RQ.out 1 _ rfl; simpa using this
    have r2 : w1.cell? ⟨w.heap.size, 2, none⟩ = some (.int .i64 0) := RR.out.cell (i := 2) (by omega)
    have rf2 := RR.out.frozen 2
    have s2 : w1.cell? ⟨q, 2, none⟩ = some (.int .i64 x.at_) := by have := RQ.out 2 _ rfl; simpa using this
    have r3 : w1.cell? ⟨w.heap.size, 3, none⟩ = some (.int .u64 0) := RR.out.cell (i := 3) (by omega)
    have rf3 := RR.out.frozen 3
    have s3 : w1.cell? ⟨q, 3, none⟩ = some (.int .u64 x.had) := by have := RQ.out 3 _ rfl; simpa using this
    have r4 : w1.cell? ⟨w.heap.size, 4, none⟩ = some (.int .u64 0) := RR.out.cell (i := 4) (by omega)
    have rf4 := RR.out.frozen 4
    have s4 : w1.cell? ⟨q, 4, none⟩ = some (.int .u64 x.put) := by have := RQ.out 4 _ rfl; simpa using this
    have r5 : w1.cell? ⟨w.heap.size, 5, none⟩ = some (.bool false) := RR.out.cell (i := 5) (by omega)
    have rf5 := RR.out.frozen 5
    have s5 : w1.cell? ⟨q, 5, none⟩ = some (.bool x.ok) := by have := RQ.out 5 _ rfl; simpa using this
    go_wp2_with (go_at_call 70; refine (index_any _ HXH.out.1 (by have := HXH.out.2; omega) _).mono ?_; rintro e w' ⟨rfl, rfl⟩; rw [HIX.out])
    go_light
    refine bodyPost_ret (v := .tuple #[x.val, .int .i64 0]) ?res rfl ⟨rfl, ?row, ?mem, ?tch⟩
    case row =>
      refine World.rowIs.congr ?_ (fun i hi => car_low hand kind fr on st head place below value t 2 ix i hi)
      repeat (first | (with_reducible apply World.rowIs.alloc) | (with_reducible apply World.rowIs.drew) | (with_reducible refine World.rowIs.setOther ?_ ?side _; case side => (simp; omega)))
      with_reducible refine World.rowIs.set ?_ 4 _
      repeat (first | (with_reducible apply World.rowIs.alloc) | (with_reducible apply World.rowIs.drew) | (with_reducible refine World.rowIs.setOther ?_ ?side _; case side => (simp; omega)))
      with_reducible refine World.rowIs.set ?_ 7 _
      repeat (first | (with_reducible apply World.rowIs.alloc) | (with_reducible apply World.rowIs.drew) | (with_reducible refine World.rowIs.setOther ?_ ?side _; case side => (simp; omega)))
      with_reducible exact R1.out
    case mem =>
      repeat (first | (with_reducible apply IsMem.alloc) | (with_reducible apply IsMem.drew) | ((with_reducible refine IsMem.setOther ?_ ?_ ?_ _); rotate_left; (simp; omega); (simp; omega)))
      with_reducible exact M1.out
    case tch =>
      repeat (first | (with_reducible apply Touch.alloc) | (with_reducible apply Touch.drew) | (with_reducible refine Touch.setCell ?_ _ ?side _; case side => simp))
      with_reducible exact T1.out
    case res => simp [results, Try.results161, go_sem, Stp.val, *]

set_option maxHeartbeats 4000000 in
theorem take_goes {w : World} {b bm bw n : Nat} {f f' : Nat → Int} {x : Stp} {hand kind fr on st head place below value : Int} {t : Ans} (h : w.rowIs b 130 11 (carC hand kind fr on st head place below value t)) (hm : IsMem w bm bw n f) (h1 : b ≠ bm) (h2 : b ≠ bw) {bp : Int} (hh : 0 ≤ head ∧ head ≤ 18446744073709551615) (hbp : bump head below = bp) (hok : x.ok = true)
    (hx : stepOf n f ⟨hand, 5, fr, head, bp, true⟩ = x) (hf' : wordsOf n f ⟨hand, 5, fr, head, bp, true⟩ = f') :
    Calls Try.prog 162 #[.pointer (some ⟨b, 0, none⟩), .pointer (some ⟨bm, 0, none⟩)] w fun e w' => e = .returned (.tuple #[x.val, .int .i64 0]) ∧
      w'.rowIs b 130 11 (carC hand kind fr on 3 head place below value t) ∧ IsMem w' bm bw n f' ∧ Touch w w' (fun k => k = b ∨ k = bw) := by
  have c0 : w.cell? ⟨b, 0, none⟩ = some (.int .i64 hand) := h.cell (i := 0) (by omega)
  have c1 : w.cell? ⟨b, 1, none⟩ = some (.int .i64 kind) := h.cell (i := 1) (by omega)
  have c2 : w.cell? ⟨b, 2, none⟩ = some (.int .i64 fr) := h.cell (i := 2) (by omega)
  have c3 : w.cell? ⟨b, 3, none⟩ = some (.int .i64 on) := h.cell (i := 3) (by omega)
  have c4 : w.cell? ⟨b, 4, none⟩ = some (.int .i64 st) := h.cell (i := 4) (by omega)
  have c5 : w.cell? ⟨b, 5, none⟩ = some (.int .u64 head) := h.cell (i := 5) (by omega)
  have c6 : w.cell? ⟨b, 6, none⟩ = some (.int .i64 place) := h.cell (i := 6) (by omega)
  have c7 : w.cell? ⟨b, 7, none⟩ = some (.int .i64 below) := h.cell (i := 7) (by omega)
  have c8 : w.cell? ⟨b, 8, none⟩ = some (.int .u64 value) := h.cell (i := 8) (by omega)
  have c9 : w.cell? ⟨b, 9, none⟩ = some (.bool t.ok) := h.cell (i := 9) (by omega)
  have c10 : w.cell? ⟨b, 10, none⟩ = some (.int .u64 t.val) := h.cell (i := 10) (by omega)
  have hl := h.lt
  have lw := hm.row.lt
  have lm := hm.head.lt
  have hn3 : w.heap.size ≠ b := by omega
  have hn4 : w.heap.size ≠ bw := by omega
  have hn5 : w.heap.size ≠ bm := by omega
  obtain ⟨W1, hW1⟩ : ∃ W1, (w.alloc (.cells #[.int .i64 0, .int .i64 0, .int .i64 0, .int .u64 0, .int .u64 0, .bool false] 63)) = W1 := ⟨_, rfl⟩
  have R := hide (show W1.rowIs b 130 11 (carC hand kind fr on st head place below value t) from by
    rw [← hW1]
    skip
    repeat (first | (with_reducible refine World.rowIs.set ?_ _ _) | (with_reducible apply World.rowIs.alloc))
    exact h)
  have M := hide (show IsMem W1 bm bw n f from by
    rw [← hW1]
    repeat (first | (with_reducible apply IsMem.alloc) | ((with_reducible refine IsMem.setOther ?_ ?_ ?_ _); rotate_left; (simp; omega); (simp; omega)))
    exact hm)
  have RZ := hide (show W1.rowIs w.heap.size 63 6 zcell from by
    rw [← hW1]
    have := row0 w
    simpa using this)
  have T0 := hide (show Touch w W1 (fun k => k = b ∨ k = bw) from by
    rw [← hW1]
    repeat (first | (with_reducible apply Touch.alloc) | (with_reducible refine Touch.setCell ?_ _ ?side _; case side => simp))
    exact Touch.refl w _)
  have sz : W1.heap.size = w.heap.size + 1 := by rw [← hW1]; simp
  have HX := hide hx
  have HF := hide hf'
  have HW : Hid (0 ≤ (⟨hand, 5, fr, head, bp, true⟩ : Stp).put ∧ (⟨hand, 5, fr, head, bp, true⟩ : Stp).put ≤ 18446744073709551615) := (by rw [← hbp]; exact ⟨bump_lo _ _, bump_hi _ _⟩)
  have HHD := hide hh
  clear hm h hx hf' hh
  go_enter Try.func162, Try.ntmps162
  go_wp2_with fail
  clear hW1 c0 c1 c2 c3 c4 c5 c6 c7 c8 c9 c10 
  refine RG.region (ks := [(0, 7), (1, 8), (2, 9), (3, 10), (4, 11), (5, 12), (6, 13), (7, 14), (8, 15), (9, 16), (10, 17), (11, 18), (12, 19), (13, 20), (14, 21), (15, 22), (16, 23), (17, 24), (18, 25), (19, 26), (20, 27), (21, 28), (22, 29)]) (vals := fun i => match i with
      | 0 => .pointer (some ⟨bm, 0, none⟩)
      | 1 => .pointer (some ⟨b, 0, none⟩)
      | 2 => .pointer (some ⟨b, 0, none⟩)
      | 3 => .pointer (some ⟨b, 0, none⟩)
      | 4 => .int .i64 hand
      | 5 => .pointer (some ⟨b, 0, none⟩)
      | 6 => .pointer (some ⟨b, 0, none⟩)
      | 7 => .pointer (some ⟨b, 2, none⟩)
      | 8 => .int .i64 fr
      | 9 => .pointer (some ⟨b, 0, none⟩)
      | 10 => .pointer (some ⟨b, 0, none⟩)
      | 11 => .pointer (some ⟨b, 5, none⟩)
      | 12 => .int .u64 head
      | 13 => .pointer (some ⟨b, 0, none⟩)
      | 14 => .pointer (some ⟨b, 0, none⟩)
      | 15 => .pointer (some ⟨b, 5, none⟩)
      | 16 => .int .u64 head
      | 17 => .pointer (some ⟨b, 0, none⟩)
      | 18 => .pointer (some ⟨b, 0, none⟩)
      | 19 => .pointer (some ⟨b, 7, none⟩)
      | 20 => .int .i64 below
      | 21 => .int .u64 bp
      | 22 => .agg #[.int .i64 x.hand, .int .i64 x.act, .int .i64 x.at_, .int .u64 x.had, .int .u64 x.put, .bool x.ok]
      | _ => undef) (x := 6) (WI := fun L v w' => RG.SW b 130 11 (carC hand kind fr on st head place below value t) bm bw n f f' x w.heap.size W1 (L 22) (L 23) (L 24) v w') (by kernel_rfl) ?gg ?bk rfl ?dd ?xx (RG.SW.start R.out M.out RZ.out) ?does ?fin
  case gg =>
    intro i o ho
    have hi : i < 25 := by have := (Array.getElem?_eq_some_iff.1 ho).1; simpa using this
    match i, hi with
    | 0, _ | 1, _ | 2, _ | 3, _ | 4, _ | 5, _ | 6, _ | 7, _ | 8, _ | 9, _ | 10, _ | 11, _ | 12, _ | 13, _ | 14, _ | 15, _ | 16, _ | 17, _ | 18, _ | 19, _ | 20, _ | 21, _ | 22, _ | 23, _ | 24, _ => injection ho with ho; subst ho; rfl
  case bk =>
    intro i o ho
    have hi : i < 25 := by have := (Array.getElem?_eq_some_iff.1 ho).1; simpa using this
    match i, hi with
    | 0, _ | 1, _ | 2, _ | 3, _ | 4, _ | 5, _ | 6, _ | 7, _ | 8, _ | 9, _ | 10, _ | 11, _ | 12, _ | 13, _ | 14, _ | 15, _ | 16, _ | 17, _ | 18, _ | 19, _ | 20, _ | 21, _ | 22, _ | 23, _ | 24, _ => injection ho with ho; subst ho; simp [Region.binds]
  case dd =>
    intro k hk
    have hk' : k < 40 := by
      simp [RetN.D] at hk
      omega
    simpa using hk'
  case xx => simp
  case does =>
    intro i o ho
    have hi : i < 25 := by have := (Array.getElem?_eq_some_iff.1 ho).1; simpa using this
    match i, hi with
    | 0, _ => injection ho with ho; subst ho; exact RG.Does.read rfl (fun L v w' h => RG.SW.skip (by decide) (by decide) (by decide) h) (fun L a w' hI hd => ex_move rfl (hI.fix 1 (Reg.notD rfl) (by decide)))
    | 1, _ => injection ho with ho; subst ho; exact RG.Does.read rfl (fun L v w' h => RG.SW.skip (by decide) (by decide) (by decide) h) (fun L a w' hI hd => ex_move rfl (hI.fix 0 (Reg.notD rfl) (by decide)))
    | 2, _ => injection ho with ho; subst ho; exact RG.Does.read rfl (fun L v w' h => RG.SW.skip (by decide) (by decide) (by decide) h) (fun L a w' hI hd => ex_nil rfl (hI.pure 1 _ _ rfl (hd ⟨1, .data⟩ (by simp) rfl)))
    | 3, _ => injection ho with ho; subst ho; exact RG.Does.read rfl (fun L v w' h => RG.SW.skip (by decide) (by decide) (by decide) h) (fun L a w' hI hd => ex_field rfl (hI.pure 2 _ _ rfl (hd ⟨2, .data⟩ (by simp) rfl)) (fieldP0 w' _))
    | 4, _ => injection ho with ho; subst ho; exact RG.Does.read rfl (fun L v w' h => RG.SW.skip (by decide) (by decide) (by decide) h) (fun L a w' hI hd => ex_load rfl (hI.pure 3 _ _ rfl (hd ⟨3, .data⟩ (by simp) rfl)) (aggI w') (hI.world.row.cell (i := 0) (by omega)))
    | 5, _ => injection ho with ho; subst ho; exact RG.Does.read rfl (fun L v w' h => RG.SW.skip (by decide) (by decide) (by decide) h) (fun L a w' hI hd => ex_move rfl (hI.fix 0 (Reg.notD rfl) (by decide)))
    | 6, _ => injection ho with ho; subst ho; exact RG.Does.read rfl (fun L v w' h => RG.SW.skip (by decide) (by decide) (by decide) h) (fun L a w' hI hd => ex_nil rfl (hI.pure 5 _ _ rfl (hd ⟨5, .data⟩ (by simp) rfl)))
    | 7, _ => injection ho with ho; subst ho; exact RG.Does.read rfl (fun L v w' h => RG.SW.skip (by decide) (by decide) (by decide) h) (fun L a w' hI hd => ex_field rfl (hI.pure 6 _ _ rfl (hd ⟨6, .data⟩ (by simp) rfl)) (fieldP2 w' _))
    | 8, _ => injection ho with ho; subst ho; exact RG.Does.read rfl (fun L v w' h => RG.SW.skip (by decide) (by decide) (by decide) h) (fun L a w' hI hd => ex_load rfl (hI.pure 7 _ _ rfl (hd ⟨7, .data⟩ (by simp) rfl)) (aggI w') (hI.world.row.cell (i := 2) (by omega)))
    | 9, _ => injection ho with ho; subst ho; exact RG.Does.read rfl (fun L v w' h => RG.SW.skip (by decide) (by decide) (by decide) h) (fun L a w' hI hd => ex_move rfl (hI.fix 0 (Reg.notD rfl) (by decide)))
    | 10, _ => injection ho with ho; subst ho; exact RG.Does.read rfl (fun L v w' h => RG.SW.skip (by decide) (by decide) (by decide) h) (fun L a w' hI hd => ex_nil rfl (hI.pure 9 _ _ rfl (hd ⟨9, .data⟩ (by simp) rfl)))
    | 11, _ => injection ho with ho; subst ho; exact RG.Does.read rfl (fun L v w' h => RG.SW.skip (by decide) (by decide) (by decide) h) (fun L a w' hI hd => ex_field rfl (hI.pure 10 _ _ rfl (hd ⟨10, .data⟩ (by simp) rfl)) (fieldP5 w' _))
    | 12, _ => injection ho with ho; subst ho; exact RG.Does.read rfl (fun L v w' h => RG.SW.skip (by decide) (by decide) (by decide) h) (fun L a w' hI hd => ex_load rfl (hI.pure 11 _ _ rfl (hd ⟨11, .data⟩ (by simp) rfl)) (aggU w') (hI.world.row.cell (i := 5) (by omega)))
    | 13, _ => injection ho with ho; subst ho; exact RG.Does.read rfl (fun L v w' h => RG.SW.skip (by decide) (by decide) (by decide) h) (fun L a w' hI hd => ex_move rfl (hI.fix 0 (Reg.notD rfl) (by decide)))
    | 14, _ => injection ho with ho; subst ho; exact RG.Does.read rfl (fun L v w' h => RG.SW.skip (by decide) (by decide) (by decide) h) (fun L a w' hI hd => ex_nil rfl (hI.pure 13 _ _ rfl (hd ⟨13, .data⟩ (by simp) rfl)))
    | 15, _ => injection ho with ho; subst ho; exact RG.Does.read rfl (fun L v w' h => RG.SW.skip (by decide) (by decide) (by decide) h) (fun L a w' hI hd => ex_field rfl (hI.pure 14 _ _ rfl (hd ⟨14, .data⟩ (by simp) rfl)) (fieldP5 w' _))
    | 16, _ => injection ho with ho; subst ho; exact RG.Does.read rfl (fun L v w' h => RG.SW.skip (by decide) (by decide) (by decide) h) (fun L a w' hI hd => ex_load rfl (hI.pure 15 _ _ rfl (hd ⟨15, .data⟩ (by simp) rfl)) (aggU w') (hI.world.row.cell (i := 5) (by omega)))
    | 17, _ => injection ho with ho; subst ho; exact RG.Does.read rfl (fun L v w' h => RG.SW.skip (by decide) (by decide) (by decide) h) (fun L a w' hI hd => ex_move rfl (hI.fix 0 (Reg.notD rfl) (by decide)))
    | 18, _ => injection ho with ho; subst ho; exact RG.Does.read rfl (fun L v w' h => RG.SW.skip (by decide) (by decide) (by decide) h) (fun L a w' hI hd => ex_nil rfl (hI.pure 17 _ _ rfl (hd ⟨17, .data⟩ (by simp) rfl)))
    | 19, _ => injection ho with ho; subst ho; exact RG.Does.read rfl (fun L v w' h => RG.SW.skip (by decide) (by decide) (by decide) h) (fun L a w' hI hd => ex_field rfl (hI.pure 18 _ _ rfl (hd ⟨18, .data⟩ (by simp) rfl)) (fieldP7 w' _))
    | 20, _ => injection ho with ho; subst ho; exact RG.Does.read rfl (fun L v w' h => RG.SW.skip (by decide) (by decide) (by decide) h) (fun L a w' hI hd => ex_load rfl (hI.pure 19 _ _ rfl (hd ⟨19, .data⟩ (by simp) rfl)) (aggI w') (hI.world.row.cell (i := 7) (by omega)))
    | 21, _ => injection ho with ho; subst ho; exact RG.Does.ask rfl (fun L v w' h => RG.SW.skip (by decide) (by decide) (by decide) h) (fun L a w' hI hd => call2 rfl (hI.pure 16 _ _ rfl (hd ⟨16, .data⟩ (by simp) rfl)) (hI.pure 20 _ _ rfl (hd ⟨20, .data⟩ (by simp) rfl)) rfl (callBump _ _)) (fun w => by rw [← hbp]; exact bump_any head below (by have := HHD.out; omega) (by have := HHD.out; omega) w)
    | 22, _ => injection ho with ho; subst ho; exact RG.Does.call rfl (fun L a w' hI hd => call6 rfl (hI.pure 0 _ _ rfl (hd ⟨0, .data⟩ (by simp) rfl)) (hI.pure 4 _ _ rfl (hd ⟨4, .data⟩ (by simp) rfl)) rfl (hI.pure 8 _ _ rfl (hd ⟨8, .data⟩ (by simp) rfl)) (hI.pure 12 _ _ rfl (hd ⟨12, .data⟩ (by simp) rfl)) (hI.pure 21 _ _ rfl (hd ⟨21, .data⟩ (by simp) rfl)) rfl (callDo _ _)) (RG.SW.calls HX.out HF.out HW.out h2 hn4 (by decide) (by decide))
    | 23, _ => injection ho with ho; subst ho; exact RG.Does.make (u := fun w' => .pointer (some ⟨w'.heap.size, 0, none⟩)) rfl rfl (fun ev w' => alloc46 rfl) (fun L v w' h hL => by have := RG.SW.make h hL; rw [← upd_same L 23 true] at this; simpa only [upd_other _ _ (show 22 ≠ 23 by decide), upd_other _ _ (show 24 ≠ 23 by decide)] using this)
    | 24, _ => injection ho with ho; subst ho; exact RG.Does.put (ls := x.cells) rfl rfl rfl size46 (by simp [Stp.cells, Value.oneCell']) (fun L a w' hI hL hd => ⟨(hI.pure 22 _ _ rfl (hd ⟨22, .data⟩ (by simp) rfl)), by obtain ⟨q, e1, e2, e3⟩ := RG.SW.put hI.world (hd ⟨22, .data⟩ (by simp) rfl) (hd ⟨23, .data⟩ (by simp) rfl) hL; exact ⟨q, 0, e1, e2, by rw [← upd_same L 24 true] at e3; simpa only [upd_other _ _ (show 22 ≠ 24 by decide), upd_other _ _ (show 23 ≠ 24 by decide)] using e3⟩⟩)
  case fin =>
    intro L a' w1 hI hall
    have hw := hI.world
    simp only [hall 22 (by decide), hall 23 (by decide), hall 24 (by decide), if_true] at hw
    obtain ⟨q, hq, hq1, hq2, _, hr⟩ := hw.own rfl
    replace hr := hr rfl
    have ea := act_all a' 40 (by rw [hI.sz]; rfl) hI.df
    simp only [List.range, List.range.loop, List.map] at ea
    rw [hI.fix 0 (Reg.notD rfl) (by decide), hI.fix 1 (Reg.notD rfl) (by decide), hI.fix 2 (Reg.notD rfl) (by decide), hI.fix 3 (Reg.notD rfl) (by decide), hI.fix 4 (Reg.notD rfl) (by decide), hI.fix 5 (Reg.notD rfl) (by decide), hI.fix 30 (Reg.notD rfl) (by decide), hI.fix 31 (Reg.notD rfl) (by decide), hI.fix 32 (Reg.notD rfl) (by decide), hI.fix 33 (Reg.notD rfl) (by decide), hI.fix 34 (Reg.notD rfl) (by decide), hI.fix 35 (Reg.notD rfl) (by decide), hI.fix 36 (Reg.notD rfl) (by decide), hI.fix 37 (Reg.notD rfl) (by decide), hI.fix 38 (Reg.notD rfl) (by decide), hI.fix 39 (Reg.notD rfl) (by decide), hq] at ea
    clear hI hall
    generalize a'.eval (.tmp 7) = u7 at ea
    generalize a'.eval (.tmp 8) = u8 at ea
    generalize a'.eval (.tmp 9) = u9 at ea
    generalize a'.eval (.tmp 10) = u10 at ea
    generalize a'.eval (.tmp 11) = u11 at ea
    generalize a'.eval (.tmp 12) = u12 at ea
    generalize a'.eval (.tmp 13) = u13 at ea
    generalize a'.eval (.tmp 14) = u14 at ea
    generalize a'.eval (.tmp 15) = u15 at ea
    generalize a'.eval (.tmp 16) = u16 at ea
    generalize a'.eval (.tmp 17) = u17 at ea
    generalize a'.eval (.tmp 18) = u18 at ea
    generalize a'.eval (.tmp 19) = u19 at ea
    generalize a'.eval (.tmp 20) = u20 at ea
    generalize a'.eval (.tmp 21) = u21 at ea
    generalize a'.eval (.tmp 22) = u22 at ea
    generalize a'.eval (.tmp 23) = u23 at ea
    generalize a'.eval (.tmp 24) = u24 at ea
    generalize a'.eval (.tmp 25) = u25 at ea
    generalize a'.eval (.tmp 26) = u26 at ea
    generalize a'.eval (.tmp 27) = u27 at ea
    generalize a'.eval (.tmp 28) = u28 at ea
    generalize a'.eval (.tmp 29) = u29 at ea
    simp only [show ∀ (ts : Array Value) (ds) (i : Nat), (Act.mk ts ds).eval (.tmp i) = ts.getD i undef from fun _ _ _ => rfl] at ea
    simp at ea
    subst ea
    have M1 := hide (show IsMem w1 bm bw n f' from by simpa using hw.mem)
    have R1 := hide hw.row
    have RR := hide hw.res
    have T1 := hide (T0.out.trans' hw.tch (fun k _ h => .inr h))
    have RQ := hide hr
    have hqb : q ≠ b := by omega
    have hqr : q ≠ w.heap.size := by omega
    have hqr' : w.heap.size ≠ q := by omega
    have hqm : q ≠ bm ∧ q ≠ bw := by omega
    have lw1 := hw.tch.size
    have l1 : b < w1.heap.size := by omega
    have l2 : w.heap.size < w1.heap.size := by omega
    clear hw hr hq
    have d0 : w1.cell? ⟨b, 0, none⟩ = some (.int .i64 hand) := R1.out.cell (i := 0) (by omega)
    have d1 : w1.cell? ⟨b, 1, none⟩ = some (.int .i64 kind) := R1.out.cell (i := 1) (by omega)
    have d2 : w1.cell? ⟨b, 2, none⟩ = some (.int .i64 fr) := R1.out.cell (i := 2) (by omega)
    have d3 : w1.cell? ⟨b, 3, none⟩ = some (.int .i64 on) := R1.out.cell (i := 3) (by omega)
    have d4 : w1.cell? ⟨b, 4, none⟩ = some (.int .i64 st) := R1.out.cell (i := 4) (by omega)
    have d5 : w1.cell? ⟨b, 5, none⟩ = some (.int .u64 head) := R1.out.cell (i := 5) (by omega)
    have d6 : w1.cell? ⟨b, 6, none⟩ = some (.int .i64 place) := R1.out.cell (i := 6) (by omega)
    have d7 : w1.cell? ⟨b, 7, none⟩ = some (.int .i64 below) := R1.out.cell (i := 7) (by omega)
    have d8 : w1.cell? ⟨b, 8, none⟩ = some (.int .u64 value) := R1.out.cell (i := 8) (by omega)
    have d9 : w1.cell? ⟨b, 9, none⟩ = some (.bool t.ok) := R1.out.cell (i := 9) (by omega)
    have d10 : w1.cell? ⟨b, 10, none⟩ = some (.int .u64 t.val) := R1.out.cell (i := 10) (by omega)
    have df0 := R1.out.frozen 0
    have df1 := R1.out.frozen 1
    have df2 := R1.out.frozen 2
    have df3 := R1.out.frozen 3
    have df4 := R1.out.frozen 4
    have df5 := R1.out.frozen 5
    have df6 := R1.out.frozen 6
    have df7 := R1.out.frozen 7
    have df8 := R1.out.frozen 8
    have df9 := R1.out.frozen 9
    have df10 := R1.out.frozen 10
    have r0 : w1.cell? ⟨w.heap.size, 0, none⟩ = some (.int .i64 0) := RR.out.cell (i := 0) (by omega)
    have rf0 := RR.out.frozen 0
    have s0 : w1.cell? ⟨q, 0, none⟩ = some (.int .i64 x.hand) := by have := RQ.out 0 _ rfl; simpa using this
    have r1 : w1.cell? ⟨w.heap.size, 1, none⟩ = some (.int .i64 0) := RR.out.cell (i := 1) (by omega)
    have rf1 := RR.out.frozen 1
    have s1 : w1.cell? ⟨q, 1, none⟩ = some (.int .i64 x.act) := by have := RQ.out 1 _ rfl; simpa using this
    have r2 : w1.cell? ⟨w.heap.size, 2, none⟩ = some (.int .i64 0) := RR.out.cell (i := 2) (by omega)
    have rf2 := RR.out.frozen 2
    have s2 : w1.cell? ⟨q, 2, none⟩ = some (.int .i64 x.at_) := by have := RQ.out 2 _ rfl; simpa using this
    have r3 : w1.cell? ⟨w.heap.size, 3, none⟩ = some (.int .u64 0) := RR.out.cell (i := 3) (by omega)
    have rf3 := RR.out.frozen 3
    have s3 : w1.cell? ⟨q, 3, none⟩ = some (.int .u64 x.had) := by have := RQ.out 3 _ rfl; simpa using this
    have r4 : w1.cell? ⟨w.heap.size, 4, none⟩ = some (.int .u64 0) := RR.out.cell (i := 4) (by omega)
    have rf4 := RR.out.frozen 4
    have s4 : w1.cell? ⟨q, 4, none⟩ = some (.int .u64 x.put) := by have := RQ.out 4 _ rfl; simpa using this
    have r5 : w1.cell? ⟨w.heap.size, 5, none⟩ = some (.bool false) := RR.out.cell (i := 5) (by omega)
    have rf5 := RR.out.frozen 5
    have s5 : w1.cell? ⟨q, 5, none⟩ = some (.bool x.ok) := by have := RQ.out 5 _ rfl; simpa using this
    go_wp2_with fail
    go_light
    refine bodyPost_ret (v := .tuple #[x.val, .int .i64 0]) ?res rfl ⟨rfl, ?row, ?mem, ?tch⟩
    case row =>
      refine World.rowIs.congr ?_ (fun i hi => car_st hand kind fr on st head place below value t 3 i hi)
      repeat (first | (with_reducible apply World.rowIs.alloc) | (with_reducible apply World.rowIs.drew) | (with_reducible refine World.rowIs.setOther ?_ ?side _; case side => (simp; omega)))
      with_reducible refine World.rowIs.set ?_ 4 _
      repeat (first | (with_reducible apply World.rowIs.alloc) | (with_reducible apply World.rowIs.drew) | (with_reducible refine World.rowIs.setOther ?_ ?side _; case side => (simp; omega)))
      with_reducible exact R1.out
    case mem =>
      repeat (first | (with_reducible apply IsMem.alloc) | (with_reducible apply IsMem.drew) | ((with_reducible refine IsMem.setOther ?_ ?_ ?_ _); rotate_left; (simp; omega); (simp; omega)))
      with_reducible exact M1.out
    case tch =>
      repeat (first | (with_reducible apply Touch.alloc) | (with_reducible apply Touch.drew) | (with_reducible refine Touch.setCell ?_ _ ?side _; case side => simp))
      with_reducible exact T1.out
    case res => simp [results, Try.results162, go_sem, Stp.val, *]

set_option maxHeartbeats 4000000 in
theorem take_fails {w : World} {b bm bw n : Nat} {f f' : Nat → Int} {x : Stp} {hand kind fr on st head place below value : Int} {t : Ans} (h : w.rowIs b 130 11 (carC hand kind fr on st head place below value t)) (hm : IsMem w bm bw n f) (h1 : b ≠ bm) (h2 : b ≠ bw) {bp : Int} (hh : 0 ≤ head ∧ head ≤ 18446744073709551615) (hbp : bump head below = bp) (hok : x.ok = false)
    (hx : stepOf n f ⟨hand, 5, fr, head, bp, true⟩ = x) (hf' : wordsOf n f ⟨hand, 5, fr, head, bp, true⟩ = f') :
    Calls Try.prog 162 #[.pointer (some ⟨b, 0, none⟩), .pointer (some ⟨bm, 0, none⟩)] w fun e w' => e = .returned (.tuple #[x.val, .int .i64 0]) ∧
      w'.rowIs b 130 11 (carC hand kind fr on 0 head place below value t) ∧ IsMem w' bm bw n f' ∧ Touch w w' (fun k => k = b ∨ k = bw) := by
  have c0 : w.cell? ⟨b, 0, none⟩ = some (.int .i64 hand) := h.cell (i := 0) (by omega)
  have c1 : w.cell? ⟨b, 1, none⟩ = some (.int .i64 kind) := h.cell (i := 1) (by omega)
  have c2 : w.cell? ⟨b, 2, none⟩ = some (.int .i64 fr) := h.cell (i := 2) (by omega)
  have c3 : w.cell? ⟨b, 3, none⟩ = some (.int .i64 on) := h.cell (i := 3) (by omega)
  have c4 : w.cell? ⟨b, 4, none⟩ = some (.int .i64 st) := h.cell (i := 4) (by omega)
  have c5 : w.cell? ⟨b, 5, none⟩ = some (.int .u64 head) := h.cell (i := 5) (by omega)
  have c6 : w.cell? ⟨b, 6, none⟩ = some (.int .i64 place) := h.cell (i := 6) (by omega)
  have c7 : w.cell? ⟨b, 7, none⟩ = some (.int .i64 below) := h.cell (i := 7) (by omega)
  have c8 : w.cell? ⟨b, 8, none⟩ = some (.int .u64 value) := h.cell (i := 8) (by omega)
  have c9 : w.cell? ⟨b, 9, none⟩ = some (.bool t.ok) := h.cell (i := 9) (by omega)
  have c10 : w.cell? ⟨b, 10, none⟩ = some (.int .u64 t.val) := h.cell (i := 10) (by omega)
  have hl := h.lt
  have lw := hm.row.lt
  have lm := hm.head.lt
  have hn3 : w.heap.size ≠ b := by omega
  have hn4 : w.heap.size ≠ bw := by omega
  have hn5 : w.heap.size ≠ bm := by omega
  obtain ⟨W1, hW1⟩ : ∃ W1, (w.alloc (.cells #[.int .i64 0, .int .i64 0, .int .i64 0, .int .u64 0, .int .u64 0, .bool false] 63)) = W1 := ⟨_, rfl⟩
  have R := hide (show W1.rowIs b 130 11 (carC hand kind fr on st head place below value t) from by
    rw [← hW1]
    skip
    repeat (first | (with_reducible refine World.rowIs.set ?_ _ _) | (with_reducible apply World.rowIs.alloc))
    exact h)
  have M := hide (show IsMem W1 bm bw n f from by
    rw [← hW1]
    repeat (first | (with_reducible apply IsMem.alloc) | ((with_reducible refine IsMem.setOther ?_ ?_ ?_ _); rotate_left; (simp; omega); (simp; omega)))
    exact hm)
  have RZ := hide (show W1.rowIs w.heap.size 63 6 zcell from by
    rw [← hW1]
    have := row0 w
    simpa using this)
  have T0 := hide (show Touch w W1 (fun k => k = b ∨ k = bw) from by
    rw [← hW1]
    repeat (first | (with_reducible apply Touch.alloc) | (with_reducible refine Touch.setCell ?_ _ ?side _; case side => simp))
    exact Touch.refl w _)
  have sz : W1.heap.size = w.heap.size + 1 := by rw [← hW1]; simp
  have HX := hide hx
  have HF := hide hf'
  have HW : Hid (0 ≤ (⟨hand, 5, fr, head, bp, true⟩ : Stp).put ∧ (⟨hand, 5, fr, head, bp, true⟩ : Stp).put ≤ 18446744073709551615) := (by rw [← hbp]; exact ⟨bump_lo _ _, bump_hi _ _⟩)
  have HHD := hide hh
  clear hm h hx hf' hh
  go_enter Try.func162, Try.ntmps162
  go_wp2_with fail
  clear hW1 c0 c1 c2 c3 c4 c5 c6 c7 c8 c9 c10 
  refine RG.region (ks := [(0, 7), (1, 8), (2, 9), (3, 10), (4, 11), (5, 12), (6, 13), (7, 14), (8, 15), (9, 16), (10, 17), (11, 18), (12, 19), (13, 20), (14, 21), (15, 22), (16, 23), (17, 24), (18, 25), (19, 26), (20, 27), (21, 28), (22, 29)]) (vals := fun i => match i with
      | 0 => .pointer (some ⟨bm, 0, none⟩)
      | 1 => .pointer (some ⟨b, 0, none⟩)
      | 2 => .pointer (some ⟨b, 0, none⟩)
      | 3 => .pointer (some ⟨b, 0, none⟩)
      | 4 => .int .i64 hand
      | 5 => .pointer (some ⟨b, 0, none⟩)
      | 6 => .pointer (some ⟨b, 0, none⟩)
      | 7 => .pointer (some ⟨b, 2, none⟩)
      | 8 => .int .i64 fr
      | 9 => .pointer (some ⟨b, 0, none⟩)
      | 10 => .pointer (some ⟨b, 0, none⟩)
      | 11 => .pointer (some ⟨b, 5, none⟩)
      | 12 => .int .u64 head
      | 13 => .pointer (some ⟨b, 0, none⟩)
      | 14 => .pointer (some ⟨b, 0, none⟩)
      | 15 => .pointer (some ⟨b, 5, none⟩)
      | 16 => .int .u64 head
      | 17 => .pointer (some ⟨b, 0, none⟩)
      | 18 => .pointer (some ⟨b, 0, none⟩)
      | 19 => .pointer (some ⟨b, 7, none⟩)
      | 20 => .int .i64 below
      | 21 => .int .u64 bp
      | 22 => .agg #[.int .i64 x.hand, .int .i64 x.act, .int .i64 x.at_, .int .u64 x.had, .int .u64 x.put, .bool x.ok]
      | _ => undef) (x := 6) (WI := fun L v w' => RG.SW b 130 11 (carC hand kind fr on st head place below value t) bm bw n f f' x w.heap.size W1 (L 22) (L 23) (L 24) v w') (by kernel_rfl) ?gg ?bk rfl ?dd ?xx (RG.SW.start R.out M.out RZ.out) ?does ?fin
  case gg =>
    intro i o ho
    have hi : i < 25 := by have := (Array.getElem?_eq_some_iff.1 ho).1; simpa using this
    match i, hi with
    | 0, _ | 1, _ | 2, _ | 3, _ | 4, _ | 5, _ | 6, _ | 7, _ | 8, _ | 9, _ | 10, _ | 11, _ | 12, _ | 13, _ | 14, _ | 15, _ | 16, _ | 17, _ | 18, _ | 19, _ | 20, _ | 21, _ | 22, _ | 23, _ | 24, _ => injection ho with ho; subst ho; rfl
  case bk =>
    intro i o ho
    have hi : i < 25 := by have := (Array.getElem?_eq_some_iff.1 ho).1; simpa using this
    match i, hi with
    | 0, _ | 1, _ | 2, _ | 3, _ | 4, _ | 5, _ | 6, _ | 7, _ | 8, _ | 9, _ | 10, _ | 11, _ | 12, _ | 13, _ | 14, _ | 15, _ | 16, _ | 17, _ | 18, _ | 19, _ | 20, _ | 21, _ | 22, _ | 23, _ | 24, _ => injection ho with ho; subst ho; simp [Region.binds]
  case dd =>
    intro k hk
    have hk' : k < 40 := by
      simp [RetN.D] at hk
      omega
    simpa using hk'
  case xx => simp
  case does =>
    intro i o ho
    have hi : i < 25 := by have := (Array.getElem?_eq_some_iff.1 ho).1; simpa using this
    match i, hi with
    | 0, _ => injection ho with ho; subst ho; exact RG.Does.read rfl (fun L v w' h => RG.SW.skip (by decide) (by decide) (by decide) h) (fun L a w' hI hd => ex_move rfl (hI.fix 1 (Reg.notD rfl) (by decide)))
    | 1, _ => injection ho with ho; subst ho; exact RG.Does.read rfl (fun L v w' h => RG.SW.skip (by decide) (by decide) (by decide) h) (fun L a w' hI hd => ex_move rfl (hI.fix 0 (Reg.notD rfl) (by decide)))
    | 2, _ => injection ho with ho; subst ho; exact RG.Does.read rfl (fun L v w' h => RG.SW.skip (by decide) (by decide) (by decide) h) (fun L a w' hI hd => ex_nil rfl (hI.pure 1 _ _ rfl (hd ⟨1, .data⟩ (by simp) rfl)))
    | 3, _ => injection ho with ho; subst ho; exact RG.Does.read rfl (fun L v w' h => RG.SW.skip (by decide) (by decide) (by decide) h) (fun L a w' hI hd => ex_field rfl (hI.pure 2 _ _ rfl (hd ⟨2, .data⟩ (by simp) rfl)) (fieldP0 w' _))
    | 4, _ => injection ho with ho; subst ho; exact RG.Does.read rfl (fun L v w' h => RG.SW.skip (by decide) (by decide) (by decide) h) (fun L a w' hI hd => ex_load rfl (hI.pure 3 _ _ rfl (hd ⟨3, .data⟩ (by simp) rfl)) (aggI w') (hI.world.row.cell (i := 0) (by omega)))
    | 5, _ => injection ho with ho; subst ho; exact RG.Does.read rfl (fun L v w' h => RG.SW.skip (by decide) (by decide) (by decide) h) (fun L a w' hI hd => ex_move rfl (hI.fix 0 (Reg.notD rfl) (by decide)))
    | 6, _ => injection ho with ho; subst ho; exact RG.Does.read rfl (fun L v w' h => RG.SW.skip (by decide) (by decide) (by decide) h) (fun L a w' hI hd => ex_nil rfl (hI.pure 5 _ _ rfl (hd ⟨5, .data⟩ (by simp) rfl)))
    | 7, _ => injection ho with ho; subst ho; exact RG.Does.read rfl (fun L v w' h => RG.SW.skip (by decide) (by decide) (by decide) h) (fun L a w' hI hd => ex_field rfl (hI.pure 6 _ _ rfl (hd ⟨6, .data⟩ (by simp) rfl)) (fieldP2 w' _))
    | 8, _ => injection ho with ho; subst ho; exact RG.Does.read rfl (fun L v w' h => RG.SW.skip (by decide) (by decide) (by decide) h) (fun L a w' hI hd => ex_load rfl (hI.pure 7 _ _ rfl (hd ⟨7, .data⟩ (by simp) rfl)) (aggI w') (hI.world.row.cell (i := 2) (by omega)))
    | 9, _ => injection ho with ho; subst ho; exact RG.Does.read rfl (fun L v w' h => RG.SW.skip (by decide) (by decide) (by decide) h) (fun L a w' hI hd => ex_move rfl (hI.fix 0 (Reg.notD rfl) (by decide)))
    | 10, _ => injection ho with ho; subst ho; exact RG.Does.read rfl (fun L v w' h => RG.SW.skip (by decide) (by decide) (by decide) h) (fun L a w' hI hd => ex_nil rfl (hI.pure 9 _ _ rfl (hd ⟨9, .data⟩ (by simp) rfl)))
    | 11, _ => injection ho with ho; subst ho; exact RG.Does.read rfl (fun L v w' h => RG.SW.skip (by decide) (by decide) (by decide) h) (fun L a w' hI hd => ex_field rfl (hI.pure 10 _ _ rfl (hd ⟨10, .data⟩ (by simp) rfl)) (fieldP5 w' _))
    | 12, _ => injection ho with ho; subst ho; exact RG.Does.read rfl (fun L v w' h => RG.SW.skip (by decide) (by decide) (by decide) h) (fun L a w' hI hd => ex_load rfl (hI.pure 11 _ _ rfl (hd ⟨11, .data⟩ (by simp) rfl)) (aggU w') (hI.world.row.cell (i := 5) (by omega)))
    | 13, _ => injection ho with ho; subst ho; exact RG.Does.read rfl (fun L v w' h => RG.SW.skip (by decide) (by decide) (by decide) h) (fun L a w' hI hd => ex_move rfl (hI.fix 0 (Reg.notD rfl) (by decide)))
    | 14, _ => injection ho with ho; subst ho; exact RG.Does.read rfl (fun L v w' h => RG.SW.skip (by decide) (by decide) (by decide) h) (fun L a w' hI hd => ex_nil rfl (hI.pure 13 _ _ rfl (hd ⟨13, .data⟩ (by simp) rfl)))
    | 15, _ => injection ho with ho; subst ho; exact RG.Does.read rfl (fun L v w' h => RG.SW.skip (by decide) (by decide) (by decide) h) (fun L a w' hI hd => ex_field rfl (hI.pure 14 _ _ rfl (hd ⟨14, .data⟩ (by simp) rfl)) (fieldP5 w' _))
    | 16, _ => injection ho with ho; subst ho; exact RG.Does.read rfl (fun L v w' h => RG.SW.skip (by decide) (by decide) (by decide) h) (fun L a w' hI hd => ex_load rfl (hI.pure 15 _ _ rfl (hd ⟨15, .data⟩ (by simp) rfl)) (aggU w') (hI.world.row.cell (i := 5) (by omega)))
    | 17, _ => injection ho with ho; subst ho; exact RG.Does.read rfl (fun L v w' h => RG.SW.skip (by decide) (by decide) (by decide) h) (fun L a w' hI hd => ex_move rfl (hI.fix 0 (Reg.notD rfl) (by decide)))
    | 18, _ => injection ho with ho; subst ho; exact RG.Does.read rfl (fun L v w' h => RG.SW.skip (by decide) (by decide) (by decide) h) (fun L a w' hI hd => ex_nil rfl (hI.pure 17 _ _ rfl (hd ⟨17, .data⟩ (by simp) rfl)))
    | 19, _ => injection ho with ho; subst ho; exact RG.Does.read rfl (fun L v w' h => RG.SW.skip (by decide) (by decide) (by decide) h) (fun L a w' hI hd => ex_field rfl (hI.pure 18 _ _ rfl (hd ⟨18, .data⟩ (by simp) rfl)) (fieldP7 w' _))
    | 20, _ => injection ho with ho; subst ho; exact RG.Does.read rfl (fun L v w' h => RG.SW.skip (by decide) (by decide) (by decide) h) (fun L a w' hI hd => ex_load rfl (hI.pure 19 _ _ rfl (hd ⟨19, .data⟩ (by simp) rfl)) (aggI w') (hI.world.row.cell (i := 7) (by omega)))
    | 21, _ => injection ho with ho; subst ho; exact RG.Does.ask rfl (fun L v w' h => RG.SW.skip (by decide) (by decide) (by decide) h) (fun L a w' hI hd => call2 rfl (hI.pure 16 _ _ rfl (hd ⟨16, .data⟩ (by simp) rfl)) (hI.pure 20 _ _ rfl (hd ⟨20, .data⟩ (by simp) rfl)) rfl (callBump _ _)) (fun w => by rw [← hbp]; exact bump_any head below (by have := HHD.out; omega) (by have := HHD.out; omega) w)
    | 22, _ => injection ho with ho; subst ho; exact RG.Does.call rfl (fun L a w' hI hd => call6 rfl (hI.pure 0 _ _ rfl (hd ⟨0, .data⟩ (by simp) rfl)) (hI.pure 4 _ _ rfl (hd ⟨4, .data⟩ (by simp) rfl)) rfl (hI.pure 8 _ _ rfl (hd ⟨8, .data⟩ (by simp) rfl)) (hI.pure 12 _ _ rfl (hd ⟨12, .data⟩ (by simp) rfl)) (hI.pure 21 _ _ rfl (hd ⟨21, .data⟩ (by simp) rfl)) rfl (callDo _ _)) (RG.SW.calls HX.out HF.out HW.out h2 hn4 (by decide) (by decide))
    | 23, _ => injection ho with ho; subst ho; exact RG.Does.make (u := fun w' => .pointer (some ⟨w'.heap.size, 0, none⟩)) rfl rfl (fun ev w' => alloc46 rfl) (fun L v w' h hL => by have := RG.SW.make h hL; rw [← upd_same L 23 true] at this; simpa only [upd_other _ _ (show 22 ≠ 23 by decide), upd_other _ _ (show 24 ≠ 23 by decide)] using this)
    | 24, _ => injection ho with ho; subst ho; exact RG.Does.put (ls := x.cells) rfl rfl rfl size46 (by simp [Stp.cells, Value.oneCell']) (fun L a w' hI hL hd => ⟨(hI.pure 22 _ _ rfl (hd ⟨22, .data⟩ (by simp) rfl)), by obtain ⟨q, e1, e2, e3⟩ := RG.SW.put hI.world (hd ⟨22, .data⟩ (by simp) rfl) (hd ⟨23, .data⟩ (by simp) rfl) hL; exact ⟨q, 0, e1, e2, by rw [← upd_same L 24 true] at e3; simpa only [upd_other _ _ (show 22 ≠ 24 by decide), upd_other _ _ (show 23 ≠ 24 by decide)] using e3⟩⟩)
  case fin =>
    intro L a' w1 hI hall
    have hw := hI.world
    simp only [hall 22 (by decide), hall 23 (by decide), hall 24 (by decide), if_true] at hw
    obtain ⟨q, hq, hq1, hq2, _, hr⟩ := hw.own rfl
    replace hr := hr rfl
    have ea := act_all a' 40 (by rw [hI.sz]; rfl) hI.df
    simp only [List.range, List.range.loop, List.map] at ea
    rw [hI.fix 0 (Reg.notD rfl) (by decide), hI.fix 1 (Reg.notD rfl) (by decide), hI.fix 2 (Reg.notD rfl) (by decide), hI.fix 3 (Reg.notD rfl) (by decide), hI.fix 4 (Reg.notD rfl) (by decide), hI.fix 5 (Reg.notD rfl) (by decide), hI.fix 30 (Reg.notD rfl) (by decide), hI.fix 31 (Reg.notD rfl) (by decide), hI.fix 32 (Reg.notD rfl) (by decide), hI.fix 33 (Reg.notD rfl) (by decide), hI.fix 34 (Reg.notD rfl) (by decide), hI.fix 35 (Reg.notD rfl) (by decide), hI.fix 36 (Reg.notD rfl) (by decide), hI.fix 37 (Reg.notD rfl) (by decide), hI.fix 38 (Reg.notD rfl) (by decide), hI.fix 39 (Reg.notD rfl) (by decide), hq] at ea
    clear hI hall
    generalize a'.eval (.tmp 7) = u7 at ea
    generalize a'.eval (.tmp 8) = u8 at ea
    generalize a'.eval (.tmp 9) = u9 at ea
    generalize a'.eval (.tmp 10) = u10 at ea
    generalize a'.eval (.tmp 11) = u11 at ea
    generalize a'.eval (.tmp 12) = u12 at ea
    generalize a'.eval (.tmp 13) = u13 at ea
    generalize a'.eval (.tmp 14) = u14 at ea
    generalize a'.eval (.tmp 15) = u15 at ea
    generalize a'.eval (.tmp 16) = u16 at ea
    generalize a'.eval (.tmp 17) = u17 at ea
    generalize a'.eval (.tmp 18) = u18 at ea
    generalize a'.eval (.tmp 19) = u19 at ea
    generalize a'.eval (.tmp 20) = u20 at ea
    generalize a'.eval (.tmp 21) = u21 at ea
    generalize a'.eval (.tmp 22) = u22 at ea
    generalize a'.eval (.tmp 23) = u23 at ea
    generalize a'.eval (.tmp 24) = u24 at ea
    generalize a'.eval (.tmp 25) = u25 at ea
    generalize a'.eval (.tmp 26) = u26 at ea
    generalize a'.eval (.tmp 27) = u27 at ea
    generalize a'.eval (.tmp 28) = u28 at ea
    generalize a'.eval (.tmp 29) = u29 at ea
    simp only [show ∀ (ts : Array Value) (ds) (i : Nat), (Act.mk ts ds).eval (.tmp i) = ts.getD i undef from fun _ _ _ => rfl] at ea
    simp at ea
    subst ea
    have M1 := hide (show IsMem w1 bm bw n f' from by simpa using hw.mem)
    have R1 := hide hw.row
    have RR := hide hw.res
    have T1 := hide (T0.out.trans' hw.tch (fun k _ h => .inr h))
    have RQ := hide hr
    have hqb : q ≠ b := by omega
    have hqr : q ≠ w.heap.size := by omega
    have hqr' : w.heap.size ≠ q := by omega
    have hqm : q ≠ bm ∧ q ≠ bw := by omega
    have lw1 := hw.tch.size
    have l1 : b < w1.heap.size := by omega
    have l2 : w.heap.size < w1.heap.size := by omega
    clear hw hr hq
    have d0 : w1.cell? ⟨b, 0, none⟩ = some (.int .i64 hand) := R1.out.cell (i := 0) (by omega)
    have d1 : w1.cell? ⟨b, 1, none⟩ = some (.int .i64 kind) := R1.out.cell (i := 1) (by omega)
    have d2 : w1.cell? ⟨b, 2, none⟩ = some (.int .i64 fr) := R1.out.cell (i := 2) (by omega)
    have d3 : w1.cell? ⟨b, 3, none⟩ = some (.int .i64 on) := R1.out.cell (i := 3) (by omega)
    have d4 : w1.cell? ⟨b, 4, none⟩ = some (.int .i64 st) := R1.out.cell (i := 4) (by omega)
    have d5 : w1.cell? ⟨b, 5, none⟩ = some (.int .u64 head) := R1.out.cell (i := 5) (by omega)
    have d6 : w1.cell? ⟨b, 6, none⟩ = some (.int .i64 place) := R1.out.cell (i := 6) (by omega)
    have d7 : w1.cell? ⟨b, 7, none⟩ = some (.int .i64 below) := R1.out.cell (i := 7) (by omega)
    have d8 : w1.cell? ⟨b, 8, none⟩ = some (.int .u64 value) := R1.out.cell (i := 8) (by omega)
    have d9 : w1.cell? ⟨b, 9, none⟩ = some (.bool t.ok) := R1.out.cell (i := 9) (by omega)
    have d10 : w1.cell? ⟨b, 10, none⟩ = some (.int .u64 t.val) := R1.out.cell (i := 10) (by omega)
    have df0 := R1.out.frozen 0
    have df1 := R1.out.frozen 1
    have df2 := R1.out.frozen 2
    have df3 := R1.out.frozen 3
    have df4 := R1.out.frozen 4
    have df5 := R1.out.frozen 5
    have df6 := R1.out.frozen 6
    have df7 := R1.out.frozen 7
    have df8 := R1.out.frozen 8
    have df9 := R1.out.frozen 9
    have df10 := R1.out.frozen 10
    have r0 : w1.cell? ⟨w.heap.size, 0, none⟩ = some (.int .i64 0) := RR.out.cell (i := 0) (by omega)
    have rf0 := RR.out.frozen 0
    have s0 : w1.cell? ⟨q, 0, none⟩ = some (.int .i64 x.hand) := by have := RQ.out 0 _ rfl; simpa using this
    have r1 : w1.cell? ⟨w.heap.size, 1, none⟩ = some (.int .i64 0) := RR.out.cell (i := 1) (by omega)
    have rf1 := RR.out.frozen 1
    have s1 : w1.cell? ⟨q, 1, none⟩ = some (.int .i64 x.act) := by have := RQ.out 1 _ rfl; simpa using this
    have r2 : w1.cell? ⟨w.heap.size, 2, none⟩ = some (.int .i64 0) := RR.out.cell (i := 2) (by omega)
    have rf2 := RR.out.frozen 2
    have s2 : w1.cell? ⟨q, 2, none⟩ = some (.int .i64 x.at_) := by have := RQ.out 2 _ rfl; simpa using this
    have r3 : w1.cell? ⟨w.heap.size, 3, none⟩ = some (.int .u64 0) := RR.out.cell (i := 3) (by omega)
    have rf3 := RR.out.frozen 3
    have s3 : w1.cell? ⟨q, 3, none⟩ = some (.int .u64 x.had) := by have := RQ.out 3 _ rfl; simpa using this
    have r4 : w1.cell? ⟨w.heap.size, 4, none⟩ = some (.int .u64 0) := RR.out.cell (i := 4) (by omega)
    have rf4 := RR.out.frozen 4
    have s4 : w1.cell? ⟨q, 4, none⟩ = some (.int .u64 x.put) := by have := RQ.out 4 _ rfl; simpa using this
    have r5 : w1.cell? ⟨w.heap.size, 5, none⟩ = some (.bool false) := RR.out.cell (i := 5) (by omega)
    have rf5 := RR.out.frozen 5
    have s5 : w1.cell? ⟨q, 5, none⟩ = some (.bool x.ok) := by have := RQ.out 5 _ rfl; simpa using this
    go_wp2_with fail
    go_light
    refine bodyPost_ret (v := .tuple #[x.val, .int .i64 0]) ?res rfl ⟨rfl, ?row, ?mem, ?tch⟩
    case row =>
      refine World.rowIs.congr ?_ (fun i hi => car_st2 hand kind fr on st head place below value t 3 0 i hi)
      repeat (first | (with_reducible apply World.rowIs.alloc) | (with_reducible apply World.rowIs.drew) | (with_reducible refine World.rowIs.setOther ?_ ?side _; case side => (simp; omega)))
      with_reducible refine World.rowIs.set ?_ 4 _
      repeat (first | (with_reducible apply World.rowIs.alloc) | (with_reducible apply World.rowIs.drew) | (with_reducible refine World.rowIs.setOther ?_ ?side _; case side => (simp; omega)))
      with_reducible refine World.rowIs.set ?_ 4 _
      repeat (first | (with_reducible apply World.rowIs.alloc) | (with_reducible apply World.rowIs.drew) | (with_reducible refine World.rowIs.setOther ?_ ?side _; case side => (simp; omega)))
      with_reducible exact R1.out
    case mem =>
      repeat (first | (with_reducible apply IsMem.alloc) | (with_reducible apply IsMem.drew) | ((with_reducible refine IsMem.setOther ?_ ?_ ?_ _); rotate_left; (simp; omega); (simp; omega)))
      with_reducible exact M1.out
    case tch =>
      repeat (first | (with_reducible apply Touch.alloc) | (with_reducible apply Touch.drew) | (with_reducible refine Touch.setCell ?_ _ ?side _; case side => simp))
      with_reducible exact T1.out
    case res => simp [results, Try.results162, go_sem, Stp.val, *]

end Pile
end Go.Proofs.Ytbjlpmahomjgjaa
