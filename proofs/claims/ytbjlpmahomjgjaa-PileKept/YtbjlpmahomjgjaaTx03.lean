/-
  Lemmas: PileB.
-/
import Derived.Test.YtbjlpmahomjgjaaTx02
import Derived.Test.YtbjlpmahomjgjaaTp18
set_option linter.unusedVariables false
set_option linter.unusedSimpArgs false
set_option maxRecDepth 20000
namespace Go.Proofs.Ytbjlpmahomjgjaa
open Go.RowKit
namespace Pile

set_option maxHeartbeats 4000000 in
theorem touch_push {w : World} {b bm bw n : Nat} {f f' : Nat → Int} {x : Stp} {hand kind fr on st head place below value : Int} {t : Ans} (h : w.rowIs b 130 11 (carC hand kind fr on st head place below value t)) (hm : IsMem w bm bw n f) (h1 : b ≠ bm) (h2 : b ≠ bw) (hp : 0 ≤ place ∧ place < 4294967296) (hv : 0 ≤ value ∧ value ≤ 18446744073709551615) (hk : kind = 1)
    (hx : stepOf n f ⟨hand, 2, 2 * place + 1, 0, value, true⟩ = x) (hf' : wordsOf n f ⟨hand, 2, 2 * place + 1, 0, value, true⟩ = f') :
    Calls Try.prog 163 #[.pointer (some ⟨b, 0, none⟩), .pointer (some ⟨bm, 0, none⟩)] w fun e w' => e = .returned (.tuple #[x.val, .int .i64 0]) ∧
      w'.rowIs b 130 11 (carC hand kind fr on 4 head place below value t) ∧ IsMem w' bm bw n f' ∧ Touch w w' (fun k => k = b ∨ k = bw) := by
  have c0 : w.cell? ⟨b, 0, none⟩ = some (.int .i64 hand) := h.cell (i := 0) (by omega)
  have c1 : w.cell? ⟨b, 1, none⟩ = some (.int .i64 kind) := h.cell (i := 1) (by omega)
  have c2 : w.cell? ⟨b, 2, none⟩ = some (.int .i64 fr) := h.cell (i := 2) (by omega)
  have c3 : w.cell? ⟨b, 3, none⟩ = some (.int .i64 on) := h.cell (i := 3) (by omega)
  have c4 : w.cell? ⟨b, 4, none⟩ = some (.int .i64 st) := h.cell (i := 4) (by omega)
  have c5 : w.cell? ⟨b, 5, none⟩ = some (.int .u64 head) := h.cell (i := 5) (by omega)
  have c6 : w.cell? ⟨b, 6, none⟩ = some (.int .i64 place) := h.cell (i := 6) (by omega)
  have c7 : w.cell? ⟨b, 7, none⟩ = some (.int .i64 below) := h.cell (i := 7) (by omega)
  have c8 : w.cell? ⟨b, 8, none⟩ = some (.int .u64 value) := h.cell (i := 8) (by omega)
  have c9 : w.cell? ⟨b, 9, none⟩ = some (.bool t.ok) := h.cell (i := 9) (by omega)
  have c10 : w.cell? ⟨b, 10, none⟩ = some (.int .u64 t.val) := h.cell (i := 10) (by omega)
  have fz4 := h.frozen 4
  have hl := h.lt
  have lw := hm.row.lt
  have lm := hm.head.lt
  have hn3 : w.heap.size ≠ b := by omega
  have hn4 : w.heap.size ≠ bw := by omega
  have hn5 : w.heap.size ≠ bm := by omega
  obtain ⟨W1, hW1⟩ : ∃ W1, ((w.setCell ⟨b, 4, none⟩ (.int .i64 4)).alloc (.cells #[.int .i64 0, .int .i64 0, .int .i64 0, .int .u64 0, .int .u64 0, .bool false] 63)) = W1 := ⟨_, rfl⟩
  have R := hide (show W1.rowIs b 130 11 (carC hand kind fr on 4 head place below value t) from by
    rw [← hW1]
    refine World.rowIs.congr ?_ (fun i hi => car_st hand kind fr on st head place below value t 4 i hi)
    repeat (first | (with_reducible refine World.rowIs.set ?_ _ _) | (with_reducible apply World.rowIs.alloc))
    exact h)
  have M := hide (show IsMem W1 bm bw n f from by
    rw [← hW1]
    repeat (first | (with_reducible apply IsMem.alloc) | ((with_reducible refine IsMem.setOther ?_ ?_ ?_ _); rotate_left; (simp; omega); (simp; omega)))
    exact hm)
  have RZ := hide (show W1.rowIs w.heap.size 63 6 zcell from by
    rw [← hW1]
    have := row0 (w.setCell ⟨b, 4, none⟩ (.int .i64 4))
    simpa using this)
  have T0 := hide (show Touch w W1 (fun k => k = b ∨ k = bw) from by
    rw [← hW1]
    repeat (first | (with_reducible apply Touch.alloc) | (with_reducible refine Touch.setCell ?_ _ ?side _; case side => simp))
    exact Touch.refl w _)
  have sz : W1.heap.size = w.heap.size + 1 := by rw [← hW1]; simp
  have HX := hide hx
  have HF := hide hf'
  have HW : Hid (0 ≤ (⟨hand, 2, 2 * place + 1, 0, value, true⟩ : Stp).put ∧ (⟨hand, 2, 2 * place + 1, 0, value, true⟩ : Stp).put ≤ 18446744073709551615) := hv
  have HPL := hide hp
  subst hk
  have p1 : W1.cell? ⟨b, 1, none⟩ = some (.int .i64 1) := R.out.cell (i := 1) (by omega)
  clear hm h hx hf' hp hv
  go_enter Try.func163, Try.ntmps163
  go_wp2_with fail
  clear hW1 c0 c1 c2 c3 c4 c5 c6 c7 c8 c9 c10 fz4
  obtain ⟨dS, hdS1, hdS2⟩ := row46
  have HD := hide (And.intro hdS1 hdS2)
  clear hdS1 hdS2
  refine RG.region (ks := [(0, 15), (1, 16), (2, 17), (3, 18), (4, 19), (5, 20), (6, 21), (7, 22), (8, 23), (9, 24), (10, 25), (11, 26), (12, 27), (13, 28), (14, 29), (16, 5)]) (vals := fun i => match i with
      | 0 => .pointer (some ⟨bm, 0, none⟩)
      | 1 => .pointer (some ⟨b, 0, none⟩)
      | 2 => .pointer (some ⟨b, 0, none⟩)
      | 3 => .pointer (some ⟨b, 0, none⟩)
      | 4 => .int .i64 hand
      | 5 => .pointer (some ⟨b, 0, none⟩)
      | 6 => .pointer (some ⟨b, 0, none⟩)
      | 7 => .pointer (some ⟨b, 6, none⟩)
      | 8 => .int .i64 place
      | 9 => .int .i64 (2 * place + 1)
      | 10 => .pointer (some ⟨b, 0, none⟩)
      | 11 => .pointer (some ⟨b, 0, none⟩)
      | 12 => .pointer (some ⟨b, 8, none⟩)
      | 13 => .int .u64 value
      | 14 => .agg #[.int .i64 x.hand, .int .i64 x.act, .int .i64 x.at_, .int .u64 x.had, .int .u64 x.put, .bool x.ok]
      | 16 => .int .i64 0
      | _ => undef) (x := 2) (WI := fun L v w' => RG.SR b 130 11 (carC hand 1 fr on 4 head place below value t) bm bw n f f' x w.heap.size W1 (L 14) (L 15) w') (by kernel_rfl) ?gg ?bk rfl ?dd ?xx (RG.SR.start R.out M.out RZ.out) ?does ?fin
  case gg =>
    intro i o ho
    have hi : i < 17 := by have := (Array.getElem?_eq_some_iff.1 ho).1; simpa using this
    match i, hi with
    | 0, _ | 1, _ | 2, _ | 3, _ | 4, _ | 5, _ | 6, _ | 7, _ | 8, _ | 9, _ | 10, _ | 11, _ | 12, _ | 13, _ | 14, _ | 15, _ | 16, _ => injection ho with ho; subst ho; rfl
  case bk =>
    intro i o ho
    have hi : i < 17 := by have := (Array.getElem?_eq_some_iff.1 ho).1; simpa using this
    match i, hi with
    | 0, _ | 1, _ | 2, _ | 3, _ | 4, _ | 5, _ | 6, _ | 7, _ | 8, _ | 9, _ | 10, _ | 11, _ | 12, _ | 13, _ | 14, _ | 15, _ | 16, _ => injection ho with ho; subst ho; simp [Region.binds]
  case dd =>
    intro k hk
    have hk' : k < 47 := by
      simp [RetN.D] at hk
      omega
    simpa using hk'
  case xx => simp
  case does =>
    intro i o ho
    have hi : i < 17 := by have := (Array.getElem?_eq_some_iff.1 ho).1; simpa using this
    match i, hi with
    | 0, _ => injection ho with ho; subst ho; exact RG.Does.read rfl (fun L v w' h => RG.SR.skip (by decide) (by decide) h) (fun L a w' hI hd => ex_move rfl (hI.fix 1 (Reg.notD rfl) (by decide)))
    | 1, _ => injection ho with ho; subst ho; exact RG.Does.read rfl (fun L v w' h => RG.SR.skip (by decide) (by decide) h) (fun L a w' hI hd => ex_move rfl (hI.fix 0 (Reg.notD rfl) (by decide)))
    | 2, _ => injection ho with ho; subst ho; exact RG.Does.read rfl (fun L v w' h => RG.SR.skip (by decide) (by decide) h) (fun L a w' hI hd => ex_nil rfl (hI.pure 1 _ _ rfl (hd ⟨1, .data⟩ (by simp) rfl)))
    | 3, _ => injection ho with ho; subst ho; exact RG.Does.read rfl (fun L v w' h => RG.SR.skip (by decide) (by decide) h) (fun L a w' hI hd => ex_field rfl (hI.pure 2 _ _ rfl (hd ⟨2, .data⟩ (by simp) rfl)) (fieldP0 w' _))
    | 4, _ => injection ho with ho; subst ho; exact RG.Does.read rfl (fun L v w' h => RG.SR.skip (by decide) (by decide) h) (fun L a w' hI hd => ex_load rfl (hI.pure 3 _ _ rfl (hd ⟨3, .data⟩ (by simp) rfl)) (aggI w') (hI.world.row.cell (i := 0) (by omega)))
    | 5, _ => injection ho with ho; subst ho; exact RG.Does.read rfl (fun L v w' h => RG.SR.skip (by decide) (by decide) h) (fun L a w' hI hd => ex_move rfl (hI.fix 0 (Reg.notD rfl) (by decide)))
    | 6, _ => injection ho with ho; subst ho; exact RG.Does.read rfl (fun L v w' h => RG.SR.skip (by decide) (by decide) h) (fun L a w' hI hd => ex_nil rfl (hI.pure 5 _ _ rfl (hd ⟨5, .data⟩ (by simp) rfl)))
    | 7, _ => injection ho with ho; subst ho; exact RG.Does.read rfl (fun L v w' h => RG.SR.skip (by decide) (by decide) h) (fun L a w' hI hd => ex_field rfl (hI.pure 6 _ _ rfl (hd ⟨6, .data⟩ (by simp) rfl)) (fieldP6 w' _))
    | 8, _ => injection ho with ho; subst ho; exact RG.Does.read rfl (fun L v w' h => RG.SR.skip (by decide) (by decide) h) (fun L a w' hI hd => ex_load rfl (hI.pure 7 _ _ rfl (hd ⟨7, .data⟩ (by simp) rfl)) (aggI w') (hI.world.row.cell (i := 6) (by omega)))
    | 9, _ => injection ho with ho; subst ho; exact RG.Does.ask rfl (fun L v w' h => RG.SR.skip (by decide) (by decide) h) (fun L a w' hI hd => call1 rfl (hI.pure 8 _ _ rfl (hd ⟨8, .data⟩ (by simp) rfl)) rfl (callValue _ _)) (fun w => value_any place HPL.out.1 HPL.out.2 w)
    | 10, _ => injection ho with ho; subst ho; exact RG.Does.read rfl (fun L v w' h => RG.SR.skip (by decide) (by decide) h) (fun L a w' hI hd => ex_move rfl (hI.fix 0 (Reg.notD rfl) (by decide)))
    | 11, _ => injection ho with ho; subst ho; exact RG.Does.read rfl (fun L v w' h => RG.SR.skip (by decide) (by decide) h) (fun L a w' hI hd => ex_nil rfl (hI.pure 10 _ _ rfl (hd ⟨10, .data⟩ (by simp) rfl)))
    | 12, _ => injection ho with ho; subst ho; exact RG.Does.read rfl (fun L v w' h => RG.SR.skip (by decide) (by decide) h) (fun L a w' hI hd => ex_field rfl (hI.pure 11 _ _ rfl (hd ⟨11, .data⟩ (by simp) rfl)) (fieldP8 w' _))
    | 13, _ => injection ho with ho; subst ho; exact RG.Does.read rfl (fun L v w' h => RG.SR.skip (by decide) (by decide) h) (fun L a w' hI hd => ex_load rfl (hI.pure 12 _ _ rfl (hd ⟨12, .data⟩ (by simp) rfl)) (aggU w') (hI.world.row.cell (i := 8) (by omega)))
    | 14, _ => injection ho with ho; subst ho; exact RG.Does.call rfl (fun L a w' hI hd => call6 rfl (hI.pure 0 _ _ rfl (hd ⟨0, .data⟩ (by simp) rfl)) (hI.pure 4 _ _ rfl (hd ⟨4, .data⟩ (by simp) rfl)) rfl (hI.pure 9 _ _ rfl (hd ⟨9, .data⟩ (by simp) rfl)) rfl (hI.pure 13 _ _ rfl (hd ⟨13, .data⟩ (by simp) rfl)) rfl (callDo _ _)) (RG.SR.calls HX.out HF.out HW.out h2 hn4 (by decide))
    | 15, _ => injection ho with ho; subst ho; exact RG.Does.put (ls := x.cells) rfl rfl rfl size46 (by simp [Stp.cells, Value.oneCell']) (fun L a w' hI hL hd => ⟨(hI.pure 14 _ _ rfl (hd ⟨14, .data⟩ (by simp) rfl)), by obtain ⟨e2, e3⟩ := RG.SR.put hI.world (hd ⟨14, .data⟩ (by simp) rfl) (Ne.symm hn3) (Ne.symm hn5) (Ne.symm hn4); exact ⟨w.heap.size, 0, hI.fix 4 (Reg.notD rfl) (by decide), e2, by rw [← upd_same L 15 true] at e3; simpa only [upd_other _ _ (show 14 ≠ 15 by decide)] using e3⟩⟩)
    | 16, _ => injection ho with ho; subst ho; exact RG.Does.read rfl (fun L v w' h => RG.SR.skip (by decide) (by decide) h) (fun L a w' hI hd => ex_assign rfl rfl)
  case fin =>
    intro L a' w' hI hall
    rename_i K2 hK2
    refine hK2 _ _ ?_
    have hw := hI.world
    simp only [hall 14 (by decide), hall 15 (by decide), if_true] at hw
    have rE := hw.sto rfl
    have pE : a'.eval (.tmp 4) = .pointer (some ⟨w.heap.size, 0, none⟩) := hI.fix 4 (Reg.notD rfl) (by decide)
    have pe : a'.eval (.tmp 5) = .int .i64 0 := hI.pure 16 5 _ rfl (hall 16 (by decide))
    have hdf : a'.defers = [] := hI.df
    have hS := run_loadVar_mid (P := Try.prog) w' w.heap.size 0 _ _ dS rE HD.out.1 HD.out.2 size46
    have hres := results_ct (Q := Try.prog) (fn := Try.f163) (tmps := a'.tmps) (t := 4) (t' := 5) (W := w') (by rfl) pE hS
    rw [show a'.tmps.getD 5 undef = .int .i64 0 from pe] at hres
    go_wp2
    exact bodyPost_ret (v := .tuple #[x.val, .int .i64 0]) hres hdf ⟨rfl, hw.row, by simpa using hw.mem, T0.out.trans' hw.tch (fun k hk h => by rcases h with h | h; exact .inr h; omega)⟩

set_option maxHeartbeats 4000000 in
theorem touch_pop {w : World} {b bm bw n : Nat} {f f' : Nat → Int} {x : Stp} {hand kind fr on st head place below value : Int} {t : Ans} (h : w.rowIs b 130 11 (carC hand kind fr on st head place below value t)) (hm : IsMem w bm bw n f) (h1 : b ≠ bm) (h2 : b ≠ bw) (hp : 0 ≤ place ∧ place < 4294967296) (hk : ¬ kind = 1)
    (hx : stepOf n f ⟨hand, 1, 2 * place + 1, 0, 0, true⟩ = x) (hf' : wordsOf n f ⟨hand, 1, 2 * place + 1, 0, 0, true⟩ = f') :
    Calls Try.prog 163 #[.pointer (some ⟨b, 0, none⟩), .pointer (some ⟨bm, 0, none⟩)] w fun e w' => e = .returned (.tuple #[x.val, .int .i64 0]) ∧
      w'.rowIs b 130 11 (carC hand kind fr on 4 head place below x.had t) ∧ IsMem w' bm bw n f' ∧ Touch w w' (fun k => k = b ∨ k = bw) := by
  have c0 : w.cell? ⟨b, 0, none⟩ = some (.int .i64 hand) := h.cell (i := 0) (by omega)
  have c1 : w.cell? ⟨b, 1, none⟩ = some (.int .i64 kind) := h.cell (i := 1) (by omega)
  have c2 : w.cell? ⟨b, 2, none⟩ = some (.int .i64 fr) := h.cell (i := 2) (by omega)
  have c3 : w.cell? ⟨b, 3, none⟩ = some (.int .i64 on) := h.cell (i := 3) (by omega)
  have c4 : w.cell? ⟨b, 4, none⟩ = some (.int .i64 st) := h.cell (i := 4) (by omega)
  have c5 : w.cell? ⟨b, 5, none⟩ = some (.int .u64 head) := h.cell (i := 5) (by omega)
  have c6 : w.cell? ⟨b, 6, none⟩ = some (.int .i64 place) := h.cell (i := 6) (by omega)
  have c7 : w.cell? ⟨b, 7, none⟩ = some (.int .i64 below) := h.cell (i := 7) (by omega)
  have c8 : w.cell? ⟨b, 8, none⟩ = some (.int .u64 value) := h.cell (i := 8) (by omega)
  have c9 : w.cell? ⟨b, 9, none⟩ = some (.bool t.ok) := h.cell (i := 9) (by omega)
  have c10 : w.cell? ⟨b, 10, none⟩ = some (.int .u64 t.val) := h.cell (i := 10) (by omega)
  have fz4 := h.frozen 4
  have hl := h.lt
  have lw := hm.row.lt
  have lm := hm.head.lt
  have hn3 : w.heap.size ≠ b := by omega
  have hn4 : w.heap.size ≠ bw := by omega
  have hn5 : w.heap.size ≠ bm := by omega
  obtain ⟨W1, hW1⟩ : ∃ W1, ((w.setCell ⟨b, 4, none⟩ (.int .i64 4)).alloc (.cells #[.int .i64 0, .int .i64 0, .int .i64 0, .int .u64 0, .int .u64 0, .bool false] 63)) = W1 := ⟨_, rfl⟩
  have R := hide (show W1.rowIs b 130 11 (carC hand kind fr on 4 head place below value t) from by
    rw [← hW1]
    refine World.rowIs.congr ?_ (fun i hi => car_st hand kind fr on st head place below value t 4 i hi)
    repeat (first | (with_reducible refine World.rowIs.set ?_ _ _) | (with_reducible apply World.rowIs.alloc))
    exact h)
  have M := hide (show IsMem W1 bm bw n f from by
    rw [← hW1]
    repeat (first | (with_reducible apply IsMem.alloc) | ((with_reducible refine IsMem.setOther ?_ ?_ ?_ _); rotate_left; (simp; omega); (simp; omega)))
    exact hm)
  have RZ := hide (show W1.rowIs w.heap.size 63 6 zcell from by
    rw [← hW1]
    have := row0 (w.setCell ⟨b, 4, none⟩ (.int .i64 4))
    simpa using this)
  have T0 := hide (show Touch w W1 (fun k => k = b ∨ k = bw) from by
    rw [← hW1]
    repeat (first | (with_reducible apply Touch.alloc) | (with_reducible refine Touch.setCell ?_ _ ?side _; case side => simp))
    exact Touch.refl w _)
  have sz : W1.heap.size = w.heap.size + 1 := by rw [← hW1]; simp
  have HX := hide hx
  have HF := hide hf'
  have HW : Hid (0 ≤ (⟨hand, 1, 2 * place + 1, 0, 0, true⟩ : Stp).put ∧ (⟨hand, 1, 2 * place + 1, 0, 0, true⟩ : Stp).put ≤ 18446744073709551615) := ⟨Int.le_refl 0, by show (0 : Int) ≤ 18446744073709551615; decide⟩
  have HPL := hide hp
  have p1 : W1.cell? ⟨b, 1, none⟩ = some (.int .i64 kind) := R.out.cell (i := 1) (by omega)
  clear hm h hx hf' hp
  go_enter Try.func163, Try.ntmps163
  go_wp2_with fail
  clear hW1 c0 c1 c2 c3 c4 c5 c6 c7 c8 c9 c10 fz4
  refine RG.region (ks := [(0, 30), (1, 31), (2, 32), (3, 33), (4, 34), (5, 35), (6, 36), (7, 37), (8, 38), (9, 39), (10, 40)]) (vals := fun i => match i with
      | 0 => .pointer (some ⟨bm, 0, none⟩)
      | 1 => .pointer (some ⟨b, 0, none⟩)
      | 2 => .pointer (some ⟨b, 0, none⟩)
      | 3 => .pointer (some ⟨b, 0, none⟩)
      | 4 => .int .i64 hand
      | 5 => .pointer (some ⟨b, 0, none⟩)
      | 6 => .pointer (some ⟨b, 0, none⟩)
      | 7 => .pointer (some ⟨b, 6, none⟩)
      | 8 => .int .i64 place
      | 9 => .int .i64 (2 * place + 1)
      | 10 => .agg #[.int .i64 x.hand, .int .i64 x.act, .int .i64 x.at_, .int .u64 x.had, .int .u64 x.put, .bool x.ok]
      | _ => undef) (x := 6) (WI := fun L v w' => RG.SW b 130 11 (carC hand kind fr on 4 head place below value t) bm bw n f f' x w.heap.size W1 (L 10) (L 11) (L 12) v w') (by kernel_rfl) ?gg ?bk rfl ?dd ?xx (RG.SW.start R.out M.out RZ.out) ?does ?fin
  case gg =>
    intro i o ho
    have hi : i < 13 := by have := (Array.getElem?_eq_some_iff.1 ho).1; simpa using this
    match i, hi with
    | 0, _ | 1, _ | 2, _ | 3, _ | 4, _ | 5, _ | 6, _ | 7, _ | 8, _ | 9, _ | 10, _ | 11, _ | 12, _ => injection ho with ho; subst ho; rfl
  case bk =>
    intro i o ho
    have hi : i < 13 := by have := (Array.getElem?_eq_some_iff.1 ho).1; simpa using this
    match i, hi with
    | 0, _ | 1, _ | 2, _ | 3, _ | 4, _ | 5, _ | 6, _ | 7, _ | 8, _ | 9, _ | 10, _ | 11, _ | 12, _ => injection ho with ho; subst ho; simp [Region.binds]
  case dd =>
    intro k hk
    have hk' : k < 47 := by
      simp [RetN.D] at hk
      omega
    simpa using hk'
  case xx => simp
  case does =>
    intro i o ho
    have hi : i < 13 := by have := (Array.getElem?_eq_some_iff.1 ho).1; simpa using this
    match i, hi with
    | 0, _ => injection ho with ho; subst ho; exact RG.Does.read rfl (fun L v w' h => RG.SW.skip (by decide) (by decide) (by decide) h) (fun L a w' hI hd => ex_move rfl (hI.fix 1 (Reg.notD rfl) (by decide)))
    | 1, _ => injection ho with ho; subst ho; exact RG.Does.read rfl (fun L v w' h => RG.SW.skip (by decide) (by decide) (by decide) h) (fun L a w' hI hd => ex_move rfl (hI.fix 0 (Reg.notD rfl) (by decide)))
    | 2, _ => injection ho with ho; subst ho; exact RG.Does.read rfl (fun L v w' h => RG.SW.skip (by decide) (by decide) (by decide) h) (fun L a w' hI hd => ex_nil rfl (hI.pure 1 _ _ rfl (hd ⟨1, .data⟩ (by simp) rfl)))
    | 3, _ => injection ho with ho; subst ho; exact RG.Does.read rfl (fun L v w' h => RG.SW.skip (by decide) (by decide) (by decide) h) (fun L a w' hI hd => ex_field rfl (hI.pure 2 _ _ rfl (hd ⟨2, .data⟩ (by simp) rfl)) (fieldP0 w' _))
    | 4, _ => injection ho with ho; subst ho; exact RG.Does.read rfl (fun L v w' h => RG.SW.skip (by decide) (by decide) (by decide) h) (fun L a w' hI hd => ex_load rfl (hI.pure 3 _ _ rfl (hd ⟨3, .data⟩ (by simp) rfl)) (aggI w') (hI.world.row.cell (i := 0) (by omega)))
    | 5, _ => injection ho with ho; subst ho; exact RG.Does.read rfl (fun L v w' h => RG.SW.skip (by decide) (by decide) (by decide) h) (fun L a w' hI hd => ex_move rfl (hI.fix 0 (Reg.notD rfl) (by decide)))
    | 6, _ => injection ho with ho; subst ho; exact RG.Does.read rfl (fun L v w' h => RG.SW.skip (by decide) (by decide) (by decide) h) (fun L a w' hI hd => ex_nil rfl (hI.pure 5 _ _ rfl (hd ⟨5, .data⟩ (by simp) rfl)))
    | 7, _ => injection ho with ho; subst ho; exact RG.Does.read rfl (fun L v w' h => RG.SW.skip (by decide) (by decide) (by decide) h) (fun L a w' hI hd => ex_field rfl (hI.pure 6 _ _ rfl (hd ⟨6, .data⟩ (by simp) rfl)) (fieldP6 w' _))
    | 8, _ => injection ho with ho; subst ho; exact RG.Does.read rfl (fun L v w' h => RG.SW.skip (by decide) (by decide) (by decide) h) (fun L a w' hI hd => ex_load rfl (hI.pure 7 _ _ rfl (hd ⟨7, .data⟩ (by simp) rfl)) (aggI w') (hI.world.row.cell (i := 6) (by omega)))
    | 9, _ => injection ho with ho; subst ho; exact RG.Does.ask rfl (fun L v w' h => RG.SW.skip (by decide) (by decide) (by decide) h) (fun L a w' hI hd => call1 rfl (hI.pure 8 _ _ rfl (hd ⟨8, .data⟩ (by simp) rfl)) rfl (callValue _ _)) (fun w => value_any place HPL.out.1 HPL.out.2 w)
    | 10, _ => injection ho with ho; subst ho; exact RG.Does.call rfl (fun L a w' hI hd => call6 rfl (hI.pure 0 _ _ rfl (hd ⟨0, .data⟩ (by simp) rfl)) (hI.pure 4 _ _ rfl (hd ⟨4, .data⟩ (by simp) rfl)) rfl (hI.pure 9 _ _ rfl (hd ⟨9, .data⟩ (by simp) rfl)) rfl rfl rfl (callDo _ _)) (RG.SW.calls HX.out HF.out HW.out h2 hn4 (by decide) (by decide))
    | 11, _ => injection ho with ho; subst ho; exact RG.Does.make (u := fun w' => .pointer (some ⟨w'.heap.size, 0, none⟩)) rfl rfl (fun ev w' => alloc46 rfl) (fun L v w' h hL => by have := RG.SW.make h hL; rw [← upd_same L 11 true] at this; simpa only [upd_other _ _ (show 10 ≠ 11 by decide), upd_other _ _ (show 12 ≠ 11 by decide)] using this)
    | 12, _ => injection ho with ho; subst ho; exact RG.Does.put (ls := x.cells) rfl rfl rfl size46 (by simp [Stp.cells, Value.oneCell']) (fun L a w' hI hL hd => ⟨(hI.pure 10 _ _ rfl (hd ⟨10, .data⟩ (by simp) rfl)), by obtain ⟨q, e1, e2, e3⟩ := RG.SW.put hI.world (hd ⟨10, .data⟩ (by simp) rfl) (hd ⟨11, .data⟩ (by simp) rfl) hL; exact ⟨q, 0, e1, e2, by rw [← upd_same L 12 true] at e3; simpa only [upd_other _ _ (show 10 ≠ 12 by decide), upd_other _ _ (show 11 ≠ 12 by decide)] using e3⟩⟩)
  case fin =>
    intro L a' w1 hI hall
    have hw := hI.world
    simp only [hall 10 (by decide), hall 11 (by decide), hall 12 (by decide), if_true] at hw
    obtain ⟨q, hq, hq1, hq2, _, hr⟩ := hw.own rfl
    replace hr := hr rfl
    have ea := act_all a' 47 (by rw [hI.sz]; rfl) hI.df
    simp only [List.range, List.range.loop, List.map] at ea
    rw [hI.fix 0 (Reg.notD rfl) (by decide), hI.fix 1 (Reg.notD rfl) (by decide), hI.fix 2 (Reg.notD rfl) (by decide), hI.fix 3 (Reg.notD rfl) (by decide), hI.fix 4 (Reg.notD rfl) (by decide), hI.fix 5 (Reg.notD rfl) (by decide), hI.fix 7 (Reg.notD rfl) (by decide), hI.fix 8 (Reg.notD rfl) (by decide), hI.fix 9 (Reg.notD rfl) (by decide), hI.fix 10 (Reg.notD rfl) (by decide), hI.fix 11 (Reg.notD rfl) (by decide), hI.fix 12 (Reg.notD rfl) (by decide), hI.fix 13 (Reg.notD rfl) (by decide), hI.fix 14 (Reg.notD rfl) (by decide), hI.fix 15 (Reg.notD rfl) (by decide), hI.fix 16 (Reg.notD rfl) (by decide), hI.fix 17 (Reg.notD rfl) (by decide), hI.fix 18 (Reg.notD rfl) (by decide), hI.fix 19 (Reg.notD rfl) (by decide), hI.fix 20 (Reg.notD rfl) (by decide), hI.fix 21 (Reg.notD rfl) (by decide), hI.fix 22 (Reg.notD rfl) (by decide), hI.fix 23 (Reg.notD rfl) (by decide), hI.fix 24 (Reg.notD rfl) (by decide), hI.fix 25 (Reg.notD rfl) (by decide), hI.fix 26 (Reg.notD rfl) (by decide), hI.fix 27 (Reg.notD rfl) (by decide), hI.fix 28 (Reg.notD rfl) (by decide), hI.fix 29 (Reg.notD rfl) (by decide), hI.fix 41 (Reg.notD rfl) (by decide), hI.fix 42 (Reg.notD rfl) (by decide), hI.fix 43 (Reg.notD rfl) (by decide), hI.fix 44 (Reg.notD rfl) (by decide), hI.fix 45 (Reg.notD rfl) (by decide), hI.fix 46 (Reg.notD rfl) (by decide), hq] at ea
    clear hI hall
    generalize a'.eval (.tmp 30) = u30 at ea
    generalize a'.eval (.tmp 31) = u31 at ea
    generalize a'.eval (.tmp 32) = u32 at ea
    generalize a'.eval (.tmp 33) = u33 at ea
    generalize a'.eval (.tmp 34) = u34 at ea
    generalize a'.eval (.tmp 35) = u35 at ea
    generalize a'.eval (.tmp 36) = u36 at ea
    generalize a'.eval (.tmp 37) = u37 at ea
    generalize a'.eval (.tmp 38) = u38 at ea
    generalize a'.eval (.tmp 39) = u39 at ea
    generalize a'.eval (.tmp 40) = u40 at ea
    simp only [show ∀ (ts : Array Value) (ds) (i : Nat), (Act.mk ts ds).eval (.tmp i) = ts.getD i undef from fun _ _ _ => rfl] at ea
    simp at ea
    subst ea
    have M1 := hide (show IsMem w1 bm bw n f' from by simpa using hw.mem)
    have R1 := hide hw.row
    have RR := hide hw.res
    have T1 := hide (T0.out.trans' hw.tch (fun k _ h => .inr h))
    have RQ := hide hr
    have hqb : q ≠ b := by omega
    have hqr : q ≠ w.heap.size := by omega
    have hqr' : w.heap.size ≠ q := by omega
    have hqm : q ≠ bm ∧ q ≠ bw := by omega
    have lw1 := hw.tch.size
    have l1 : b < w1.heap.size := by omega
    have l2 : w.heap.size < w1.heap.size := by omega
    clear hw hr hq
    have d0 : w1.cell? ⟨b, 0, none⟩ = some (.int .i64 hand) := R1.out.cell (i := 0) (by omega)
    have d1 : w1.cell? ⟨b, 1, none⟩ = some (.int .i64 kind) := R1.out.cell (i := 1) (by omega)
    have d2 : w1.cell? ⟨b, 2, none⟩ = some (.int .i64 fr) := R1.out.cell (i := 2) (by omega)
    have d3 : w1.cell? ⟨b, 3, none⟩ = some (.int .i64 on) := R1.out.cell (i := 3) (by omega)
    have d4 : w1.cell? ⟨b, 4, none⟩ = some (.int .i64 4) := R1.out.cell (i := 4) (by omega)
    have d5 : w1.cell? ⟨b, 5, none⟩ = some (.int .u64 head) := R1.out.cell (i := 5) (by omega)
    have d6 : w1.cell? ⟨b, 6, none⟩ = some (.int .i64 place) := R1.out.cell (i := 6) (by omega)
    have d7 : w1.cell? ⟨b, 7, none⟩ = some (.int .i64 below) := R1.out.cell (i := 7) (by omega)
    have d8 : w1.cell? ⟨b, 8, none⟩ = some (.int .u64 value) := R1.out.cell (i := 8) (by omega)
    have d9 : w1.cell? ⟨b, 9, none⟩ = some (.bool t.ok) := R1.out.cell (i := 9) (by omega)
    have d10 : w1.cell? ⟨b, 10, none⟩ = some (.int .u64 t.val) := R1.out.cell (i := 10) (by omega)
    have df0 := R1.out.frozen 0
    have df1 := R1.out.frozen 1
    have df2 := R1.out.frozen 2
    have df3 := R1.out.frozen 3
    have df4 := R1.out.frozen 4
    have df5 := R1.out.frozen 5
    have df6 := R1.out.frozen 6
    have df7 := R1.out.frozen 7
    have df8 := R1.out.frozen 8
    have df9 := R1.out.frozen 9
    have df10 := R1.out.frozen 10
    have r0 : w1.cell? ⟨w.heap.size, 0, none⟩ = some (.int .i64 0) := RR.out.cell (i := 0) (by omega)
    have rf0 := RR.out.frozen 0
    have s0 : w1.cell? ⟨q, 0, none⟩ = some (.int .i64 x.hand) := by have := RQ.out 0 _ rfl; simpa using this
    have r1 : w1.cell? ⟨w.heap.size, 1, none⟩ = some (.int .i64 0) := RR.out.cell (i := 1) (by omega)
    have rf1 := RR.out.frozen 1
    have s1 : w1.cell? ⟨q, 1, none⟩ = some (.int .i64 x.act) := by have := RQ.out 1 _ rfl; simpa using this
    have r2 : w1.cell? ⟨w.heap.size, 2, none⟩ = some (.int .i64 0) := RR.out.cell (i := 2) (by omega)
    have rf2 := RR.out.frozen 2
    have s2 : w1.cell? ⟨q, 2, none⟩ = some (.int .i64 x.at_) := by have := RQ.out 2 _ rfl; simpa using this
    have r3 : w1.cell? ⟨w.heap.size, 3, none⟩ = some (.int .u64 0) := RR.out.cell (i := 3) (by omega)
    have rf3 := RR.out.frozen 3
    have s3 : w1.cell? ⟨q, 3, none⟩ = some (.int .u64 x.had) := by have := RQ.out 3 _ rfl; simpa using this
    have r4 : w1.cell? ⟨w.heap.size, 4, none⟩ = some (.int .u64 0) := RR.out.cell (i := 4) (by omega)
    have rf4 := RR.out.frozen 4
    have s4 : w1.cell? ⟨q, 4, none⟩ = some (.int .u64 x.put) := by have := RQ.out 4 _ rfl; simpa using this
    have r5 : w1.cell? ⟨w.heap.size, 5, none⟩ = some (.bool false) := RR.out.cell (i := 5) (by omega)
    have rf5 := RR.out.frozen 5
    have s5 : w1.cell? ⟨q, 5, none⟩ = some (.bool x.ok) := by have := RQ.out 5 _ rfl; simpa using this
    go_wp2_with fail
    go_light
    refine bodyPost_ret (v := .tuple #[x.val, .int .i64 0]) ?res rfl ⟨rfl, ?row, ?mem, ?tch⟩
    case row =>
      refine World.rowIs.congr ?_ (fun i hi => car_val hand kind fr on 4 head place below value t x.had i hi)
      repeat (first | (with_reducible apply World.rowIs.alloc) | (with_reducible apply World.rowIs.drew) | (with_reducible refine World.rowIs.setOther ?_ ?side _; case side => (simp; omega)))
      with_reducible refine World.rowIs.set ?_ 8 _
      repeat (first | (with_reducible apply World.rowIs.alloc) | (with_reducible apply World.rowIs.drew) | (with_reducible refine World.rowIs.setOther ?_ ?side _; case side => (simp; omega)))
      with_reducible exact R1.out
    case mem =>
      repeat (first | (with_reducible apply IsMem.alloc) | (with_reducible apply IsMem.drew) | ((with_reducible refine IsMem.setOther ?_ ?_ ?_ _); rotate_left; (simp; omega); (simp; omega)))
      with_reducible exact M1.out
    case tch =>
      repeat (first | (with_reducible apply Touch.alloc) | (with_reducible apply Touch.drew) | (with_reducible refine Touch.setCell ?_ _ ?side _; case side => simp))
      with_reducible exact T1.out
    case res => simp [results, Try.results163, go_sem, Stp.val, *]

set_option maxHeartbeats 4000000 in
theorem meet_goes {w : World} {b bm bw n : Nat} {f f' : Nat → Int} {x : Stp} {hand kind fr on st head place below value : Int} {t : Ans} (h : w.rowIs b 130 11 (carC hand kind fr on st head place below value t)) (hm : IsMem w bm bw n f) (h1 : b ≠ bm) (h2 : b ≠ bw) 
    (hx : stepOf n f ⟨hand, 1, on, 0, 0, true⟩ = x) (hf' : wordsOf n f ⟨hand, 1, on, 0, 0, true⟩ = f') :
    Calls Try.prog 164 #[.pointer (some ⟨b, 0, none⟩), .pointer (some ⟨bm, 0, none⟩)] w fun e w' => e = .returned (.tuple #[x.val, .int .i64 0]) ∧
      w'.rowIs b 130 11 (carC hand kind fr on 5 x.had place below value t) ∧ IsMem w' bm bw n f' ∧ Touch w w' (fun k => k = b ∨ k = bw) := by
  have c0 : w.cell? ⟨b, 0, none⟩ = some (.int .i64 hand) := h.cell (i := 0) (by omega)
  have c1 : w.cell? ⟨b, 1, none⟩ = some (.int .i64 kind) := h.cell (i := 1) (by omega)
  have c2 : w.cell? ⟨b, 2, none⟩ = some (.int .i64 fr) := h.cell (i := 2) (by omega)
  have c3 : w.cell? ⟨b, 3, none⟩ = some (.int .i64 on) := h.cell (i := 3) (by omega)
  have c4 : w.cell? ⟨b, 4, none⟩ = some (.int .i64 st) := h.cell (i := 4) (by omega)
  have c5 : w.cell? ⟨b, 5, none⟩ = some (.int .u64 head) := h.cell (i := 5) (by omega)
  have c6 : w.cell? ⟨b, 6, none⟩ = some (.int .i64 place) := h.cell (i := 6) (by omega)
  have c7 : w.cell? ⟨b, 7, none⟩ = some (.int .i64 below) := h.cell (i := 7) (by omega)
  have c8 : w.cell? ⟨b, 8, none⟩ = some (.int .u64 value) := h.cell (i := 8) (by omega)
  have c9 : w.cell? ⟨b, 9, none⟩ = some (.bool t.ok) := h.cell (i := 9) (by omega)
  have c10 : w.cell? ⟨b, 10, none⟩ = some (.int .u64 t.val) := h.cell (i := 10) (by omega)
  have hl := h.lt
  have lw := hm.row.lt
  have lm := hm.head.lt
  have hn3 : w.heap.size ≠ b := by omega
  have hn4 : w.heap.size ≠ bw := by omega
  have hn5 : w.heap.size ≠ bm := by omega
  obtain ⟨W1, hW1⟩ : ∃ W1, (w.alloc (.cells #[.int .i64 0, .int .i64 0, .int .i64 0, .int .u64 0, .int .u64 0, .bool false] 63)) = W1 := ⟨_, rfl⟩
  have R := hide (show W1.rowIs b 130 11 (carC hand kind fr on st head place below value t) from by
    rw [← hW1]
    skip
    repeat (first | (with_reducible refine World.rowIs.set ?_ _ _) | (with_reducible apply World.rowIs.alloc))
    exact h)
  have M := hide (show IsMem W1 bm bw n f from by
    rw [← hW1]
    repeat (first | (with_reducible apply IsMem.alloc) | ((with_reducible refine IsMem.setOther ?_ ?_ ?_ _); rotate_left; (simp; omega); (simp; omega)))
    exact hm)
  have RZ := hide (show W1.rowIs w.heap.size 63 6 zcell from by
    rw [← hW1]
    have := row0 w
    simpa using this)
  have T0 := hide (show Touch w W1 (fun k => k = b ∨ k = bw) from by
    rw [← hW1]
    repeat (first | (with_reducible apply Touch.alloc) | (with_reducible refine Touch.setCell ?_ _ ?side _; case side => simp))
    exact Touch.refl w _)
  have sz : W1.heap.size = w.heap.size + 1 := by rw [← hW1]; simp
  have HX := hide hx
  have HF := hide hf'
  have HW : Hid (0 ≤ (⟨hand, 1, on, 0, 0, true⟩ : Stp).put ∧ (⟨hand, 1, on, 0, 0, true⟩ : Stp).put ≤ 18446744073709551615) := ⟨Int.le_refl 0, by show (0 : Int) ≤ 18446744073709551615; decide⟩
  clear hm h hx hf' 
  go_enter Try.func164, Try.ntmps164
  go_wp2_with fail
  clear hW1 c0 c1 c2 c3 c4 c5 c6 c7 c8 c9 c10 
  refine RG.region (ks := [(0, 7), (1, 8), (2, 9), (3, 10), (4, 11), (5, 12), (6, 13), (7, 14), (8, 15), (9, 16)]) (vals := fun i => match i with
      | 0 => .pointer (some ⟨bm, 0, none⟩)
      | 1 => .pointer (some ⟨b, 0, none⟩)
      | 2 => .pointer (some ⟨b, 0, none⟩)
      | 3 => .pointer (some ⟨b, 0, none⟩)
      | 4 => .int .i64 hand
      | 5 => .pointer (some ⟨b, 0, none⟩)
      | 6 => .pointer (some ⟨b, 0, none⟩)
      | 7 => .pointer (some ⟨b, 3, none⟩)
      | 8 => .int .i64 on
      | 9 => .agg #[.int .i64 x.hand, .int .i64 x.act, .int .i64 x.at_, .int .u64 x.had, .int .u64 x.put, .bool x.ok]
      | _ => undef) (x := 6) (WI := fun L v w' => RG.SW b 130 11 (carC hand kind fr on st head place below value t) bm bw n f f' x w.heap.size W1 (L 9) (L 10) (L 11) v w') (by kernel_rfl) ?gg ?bk rfl ?dd ?xx (RG.SW.start R.out M.out RZ.out) ?does ?fin
  case gg =>
    intro i o ho
    have hi : i < 12 := by have := (Array.getElem?_eq_some_iff.1 ho).1; simpa using this
    match i, hi with
    | 0, _ | 1, _ | 2, _ | 3, _ | 4, _ | 5, _ | 6, _ | 7, _ | 8, _ | 9, _ | 10, _ | 11, _ => injection ho with ho; subst ho; rfl
  case bk =>
    intro i o ho
    have hi : i < 12 := by have := (Array.getElem?_eq_some_iff.1 ho).1; simpa using this
    match i, hi with
    | 0, _ | 1, _ | 2, _ | 3, _ | 4, _ | 5, _ | 6, _ | 7, _ | 8, _ | 9, _ | 10, _ | 11, _ => injection ho with ho; subst ho; simp [Region.binds]
  case dd =>
    intro k hk
    have hk' : k < 26 := by
      simp [RetN.D] at hk
      omega
    simpa using hk'
  case xx => simp
  case does =>
    intro i o ho
    have hi : i < 12 := by have := (Array.getElem?_eq_some_iff.1 ho).1; simpa using this
    match i, hi with
    | 0, _ => injection ho with ho; subst ho; exact RG.Does.read rfl (fun L v w' h => RG.SW.skip (by decide) (by decide) (by decide) h) (fun L a w' hI hd => ex_move rfl (hI.fix 1 (Reg.notD rfl) (by decide)))
    | 1, _ => injection ho with ho; subst ho; exact RG.Does.read rfl (fun L v w' h => RG.SW.skip (by decide) (by decide) (by decide) h) (fun L a w' hI hd => ex_move rfl (hI.fix 0 (Reg.notD rfl) (by decide)))
    | 2, _ => injection ho with ho; subst ho; exact RG.Does.read rfl (fun L v w' h => RG.SW.skip (by decide) (by decide) (by decide) h) (fun L a w' hI hd => ex_nil rfl (hI.pure 1 _ _ rfl (hd ⟨1, .data⟩ (by simp) rfl)))
    | 3, _ => injection ho with ho; subst ho; exact RG.Does.read rfl (fun L v w' h => RG.SW.skip (by decide) (by decide) (by decide) h) (fun L a w' hI hd => ex_field rfl (hI.pure 2 _ _ rfl (hd ⟨2, .data⟩ (by simp) rfl)) (fieldP0 w' _))
    | 4, _ => injection ho with ho; subst ho; exact RG.Does.read rfl (fun L v w' h => RG.SW.skip (by decide) (by decide) (by decide) h) (fun L a w' hI hd => ex_load rfl (hI.pure 3 _ _ rfl (hd ⟨3, .data⟩ (by simp) rfl)) (aggI w') (hI.world.row.cell (i := 0) (by omega)))
    | 5, _ => injection ho with ho; subst ho; exact RG.Does.read rfl (fun L v w' h => RG.SW.skip (by decide) (by decide) (by decide) h) (fun L a w' hI hd => ex_move rfl (hI.fix 0 (Reg.notD rfl) (by decide)))
    | 6, _ => injection ho with ho; subst ho; exact RG.Does.read rfl (fun L v w' h => RG.SW.skip (by decide) (by decide) (by decide) h) (fun L a w' hI hd => ex_nil rfl (hI.pure 5 _ _ rfl (hd ⟨5, .data⟩ (by simp) rfl)))
    | 7, _ => injection ho with ho; subst ho; exact RG.Does.read rfl (fun L v w' h => RG.SW.skip (by decide) (by decide) (by decide) h) (fun L a w' hI hd => ex_field rfl (hI.pure 6 _ _ rfl (hd ⟨6, .data⟩ (by simp) rfl)) (fieldP3 w' _))
    | 8, _ => injection ho with ho; subst ho; exact RG.Does.read rfl (fun L v w' h => RG.SW.skip (by decide) (by decide) (by decide) h) (fun L a w' hI hd => ex_load rfl (hI.pure 7 _ _ rfl (hd ⟨7, .data⟩ (by simp) rfl)) (aggI w') (hI.world.row.cell (i := 3) (by omega)))
    | 9, _ => injection ho with ho; subst ho; exact RG.Does.call rfl (fun L a w' hI hd => call6 rfl (hI.pure 0 _ _ rfl (hd ⟨0, .data⟩ (by simp) rfl)) (hI.pure 4 _ _ rfl (hd ⟨4, .data⟩ (by simp) rfl)) rfl (hI.pure 8 _ _ rfl (hd ⟨8, .data⟩ (by simp) rfl)) rfl rfl rfl (callDo _ _)) (RG.SW.calls HX.out HF.out HW.out h2 hn4 (by decide) (by decide))
    | 10, _ => injection ho with ho; subst ho; exact RG.Does.make (u := fun w' => .pointer (some ⟨w'.heap.size, 0, none⟩)) rfl rfl (fun ev w' => alloc46 rfl) (fun L v w' h hL => by have := RG.SW.make h hL; rw [← upd_same L 10 true] at this; simpa only [upd_other _ _ (show 9 ≠ 10 by decide), upd_other _ _ (show 11 ≠ 10 by decide)] using this)
    | 11, _ => injection ho with ho; subst ho; exact RG.Does.put (ls := x.cells) rfl rfl rfl size46 (by simp [Stp.cells, Value.oneCell']) (fun L a w' hI hL hd => ⟨(hI.pure 9 _ _ rfl (hd ⟨9, .data⟩ (by simp) rfl)), by obtain ⟨q, e1, e2, e3⟩ := RG.SW.put hI.world (hd ⟨9, .data⟩ (by simp) rfl) (hd ⟨10, .data⟩ (by simp) rfl) hL; exact ⟨q, 0, e1, e2, by rw [← upd_same L 11 true] at e3; simpa only [upd_other _ _ (show 9 ≠ 11 by decide), upd_other _ _ (show 10 ≠ 11 by decide)] using e3⟩⟩)
  case fin =>
    intro L a' w1 hI hall
    have hw := hI.world
    simp only [hall 9 (by decide), hall 10 (by decide), hall 11 (by decide), if_true] at hw
    obtain ⟨q, hq, hq1, hq2, _, hr⟩ := hw.own rfl
    replace hr := hr rfl
    have ea := act_all a' 26 (by rw [hI.sz]; rfl) hI.df
    simp only [List.range, List.range.loop, List.map] at ea
    rw [hI.fix 0 (Reg.notD rfl) (by decide), hI.fix 1 (Reg.notD rfl) (by decide), hI.fix 2 (Reg.notD rfl) (by decide), hI.fix 3 (Reg.notD rfl) (by decide), hI.fix 4 (Reg.notD rfl) (by decide), hI.fix 5 (Reg.notD rfl) (by decide), hI.fix 17 (Reg.notD rfl) (by decide), hI.fix 18 (Reg.notD rfl) (by decide), hI.fix 19 (Reg.notD rfl) (by decide), hI.fix 20 (Reg.notD rfl) (by decide), hI.fix 21 (Reg.notD rfl) (by decide), hI.fix 22 (Reg.notD rfl) (by decide), hI.fix 23 (Reg.notD rfl) (by decide), hI.fix 24 (Reg.notD rfl) (by decide), hI.fix 25 (Reg.notD rfl) (by decide), hq] at ea
    clear hI hall
    generalize a'.eval (.tmp 7) = u7 at ea
    generalize a'.eval (.tmp 8) = u8 at ea
    generalize a'.eval (.tmp 9) = u9 at ea
    generalize a'.eval (.tmp 10) = u10 at ea
    generalize a'.eval (.tmp 11) = u11 at ea
    generalize a'.eval (.tmp 12) = u12 at ea
    generalize a'.eval (.tmp 13) = u13 at ea
    generalize a'.eval (.tmp 14) = u14 at ea
    generalize a'.eval (.tmp 15) = u15 at ea
    generalize a'.eval (.tmp 16) = u16 at ea
    simp only [show ∀ (ts : Array Value) (ds) (i : Nat), (Act.mk ts ds).eval (.tmp i) = ts.getD i undef from fun _ _ _ => rfl] at ea
    simp at ea
    subst ea
    have M1 := hide (show IsMem w1 bm bw n f' from by simpa using hw.mem)
    have R1 := hide hw.row
    have RR := hide hw.res
    have T1 := hide (T0.out.trans' hw.tch (fun k _ h => .inr h))
    have RQ := hide hr
    have hqb : q ≠ b := by omega
    have hqr : q ≠ w.heap.size := by omega
    have hqr' : w.heap.size ≠ q := by omega
    have hqm : q ≠ bm ∧ q ≠ bw := by omega
    have lw1 := hw.tch.size
    have l1 : b < w1.heap.size := by omega
    have l2 : w.heap.size < w1.heap.size := by omega
    clear hw hr hq
    have d0 : w1.cell? ⟨b, 0, none⟩ = some (.int .i64 hand) := R1.out.cell (i := 0) (by omega)
    have d1 : w1.cell? ⟨b, 1, none⟩ = some (.int .i64 kind) := R1.out.cell (i := 1) (by omega)
    have d2 : w1.cell? ⟨b, 2, none⟩ = some (.int .i64 fr) := R1.out.cell (i := 2) (by omega)
    have d3 : w1.cell? ⟨b, 3, none⟩ = some (.int .i64 on) := R1.out.cell (i := 3) (by omega)
    have d4 : w1.cell? ⟨b, 4, none⟩ = some (.int .i64 st) := R1.out.cell (i := 4) (by omega)
    have d5 : w1.cell? ⟨b, 5, none⟩ = some (.int .u64 head) := R1.out.cell (i := 5) (by omega)
    have d6 : w1.cell? ⟨b, 6, none⟩ = some (.int .i64 place) := R1.out.cell (i := 6) (by omega)
    have d7 : w1.cell? ⟨b, 7, none⟩ = some (.int .i64 below) := R1.out.cell (i := 7) (by omega)
    have d8 : w1.cell? ⟨b, 8, none⟩ = some (.int .u64 value) := R1.out.cell (i := 8) (by omega)
    have d9 : w1.cell? ⟨b, 9, none⟩ = some (.bool t.ok) := R1.out.cell (i := 9) (by omega)
    have d10 : w1.cell? ⟨b, 10, none⟩ = some (.int .u64 t.val) := R1.out.cell (i := 10) (by omega)
    have df0 := R1.out.frozen 0
    have df1 := R1.out.frozen 1
    have df2 := R1.out.frozen 2
    have df3 := R1.out.frozen 3
    have df4 := R1.out.frozen 4
    have df5 := R1.out.frozen 5
    have df6 := R1.out.frozen 6
    have df7 := R1.out.frozen 7
    have df8 := R1.out.frozen 8
    have df9 := R1.out.frozen 9
    have df10 := R1.out.frozen 10
    have r0 : w1.cell? ⟨w.heap.size, 0, none⟩ = some (.int .i64 0) := RR.out.cell (i := 0) (by omega)
    have rf0 := RR.out.frozen 0
    have s0 : w1.cell? ⟨q, 0, none⟩ = some (.int .i64 x.hand) := by have := RQ.out 0 _ rfl; simpa using this
    have r1 : w1.cell? ⟨w.heap.size, 1, none⟩ = some (.int .i64 0) := RR.out.cell (i := 1) (by omega)
    have rf1 := RR.out.frozen 1
    have s1 : w1.cell? ⟨q, 1, none⟩ = some (.int .i64 x.act) := by have := RQ.out 1 _ rfl; simpa using this
    have r2 : w1.cell? ⟨w.heap.size, 2, none⟩ = some (.int .i64 0) := RR.out.cell (i := 2) (by omega)
    have rf2 := RR.out.frozen 2
    have s2 : w1.cell? ⟨q, 2, none⟩ = some (.int .i64 x.at_) := by have := RQ.out 2 _ rfl; simpa using this
    have r3 : w1.cell? ⟨w.heap.size, 3, none⟩ = some (.int .u64 0) := RR.out.cell (i := 3) (by omega)
    have rf3 := RR.out.frozen 3
    have s3 : w1.cell? ⟨q, 3, none⟩ = some (.int .u64 x.had) := by have := RQ.out 3 _ rfl; simpa using this
    have r4 : w1.cell? ⟨w.heap.size, 4, none⟩ = some (.int .u64 0) := RR.out.cell (i := 4) (by omega)
    have rf4 := RR.out.frozen 4
    have s4 : w1.cell? ⟨q, 4, none⟩ = some (.int .u64 x.put) := by have := RQ.out 4 _ rfl; simpa using this
    have r5 : w1.cell? ⟨w.heap.size, 5, none⟩ = some (.bool false) := RR.out.cell (i := 5) (by omega)
    have rf5 := RR.out.frozen 5
    have s5 : w1.cell? ⟨q, 5, none⟩ = some (.bool x.ok) := by have := RQ.out 5 _ rfl; simpa using this
    go_wp2_with fail
    go_light
    refine bodyPost_ret (v := .tuple #[x.val, .int .i64 0]) ?res rfl ⟨rfl, ?row, ?mem, ?tch⟩
    case row =>
      refine World.rowIs.congr ?_ (fun i hi => car_head hand kind fr on st head place below value t 5 x.had i hi)
      repeat (first | (with_reducible apply World.rowIs.alloc) | (with_reducible apply World.rowIs.drew) | (with_reducible refine World.rowIs.setOther ?_ ?side _; case side => (simp; omega)))
      with_reducible refine World.rowIs.set ?_ 4 _
      repeat (first | (with_reducible apply World.rowIs.alloc) | (with_reducible apply World.rowIs.drew) | (with_reducible refine World.rowIs.setOther ?_ ?side _; case side => (simp; omega)))
      with_reducible refine World.rowIs.set ?_ 5 _
      repeat (first | (with_reducible apply World.rowIs.alloc) | (with_reducible apply World.rowIs.drew) | (with_reducible refine World.rowIs.setOther ?_ ?side _; case side => (simp; omega)))
      with_reducible exact R1.out
    case mem =>
      repeat (first | (with_reducible apply IsMem.alloc) | (with_reducible apply IsMem.drew) | ((with_reducible refine IsMem.setOther ?_ ?_ ?_ _); rotate_left; (simp; omega); (simp; omega)))
      with_reducible exact M1.out
    case tch =>
      repeat (first | (with_reducible apply Touch.alloc) | (with_reducible apply Touch.drew) | (with_reducible refine Touch.setCell ?_ _ ?side _; case side => simp))
      with_reducible exact T1.out
    case res => simp [results, Try.results164, go_sem, Stp.val, *]

end Pile
end Go.Proofs.Ytbjlpmahomjgjaa
