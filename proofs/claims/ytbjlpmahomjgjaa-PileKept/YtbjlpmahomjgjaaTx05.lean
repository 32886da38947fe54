/-
  Lemmas: PileF.
-/
import Derived.Test.YtbjlpmahomjgjaaTx02
set_option linter.unusedVariables false
set_option linter.unusedSimpArgs false
set_option maxRecDepth 20000
namespace Go.Proofs.Ytbjlpmahomjgjaa
open Go.RowKit
namespace Pile


/-- The worlds in which find's head (s1) and place (s2) are written. -/
structure FW (b bm bw n : Nat) (f' : Nat → Int) (x : Stp) (r q : Nat) (hand kind fr on st head place below value ix : Int) (t : Ans) (w1 : World) (s1 s2 : Bool) (w : World) : Prop where
  row : w.rowIs b 130 11 (carC hand kind fr on st (if s1 = true then x.had else head) (if s2 = true then ix else place) below value t)
  mem : IsMem w bm bw n f'
  res : w.rowIs r 63 6 zcell
  rq : w.rangeAt q 0 x.cells
  lq : q < w.heap.size
  tch : Touch w1 w (fun k => k = b)
section
variable {b bm bw n : Nat} {f' : Nat → Int} {x : Stp} {r q : Nat} {hand kind fr on st head place below value ix : Int} {t : Ans} {w1 w : World} {s1 s2 : Bool}
theorem FW.start (h : w1.rowIs b 130 11 (carC hand kind fr on st head place below value t)) (hm : IsMem w1 bm bw n f') (hr : w1.rowIs r 63 6 zcell) (hq : w1.rangeAt q 0 x.cells) (hl : q < w1.heap.size) : FW b bm bw n f' x r q hand kind fr on st head place below value ix t w1 false false { w1 with drawn := w1.drawn + 1 } :=
  ⟨h.drew, hm.drew, hr.drew, rangeAt_block hq rfl, hl, (Touch.refl w1 _).drew⟩
theorem FW.skip {L : Nat → Bool} {i k1 k2 : Nat} (h1 : k1 ≠ i) (h2 : k2 ≠ i) (h : FW b bm bw n f' x r q hand kind fr on st head place below value ix t w1 (L k1) (L k2) w) : FW b bm bw n f' x r q hand kind fr on st head place below value ix t w1 (upd L i true k1) (upd L i true k2) w := by
  rwa [upd_other _ _ h1, upd_other _ _ h2]
theorem FW.putH (h : FW b bm bw n f' x r q hand kind fr on st head place below value ix t w1 s1 s2 w) (hd : b ≠ bm ∧ b ≠ bw ∧ b ≠ r ∧ b ≠ q) : FW b bm bw n f' x r q hand kind fr on st head place below value ix t w1 true s2 (w.setCell ⟨b, 5, none⟩ (.int .u64 x.had)) := by
  have tt : Touch w (w.setCell ⟨b, 5, none⟩ (.int .u64 x.had)) (fun k => k = b) := Touch.setCell (S := fun k => k = b) (Touch.refl w _) ⟨b, 5, none⟩ (.inl rfl) _
  refine ⟨World.rowIs.congr (h.row.set 5 _) (fun i hi => ?_), h.mem.setOther (Ne.symm hd.1) (Ne.symm hd.2.1) _, h.res.setOther (Ne.symm hd.2.2.1) _, rangeAt_block h.rq (tt.block _ h.lq (Ne.symm hd.2.2.2)), Nat.lt_of_lt_of_le h.lq tt.size, h.tch.trans' tt (fun _ _ h => h)⟩
  match i, hi with
  | 0, _ | 1, _ | 2, _ | 3, _ | 4, _ | 5, _ | 6, _ | 7, _ | 8, _ | 9, _ | 10, _ => rfl
theorem FW.putP (h : FW b bm bw n f' x r q hand kind fr on st head place below value ix t w1 s1 s2 w) (hd : b ≠ bm ∧ b ≠ bw ∧ b ≠ r ∧ b ≠ q) : FW b bm bw n f' x r q hand kind fr on st head place below value ix t w1 s1 true (w.setCell ⟨b, 6, none⟩ (.int .i64 ix)) := by
  have tt : Touch w (w.setCell ⟨b, 6, none⟩ (.int .i64 ix)) (fun k => k = b) := Touch.setCell (S := fun k => k = b) (Touch.refl w _) ⟨b, 6, none⟩ (.inl rfl) _
  refine ⟨World.rowIs.congr (h.row.set 6 _) (fun i hi => ?_), h.mem.setOther (Ne.symm hd.1) (Ne.symm hd.2.1) _, h.res.setOther (Ne.symm hd.2.2.1) _, rangeAt_block h.rq (tt.block _ h.lq (Ne.symm hd.2.2.2)), Nat.lt_of_lt_of_le h.lq tt.size, h.tch.trans' tt (fun _ _ h => h)⟩
  match i, hi with
  | 0, _ | 1, _ | 2, _ | 3, _ | 4, _ | 5, _ | 6, _ | 7, _ | 8, _ | 9, _ | 10, _ => rfl
end

set_option maxHeartbeats 4000000 in
theorem find_ends {w : World} {b bm bw n : Nat} {f f' : Nat → Int} {x : Stp} {hand kind fr on st head place below value : Int} {t : Ans} (h : w.rowIs b 130 11 (carC hand kind fr on st head place below value t)) (hm : IsMem w bm bw n f) (h1 : b ≠ bm) (h2 : b ≠ bw) {ix : Int} (hxh : 0 ≤ x.had ∧ x.had ≤ 18446744073709551615) (hix : x.had % 4294967296 = ix) (hz : ix = 0)
    (hx : stepOf n f ⟨hand, 1, fr, 0, 0, true⟩ = x) (hf' : wordsOf n f ⟨hand, 1, fr, 0, 0, true⟩ = f') :
    Calls Try.prog 160 #[.pointer (some ⟨b, 0, none⟩), .pointer (some ⟨bm, 0, none⟩)] w fun e w' => e = .returned (.tuple #[x.val, .int .i64 1]) ∧
      w'.rowIs b 130 11 (carC hand kind fr on st x.had ix below value t) ∧ IsMem w' bm bw n f' ∧ Touch w w' (fun k => k = b ∨ k = bw) := by
  have c0 : w.cell? ⟨b, 0, none⟩ = some (.int .i64 hand) := h.cell (i := 0) (by omega)
  have c1 : w.cell? ⟨b, 1, none⟩ = some (.int .i64 kind) := h.cell (i := 1) (by omega)
  have c2 : w.cell? ⟨b, 2, none⟩ = some (.int .i64 fr) := h.cell (i := 2) (by omega)
  have c3 : w.cell? ⟨b, 3, none⟩ = some (.int .i64 on) := h.cell (i := 3) (by omega)
  have c4 : w.cell? ⟨b, 4, none⟩ = some (.int .i64 st) := h.cell (i := 4) (by omega)
  have c5 : w.cell? ⟨b, 5, none⟩ = some (.int .u64 head) := h.cell (i := 5) (by omega)
  have c6 : w.cell? ⟨b, 6, none⟩ = some (.int .i64 place) := h.cell (i := 6) (by omega)
  have c7 : w.cell? ⟨b, 7, none⟩ = some (.int .i64 below) := h.cell (i := 7) (by omega)
  have c8 : w.cell? ⟨b, 8, none⟩ = some (.int .u64 value) := h.cell (i := 8) (by omega)
  have c9 : w.cell? ⟨b, 9, none⟩ = some (.bool t.ok) := h.cell (i := 9) (by omega)
  have c10 : w.cell? ⟨b, 10, none⟩ = some (.int .u64 t.val) := h.cell (i := 10) (by omega)
  have hl := h.lt
  have lw := hm.row.lt
  have lm := hm.head.lt
  have hn3 : w.heap.size ≠ b := by omega
  have hn4 : w.heap.size ≠ bw := by omega
  have hn5 : w.heap.size ≠ bm := by omega
  obtain ⟨W1, hW1⟩ : ∃ W1, (w.alloc (.cells #[.int .i64 0, .int .i64 0, .int .i64 0, .int .u64 0, .int .u64 0, .bool false] 63)) = W1 := ⟨_, rfl⟩
  have R := hide (show W1.rowIs b 130 11 (carC hand kind fr on st head place below value t) from by
    rw [← hW1]
    skip
    repeat (first | (with_reducible refine World.rowIs.set ?_ _ _) | (with_reducible apply World.rowIs.alloc))
    exact h)
  have M := hide (show IsMem W1 bm bw n f from by
    rw [← hW1]
    repeat (first | (with_reducible apply IsMem.alloc) | ((with_reducible refine IsMem.setOther ?_ ?_ ?_ _); rotate_left; (simp; omega); (simp; omega)))
    exact hm)
  have RZ := hide (show W1.rowIs w.heap.size 63 6 zcell from by
    rw [← hW1]
    have := row0 w
    simpa using this)
  have T0 := hide (show Touch w W1 (fun k => k = b ∨ k = bw) from by
    rw [← hW1]
    repeat (first | (with_reducible apply Touch.alloc) | (with_reducible refine Touch.setCell ?_ _ ?side _; case side => simp))
    exact Touch.refl w _)
  have sz : W1.heap.size = w.heap.size + 1 := by rw [← hW1]; simp
  have HX := hide hx
  have HF := hide hf'
  have HW : Hid (0 ≤ (⟨hand, 1, fr, 0, 0, true⟩ : Stp).put ∧ (⟨hand, 1, fr, 0, 0, true⟩ : Stp).put ≤ 18446744073709551615) := ⟨Int.le_refl 0, by show (0 : Int) ≤ 18446744073709551615; decide⟩
  have HXH := hide hxh
  have HIX := hide hix
  clear hm h hx hf' hxh hix
  go_enter Try.func160, Try.ntmps160
  go_wp2_with fail
  clear hW1 c0 c1 c2 c3 c4 c5 c6 c7 c8 c9 c10 
  refine RG.region (ks := [(0, 7), (1, 8), (2, 9), (3, 10), (4, 11), (5, 12), (6, 13), (7, 14), (8, 15), (9, 16)]) (vals := fun i => match i with
      | 0 => .pointer (some ⟨bm, 0, none⟩)
      | 1 => .pointer (some ⟨b, 0, none⟩)
      | 2 => .pointer (some ⟨b, 0, none⟩)
      | 3 => .pointer (some ⟨b, 0, none⟩)
      | 4 => .int .i64 hand
      | 5 => .pointer (some ⟨b, 0, none⟩)
      | 6 => .pointer (some ⟨b, 0, none⟩)
      | 7 => .pointer (some ⟨b, 2, none⟩)
      | 8 => .int .i64 fr
      | 9 => .agg #[.int .i64 x.hand, .int .i64 x.act, .int .i64 x.at_, .int .u64 x.had, .int .u64 x.put, .bool x.ok]
      | _ => undef) (x := 6) (WI := fun L v w' => RG.SW b 130 11 (carC hand kind fr on st head place below value t) bm bw n f f' x w.heap.size W1 (L 9) (L 10) (L 11) v w') (by kernel_rfl) ?gg ?bk rfl ?dd ?xx (RG.SW.start R.out M.out RZ.out) ?does ?fin
  case gg =>
    intro i o ho
    have hi : i < 12 := by have := (Array.getElem?_eq_some_iff.1 ho).1; simpa using this
    match i, hi with
    | 0, _ | 1, _ | 2, _ | 3, _ | 4, _ | 5, _ | 6, _ | 7, _ | 8, _ | 9, _ | 10, _ | 11, _ => injection ho with ho; subst ho; rfl
  case bk =>
    intro i o ho
    have hi : i < 12 := by have := (Array.getElem?_eq_some_iff.1 ho).1; simpa using this
    match i, hi with
    | 0, _ | 1, _ | 2, _ | 3, _ | 4, _ | 5, _ | 6, _ | 7, _ | 8, _ | 9, _ | 10, _ | 11, _ => injection ho with ho; subst ho; simp [Region.binds]
  case dd =>
    intro k hk
    have hk' : k < 38 := by
      simp [RetN.D] at hk
      omega
    simpa using hk'
  case xx => simp
  case does =>
    intro i o ho
    have hi : i < 12 := by have := (Array.getElem?_eq_some_iff.1 ho).1; simpa using this
    match i, hi with
    | 0, _ => injection ho with ho; subst ho; exact RG.Does.read rfl (fun L v w' h => RG.SW.skip (by decide) (by decide) (by decide) h) (fun L a w' hI hd => ex_move rfl (hI.fix 1 (Reg.notD rfl) (by decide)))
    | 1, _ => injection ho with ho; subst ho; exact RG.Does.read rfl (fun L v w' h => RG.SW.skip (by decide) (by decide) (by decide) h) (fun L a w' hI hd => ex_move rfl (hI.fix 0 (Reg.notD rfl) (by decide)))
    | 2, _ => injection ho with ho; subst ho; exact RG.Does.read rfl (fun L v w' h => RG.SW.skip (by decide) (by decide) (by decide) h) (fun L a w' hI hd => ex_nil rfl (hI.pure 1 _ _ rfl (hd ⟨1, .data⟩ (by simp) rfl)))
    | 3, _ => injection ho with ho; subst ho; exact RG.Does.read rfl (fun L v w' h => RG.SW.skip (by decide) (by decide) (by decide) h) (fun L a w' hI hd => ex_field rfl (hI.pure 2 _ _ rfl (hd ⟨2, .data⟩ (by simp) rfl)) (fieldP0 w' _))
    | 4, _ => injection ho with ho; subst ho; exact RG.Does.read rfl (fun L v w' h => RG.SW.skip (by decide) (by decide) (by decide) h) (fun L a w' hI hd => ex_load rfl (hI.pure 3 _ _ rfl (hd ⟨3, .data⟩ (by simp) rfl)) (aggI w') (hI.world.row.cell (i := 0) (by omega)))
    | 5, _ => injection ho with ho; subst ho; exact RG.Does.read rfl (fun L v w' h => RG.SW.skip (by decide) (by decide) (by decide) h) (fun L a w' hI hd => ex_move rfl (hI.fix 0 (Reg.notD rfl) (by decide)))
    | 6, _ => injection ho with ho; subst ho; exact RG.Does.read rfl (fun L v w' h => RG.SW.skip (by decide) (by decide) (by decide) h) (fun L a w' hI hd => ex_nil rfl (hI.pure 5 _ _ rfl (hd ⟨5, .data⟩ (by simp) rfl)))
    | 7, _ => injection ho with ho; subst ho; exact RG.Does.read rfl (fun L v w' h => RG.SW.skip (by decide) (by decide) (by decide) h) (fun L a w' hI hd => ex_field rfl (hI.pure 6 _ _ rfl (hd ⟨6, .data⟩ (by simp) rfl)) (fieldP2 w' _))
    | 8, _ => injection ho with ho; subst ho; exact RG.Does.read rfl (fun L v w' h => RG.SW.skip (by decide) (by decide) (by decide) h) (fun L a w' hI hd => ex_load rfl (hI.pure 7 _ _ rfl (hd ⟨7, .data⟩ (by simp) rfl)) (aggI w') (hI.world.row.cell (i := 2) (by omega)))
    | 9, _ => injection ho with ho; subst ho; exact RG.Does.call rfl (fun L a w' hI hd => call6 rfl (hI.pure 0 _ _ rfl (hd ⟨0, .data⟩ (by simp) rfl)) (hI.pure 4 _ _ rfl (hd ⟨4, .data⟩ (by simp) rfl)) rfl (hI.pure 8 _ _ rfl (hd ⟨8, .data⟩ (by simp) rfl)) rfl rfl rfl (callDo _ _)) (RG.SW.calls HX.out HF.out HW.out h2 hn4 (by decide) (by decide))
    | 10, _ => injection ho with ho; subst ho; exact RG.Does.make (u := fun w' => .pointer (some ⟨w'.heap.size, 0, none⟩)) rfl rfl (fun ev w' => alloc46 rfl) (fun L v w' h hL => by have := RG.SW.make h hL; rw [← upd_same L 10 true] at this; simpa only [upd_other _ _ (show 9 ≠ 10 by decide), upd_other _ _ (show 11 ≠ 10 by decide)] using this)
    | 11, _ => injection ho with ho; subst ho; exact RG.Does.put (ls := x.cells) rfl rfl rfl size46 (by simp [Stp.cells, Value.oneCell']) (fun L a w' hI hL hd => ⟨(hI.pure 9 _ _ rfl (hd ⟨9, .data⟩ (by simp) rfl)), by obtain ⟨q, e1, e2, e3⟩ := RG.SW.put hI.world (hd ⟨9, .data⟩ (by simp) rfl) (hd ⟨10, .data⟩ (by simp) rfl) hL; exact ⟨q, 0, e1, e2, by rw [← upd_same L 11 true] at e3; simpa only [upd_other _ _ (show 9 ≠ 11 by decide), upd_other _ _ (show 10 ≠ 11 by decide)] using e3⟩⟩)
  case fin =>
    intro L a' w1 hI hall
    have hw := hI.world
    simp only [hall 9 (by decide), hall 10 (by decide), hall 11 (by decide), if_true] at hw
    obtain ⟨q, hq, hq1, hq2, _, hr⟩ := hw.own rfl
    replace hr := hr rfl
    have ea := act_all a' 38 (by rw [hI.sz]; rfl) hI.df
    simp only [List.range, List.range.loop, List.map] at ea
    rw [hI.fix 0 (Reg.notD rfl) (by decide), hI.fix 1 (Reg.notD rfl) (by decide), hI.fix 2 (Reg.notD rfl) (by decide), hI.fix 3 (Reg.notD rfl) (by decide), hI.fix 4 (Reg.notD rfl) (by decide), hI.fix 5 (Reg.notD rfl) (by decide), hI.fix 17 (Reg.notD rfl) (by decide), hI.fix 18 (Reg.notD rfl) (by decide), hI.fix 19 (Reg.notD rfl) (by decide), hI.fix 20 (Reg.notD rfl) (by decide), hI.fix 21 (Reg.notD rfl) (by decide), hI.fix 22 (Reg.notD rfl) (by decide), hI.fix 23 (Reg.notD rfl) (by decide), hI.fix 24 (Reg.notD rfl) (by decide), hI.fix 25 (Reg.notD rfl) (by decide), hI.fix 26 (Reg.notD rfl) (by decide), hI.fix 27 (Reg.notD rfl) (by decide), hI.fix 28 (Reg.notD rfl) (by decide), hI.fix 29 (Reg.notD rfl) (by decide), hI.fix 30 (Reg.notD rfl) (by decide), hI.fix 31 (Reg.notD rfl) (by decide), hI.fix 32 (Reg.notD rfl) (by decide), hI.fix 33 (Reg.notD rfl) (by decide), hI.fix 34 (Reg.notD rfl) (by decide), hI.fix 35 (Reg.notD rfl) (by decide), hI.fix 36 (Reg.notD rfl) (by decide), hI.fix 37 (Reg.notD rfl) (by decide), hq] at ea
    clear hI hall
    generalize a'.eval (.tmp 7) = u7 at ea
    generalize a'.eval (.tmp 8) = u8 at ea
    generalize a'.eval (.tmp 9) = u9 at ea
    generalize a'.eval (.tmp 10) = u10 at ea
    generalize a'.eval (.tmp 11) = u11 at ea
    generalize a'.eval (.tmp 12) = u12 at ea
    generalize a'.eval (.tmp 13) = u13 at ea
    generalize a'.eval (.tmp 14) = u14 at ea
    generalize a'.eval (.tmp 15) = u15 at ea
    generalize a'.eval (.tmp 16) = u16 at ea
    simp only [show ∀ (ts : Array Value) (ds) (i : Nat), (Act.mk ts ds).eval (.tmp i) = ts.getD i undef from fun _ _ _ => rfl] at ea
    simp at ea
    subst ea
    have M1 := hide (show IsMem w1 bm bw n f' from by simpa using hw.mem)
    have R1 := hide hw.row
    have RR := hide hw.res
    have T1 := hide (T0.out.trans' hw.tch (fun k _ h => .inr h))
    have RQ := hide hr
    have hqb : q ≠ b := by omega
    have hqr : q ≠ w.heap.size := by omega
    have hqr' : w.heap.size ≠ q := by omega
    have hqm : q ≠ bm ∧ q ≠ bw := by omega
    have lw1 := hw.tch.size
    have l1 : b < w1.heap.size := by omega
    have l2 : w.heap.size < w1.heap.size := by omega
    clear hw hr hq
    have d0 : w1.cell? ⟨b, 0, none⟩ = some (.int .i64 hand) := R1.out.cell (i := 0) (by omega)
    have d1 : w1.cell? ⟨b, 1, none⟩ = some (.int .i64 kind) := R1.out.cell (i := 1) (by omega)
    have d2 : w1.cell? ⟨b, 2, none⟩ = some (.int .i64 fr) := R1.out.cell (i := 2) (by omega)
    have d3 : w1.cell? ⟨b, 3, none⟩ = some (.int .i64 on) := R1.out.cell (i := 3) (by omega)
    have d4 : w1.cell? ⟨b, 4, none⟩ = some (.int .i64 st) := R1.out.cell (i := 4) (by omega)
    have d5 : w1.cell? ⟨b, 5, none⟩ = some (.int .u64 head) := R1.out.cell (i := 5) (by omega)
    have d6 : w1.cell? ⟨b, 6, none⟩ = some (.int .i64 place) := R1.out.cell (i := 6) (by omega)
    have d7 : w1.cell? ⟨b, 7, none⟩ = some (.int .i64 below) := R1.out.cell (i := 7) (by omega)
    have d8 : w1.cell? ⟨b, 8, none⟩ = some (.int .u64 value) := R1.out.cell (i := 8) (by omega)
    have d9 : w1.cell? ⟨b, 9, none⟩ = some (.bool t.ok) := R1.out.cell (i := 9) (by omega)
    have d10 : w1.cell? ⟨b, 10, none⟩ = some (.int .u64 t.val) := R1.out.cell (i := 10) (by omega)
    have df0 := R1.out.frozen 0
    have df1 := R1.out.frozen 1
    have df2 := R1.out.frozen 2
    have df3 := R1.out.frozen 3
    have df4 := R1.out.frozen 4
    have df5 := R1.out.frozen 5
    have df6 := R1.out.frozen 6
    have df7 := R1.out.frozen 7
    have df8 := R1.out.frozen 8
    have df9 := R1.out.frozen 9
    have df10 := R1.out.frozen 10
    have r0 : w1.cell? ⟨w.heap.size, 0, none⟩ = some (.int .i64 0) := RR.out.cell (i := 0) (by omega)
    have rf0 := RR.out.frozen 0
    have s0 : w1.cell? ⟨q, 0, none⟩ = some (.int .i64 x.hand) := by have := RQ.out 0 _ rfl; simpa using this
    have r1 : w1.cell? ⟨w.heap.size, 1, none⟩ = some (.int .i64 0) := RR.out.cell (i := 1) (by omega)
    have rf1 := RR.out.frozen 1
    have s1 : w1.cell? ⟨q, 1, none⟩ = some (.int .i64 x.act) := by have := RQ.out 1 _ rfl; simpa using this
    have r2 : w1.cell? ⟨w.heap.size, 2, none⟩ = some (.int .i64 0) := RR.out.cell (i := 2) (by omega)
    have rf2 := RR.out.frozen 2
    have s2 : w1.cell? ⟨q, 2, none⟩ = some (.int .i64 x.at_) := by have := RQ.out 2 _ rfl; simpa using this
    have r3 : w1.cell? ⟨w.heap.size, 3, none⟩ = some (.int .u64 0) := RR.out.cell (i := 3) (by omega)
    have rf3 := RR.out.frozen 3
    have s3 : w1.cell? ⟨q, 3, none⟩ = some (.int .u64 x.had) := by have := RQ.out 3 _ rfl; simpa using this
    have r4 : w1.cell? ⟨w.heap.size, 4, none⟩ = some (.int .u64 0) := RR.out.cell (i := 4) (by omega)
    have rf4 := RR.out.frozen 4
    have s4 : w1.cell? ⟨q, 4, none⟩ = some (.int .u64 x.put) := by have := RQ.out 4 _ rfl; simpa using this
    have r5 : w1.cell? ⟨w.heap.size, 5, none⟩ = some (.bool false) := RR.out.cell (i := 5) (by omega)
    have rf5 := RR.out.frozen 5
    have s5 : w1.cell? ⟨q, 5, none⟩ = some (.bool x.ok) := by have := RQ.out 5 _ rfl; simpa using this
    go_wp2_with fail
    have HD := hide (show b ≠ bm ∧ b ≠ bw ∧ b ≠ w.heap.size ∧ b ≠ q from ⟨h1, h2, Ne.symm hn3, Ne.symm hqb⟩)
    clear d0 df0 d1 df1 d2 df2 d3 df3 d4 df4 d5 df5 d6 df6 d7 df7 d8 df8 d9 df9 d10 df10 r0 rf0 s0 r1 rf1 s1 r2 rf2 s2 r3 rf3 s3 r4 rf4 s4 r5 rf5 s5
    refine RG.region (ks := [(0, 17), (1, 18), (2, 19), (3, 20), (4, 21), (5, 22), (6, 23), (7, 24), (8, 25), (10, 26), (11, 27)]) (vals := fun i => match i with
        | 0 => .pointer (some ⟨b, 0, none⟩)
        | 1 => .pointer (some ⟨b, 0, none⟩)
        | 2 => .pointer (some ⟨q, 3, none⟩)
        | 3 => .int .u64 x.had
        | 4 => .pointer (some ⟨q, 3, none⟩)
        | 5 => .int .u64 x.had
        | 6 => .int .i64 ix
        | 7 => .pointer (some ⟨b, 0, none⟩)
        | 8 => .pointer (some ⟨b, 5, none⟩)
        | 10 => .pointer (some ⟨b, 0, none⟩)
        | 11 => .pointer (some ⟨b, 6, none⟩)
        | _ => undef) (x := 2) (WI := fun L v w' => FW b bm bw n f' x w.heap.size q hand kind fr on st head place below value ix t w1 (L 9) (L 12) w') (by kernel_rfl) ?gg ?bk rfl ?dd ?xx (FW.start R1.out M1.out RR.out RQ.out hq2) ?does ?fin
    case gg =>
      intro i o ho
      have hi : i < 13 := by have := (Array.getElem?_eq_some_iff.1 ho).1; simpa using this
      match i, hi with
      | 0, _ | 1, _ | 2, _ | 3, _ | 4, _ | 5, _ | 6, _ | 7, _ | 8, _ | 9, _ | 10, _ | 11, _ | 12, _ => injection ho with ho; subst ho; rfl
    case bk =>
      intro i o ho
      have hi : i < 13 := by have := (Array.getElem?_eq_some_iff.1 ho).1; simpa using this
      match i, hi with
      | 0, _ | 1, _ | 2, _ | 3, _ | 4, _ | 5, _ | 6, _ | 7, _ | 8, _ | 9, _ | 10, _ | 11, _ | 12, _ => injection ho with ho; subst ho; simp [Region.binds]
    case dd =>
      intro k hk
      have hk' : k < 38 := by
        simp [RetN.D] at hk
        omega
      simpa using hk'
    case xx => simp
    case does =>
      intro i o ho
      have hi : i < 13 := by have := (Array.getElem?_eq_some_iff.1 ho).1; simpa using this
      match i, hi with
      | 0, _ => injection ho with ho; subst ho; exact RG.Does.read rfl (fun L v w' h => FW.skip (by decide) (by decide) h) (fun L a w' hI hd => ex_move rfl (hI.fix 0 (Reg.notD rfl) (by decide)))
      | 1, _ => injection ho with ho; subst ho; exact RG.Does.read rfl (fun L v w' h => FW.skip (by decide) (by decide) h) (fun L a w' hI hd => ex_move rfl (hI.fix 0 (Reg.notD rfl) (by decide)))
      | 2, _ => injection ho with ho; subst ho; exact RG.Does.read rfl (fun L v w' h => FW.skip (by decide) (by decide) h) (fun L a w' hI hd => ex_field rfl (hI.fix 6 (Reg.notD rfl) (by decide)) (fieldS3 w' _))
      | 3, _ => injection ho with ho; subst ho; exact RG.Does.read rfl (fun L v w' h => FW.skip (by decide) (by decide) h) (fun L a w' hI hd => ex_load rfl (hI.pure 2 _ _ rfl (hd ⟨2, .data⟩ (by simp) rfl)) (aggU w') (by have := hI.world.rq 3 _ rfl; simpa using this))
      | 4, _ => injection ho with ho; subst ho; exact RG.Does.read rfl (fun L v w' h => FW.skip (by decide) (by decide) h) (fun L a w' hI hd => ex_field rfl (hI.fix 6 (Reg.notD rfl) (by decide)) (fieldS3 w' _))
      | 5, _ => injection ho with ho; subst ho; exact RG.Does.read rfl (fun L v w' h => FW.skip (by decide) (by decide) h) (fun L a w' hI hd => ex_load rfl (hI.pure 4 _ _ rfl (hd ⟨4, .data⟩ (by simp) rfl)) (aggU w') (by have := hI.world.rq 3 _ rfl; simpa using this))
      | 6, _ => injection ho with ho; subst ho; exact RG.Does.ask rfl (fun L v w' h => FW.skip (by decide) (by decide) h) (fun L a w' hI hd => call1 rfl (hI.pure 5 _ _ rfl (hd ⟨5, .data⟩ (by simp) rfl)) rfl (callIndex _ _)) (fun w => by rw [← HIX.out]; exact index_any x.had HXH.out.1 (by have := HXH.out.2; omega) w)
      | 7, _ => injection ho with ho; subst ho; exact RG.Does.read rfl (fun L v w' h => FW.skip (by decide) (by decide) h) (fun L a w' hI hd => ex_nil rfl (hI.pure 0 _ _ rfl (hd ⟨0, .data⟩ (by simp) rfl)))
      | 8, _ => injection ho with ho; subst ho; exact RG.Does.read rfl (fun L v w' h => FW.skip (by decide) (by decide) h) (fun L a w' hI hd => ex_field rfl (hI.pure 7 _ _ rfl (hd ⟨7, .data⟩ (by simp) rfl)) (fieldP5 w' _))
      | 9, _ => injection ho with ho; subst ho; exact RG.Does.put1 rfl rfl (fun L a w' K hI hL hd hk => RG.wp_store_u rfl (hI.pure 8 _ _ rfl (hd ⟨8, .data⟩ (by simp) rfl)) (hI.pure 3 _ _ rfl (hd ⟨3, .data⟩ (by simp) rfl)) (hI.world.row.cell (i := 5) (by omega)) (hI.world.row.frozen 5) hk) (fun L u w' h hL hd => by rw [upd_same, upd_other _ _ (show 12 ≠ 9 by decide)]; exact FW.putH h HD.out)
      | 10, _ => injection ho with ho; subst ho; exact RG.Does.read rfl (fun L v w' h => FW.skip (by decide) (by decide) h) (fun L a w' hI hd => ex_nil rfl (hI.pure 1 _ _ rfl (hd ⟨1, .data⟩ (by simp) rfl)))
      | 11, _ => injection ho with ho; subst ho; exact RG.Does.read rfl (fun L v w' h => FW.skip (by decide) (by decide) h) (fun L a w' hI hd => ex_field rfl (hI.pure 10 _ _ rfl (hd ⟨10, .data⟩ (by simp) rfl)) (fieldP6 w' _))
      | 12, _ => injection ho with ho; subst ho; exact RG.Does.put1 rfl rfl (fun L a w' K hI hL hd hk => RG.wp_store_i rfl (hI.pure 11 _ _ rfl (hd ⟨11, .data⟩ (by simp) rfl)) (hI.pure 6 _ _ rfl (hd ⟨6, .data⟩ (by simp) rfl)) (hI.world.row.cell (i := 6) (by omega)) (hI.world.row.frozen 6) hk) (fun L u w' h hL hd => by rw [upd_same, upd_other _ _ (show 9 ≠ 12 by decide)]; exact FW.putP h HD.out)
    case fin =>
      intro L a' w2 hI hall
      have hw := hI.world
      simp only [hall 9 (by decide), hall 12 (by decide)] at hw
      have ea := act_all a' 38 (by rw [hI.sz]; rfl) hI.df
      simp only [List.range, List.range.loop, List.map] at ea
      rw [hI.fix 0 (Reg.notD rfl) (by decide), hI.fix 1 (Reg.notD rfl) (by decide), hI.fix 3 (Reg.notD rfl) (by decide), hI.fix 4 (Reg.notD rfl) (by decide), hI.fix 5 (Reg.notD rfl) (by decide), hI.fix 6 (Reg.notD rfl) (by decide), hI.fix 7 (Reg.notD rfl) (by decide), hI.fix 8 (Reg.notD rfl) (by decide), hI.fix 9 (Reg.notD rfl) (by decide), hI.fix 10 (Reg.notD rfl) (by decide), hI.fix 11 (Reg.notD rfl) (by decide), hI.fix 12 (Reg.notD rfl) (by decide), hI.fix 13 (Reg.notD rfl) (by decide), hI.fix 14 (Reg.notD rfl) (by decide), hI.fix 15 (Reg.notD rfl) (by decide), hI.fix 16 (Reg.notD rfl) (by decide), hI.fix 28 (Reg.notD rfl) (by decide), hI.fix 29 (Reg.notD rfl) (by decide), hI.fix 30 (Reg.notD rfl) (by decide), hI.fix 31 (Reg.notD rfl) (by decide), hI.fix 32 (Reg.notD rfl) (by decide), hI.fix 33 (Reg.notD rfl) (by decide), hI.fix 34 (Reg.notD rfl) (by decide), hI.fix 35 (Reg.notD rfl) (by decide), hI.fix 36 (Reg.notD rfl) (by decide), hI.fix 37 (Reg.notD rfl) (by decide)] at ea
      clear hI hall
      generalize a'.eval (.tmp 2) = v2 at ea
      generalize a'.eval (.tmp 17) = v17 at ea
      generalize a'.eval (.tmp 18) = v18 at ea
      generalize a'.eval (.tmp 19) = v19 at ea
      generalize a'.eval (.tmp 20) = v20 at ea
      generalize a'.eval (.tmp 21) = v21 at ea
      generalize a'.eval (.tmp 22) = v22 at ea
      generalize a'.eval (.tmp 23) = v23 at ea
      generalize a'.eval (.tmp 24) = v24 at ea
      generalize a'.eval (.tmp 25) = v25 at ea
      generalize a'.eval (.tmp 26) = v26 at ea
      generalize a'.eval (.tmp 27) = v27 at ea
      simp only [show ∀ (ts : Array Value) (ds) (i : Nat), (Act.mk ts ds).eval (.tmp i) = ts.getD i undef from fun _ _ _ => rfl] at ea
      simp at ea
      subst ea
      have M2 := hide hw.mem
      have R2 := hide (show w2.rowIs b 130 11 (carC hand kind fr on st x.had ix below value t) from by simpa using hw.row)
      have RR2 := hide hw.res
      have T2 := hide (T1.out.trans' hw.tch (fun k _ h => .inl h))
      have RQ2 := hide hw.rq
      have lw2 := hw.tch.size
      clear hw
      have d0 : w2.cell? ⟨b, 0, none⟩ = some (.int .i64 hand) := R2.out.cell (i := 0) (by omega)
      have d1 : w2.cell? ⟨b, 1, none⟩ = some (.int .i64 kind) := R2.out.cell (i := 1) (by omega)
      have d2 : w2.cell? ⟨b, 2, none⟩ = some (.int .i64 fr) := R2.out.cell (i := 2) (by omega)
      have d3 : w2.cell? ⟨b, 3, none⟩ = some (.int .i64 on) := R2.out.cell (i := 3) (by omega)
      have d4 : w2.cell? ⟨b, 4, none⟩ = some (.int .i64 st) := R2.out.cell (i := 4) (by omega)
      have d5 : w2.cell? ⟨b, 5, none⟩ = some (.int .u64 x.had) := R2.out.cell (i := 5) (by omega)
      have d6 : w2.cell? ⟨b, 6, none⟩ = some (.int .i64 ix) := R2.out.cell (i := 6) (by omega)
      have d7 : w2.cell? ⟨b, 7, none⟩ = some (.int .i64 below) := R2.out.cell (i := 7) (by omega)
      have d8 : w2.cell? ⟨b, 8, none⟩ = some (.int .u64 value) := R2.out.cell (i := 8) (by omega)
      have d9 : w2.cell? ⟨b, 9, none⟩ = some (.bool t.ok) := R2.out.cell (i := 9) (by omega)
      have d10 : w2.cell? ⟨b, 10, none⟩ = some (.int .u64 t.val) := R2.out.cell (i := 10) (by omega)
      have df4 := R2.out.frozen 4
      have r0 : w2.cell? ⟨w.heap.size, 0, none⟩ = some (.int .i64 0) := RR2.out.cell (i := 0) (by omega)
      have rf0 := RR2.out.frozen 0
      have s0 : w2.cell? ⟨q, 0, none⟩ = some (.int .i64 x.hand) := by have := RQ2.out 0 _ rfl; simpa using this
      have r1 : w2.cell? ⟨w.heap.size, 1, none⟩ = some (.int .i64 0) := RR2.out.cell (i := 1) (by omega)
      have rf1 := RR2.out.frozen 1
      have s1 : w2.cell? ⟨q, 1, none⟩ = some (.int .i64 x.act) := by have := RQ2.out 1 _ rfl; simpa using this
      have r2 : w2.cell? ⟨w.heap.size, 2, none⟩ = some (.int .i64 0) := RR2.out.cell (i := 2) (by omega)
      have rf2 := RR2.out.frozen 2
      have s2 : w2.cell? ⟨q, 2, none⟩ = some (.int .i64 x.at_) := by have := RQ2.out 2 _ rfl; simpa using this
      have r3 : w2.cell? ⟨w.heap.size, 3, none⟩ = some (.int .u64 0) := RR2.out.cell (i := 3) (by omega)
      have rf3 := RR2.out.frozen 3
      have s3 : w2.cell? ⟨q, 3, none⟩ = some (.int .u64 x.had) := by have := RQ2.out 3 _ rfl; simpa using this
      have r4 : w2.cell? ⟨w.heap.size, 4, none⟩ = some (.int .u64 0) := RR2.out.cell (i := 4) (by omega)
      have rf4 := RR2.out.frozen 4
      have s4 : w2.cell? ⟨q, 4, none⟩ = some (.int .u64 x.put) := by have := RQ2.out 4 _ rfl; simpa using this
      have r5 : w2.cell? ⟨w.heap.size, 5, none⟩ = some (.bool false) := RR2.out.cell (i := 5) (by omega)
      have rf5 := RR2.out.frozen 5
      have s5 : w2.cell? ⟨q, 5, none⟩ = some (.bool x.ok) := by have := RQ2.out 5 _ rfl; simpa using this
      go_wp2_with fail
      go_light
      refine bodyPost_ret (v := .tuple #[x.val, .int .i64 1]) ?res rfl ⟨rfl, ?row, ?mem, ?tch⟩
      case row =>
        repeat (first | (with_reducible apply World.rowIs.alloc) | (with_reducible apply World.rowIs.drew) | (with_reducible refine World.rowIs.setOther ?_ ?side _; case side => (simp; omega)))
        first | with_reducible exact R2.out | (have := R2.out; rw [hz] at this; exact this)
      case mem =>
        repeat (first | (with_reducible apply IsMem.alloc) | (with_reducible apply IsMem.drew) | ((with_reducible refine IsMem.setOther ?_ ?_ ?_ _); rotate_left; (simp; omega); (simp; omega)))
        with_reducible exact M2.out
      case tch =>
        repeat (first | (with_reducible apply Touch.alloc) | (with_reducible apply Touch.drew) | (with_reducible refine Touch.setCell ?_ _ ?side _; case side => simp))
        with_reducible exact T2.out
      case res => simp [results, Try.results160, go_sem, Stp.val, *]

set_option maxHeartbeats 4000000 in
theorem find_goes {w : World} {b bm bw n : Nat} {f f' : Nat → Int} {x : Stp} {hand kind fr on st head place below value : Int} {t : Ans} (h : w.rowIs b 130 11 (carC hand kind fr on st head place below value t)) (hm : IsMem w bm bw n f) (h1 : b ≠ bm) (h2 : b ≠ bw) {ix : Int} (hxh : 0 ≤ x.had ∧ x.had ≤ 18446744073709551615) (hix : x.had % 4294967296 = ix) (hz : ¬ ix = 0)
    (hx : stepOf n f ⟨hand, 1, fr, 0, 0, true⟩ = x) (hf' : wordsOf n f ⟨hand, 1, fr, 0, 0, true⟩ = f') :
    Calls Try.prog 160 #[.pointer (some ⟨b, 0, none⟩), .pointer (some ⟨bm, 0, none⟩)] w fun e w' => e = .returned (.tuple #[x.val, .int .i64 0]) ∧
      w'.rowIs b 130 11 (carC hand kind fr on 1 x.had ix below value t) ∧ IsMem w' bm bw n f' ∧ Touch w w' (fun k => k = b ∨ k = bw) := by
  have c0 : w.cell? ⟨b, 0, none⟩ = some (.int .i64 hand) := h.cell (i := 0) (by omega)
  have c1 : w.cell? ⟨b, 1, none⟩ = some (.int .i64 kind) := h.cell (i := 1) (by omega)
  have c2 : w.cell? ⟨b, 2, none⟩ = some (.int .i64 fr) := h.cell (i := 2) (by omega)
  have c3 : w.cell? ⟨b, 3, none⟩ = some (.int .i64 on) := h.cell (i := 3) (by omega)
  have c4 : w.cell? ⟨b, 4, none⟩ = some (.int .i64 st) := h.cell (i := 4) (by omega)
  have c5 : w.cell? ⟨b, 5, none⟩ = some (.int .u64 head) := h.cell (i := 5) (by omega)
  have c6 : w.cell? ⟨b, 6, none⟩ = some (.int .i64 place) := h.cell (i := 6) (by omega)
  have c7 : w.cell? ⟨b, 7, none⟩ = some (.int .i64 below) := h.cell (i := 7) (by omega)
  have c8 : w.cell? ⟨b, 8, none⟩ = some (.int .u64 value) := h.cell (i := 8) (by omega)
  have c9 : w.cell? ⟨b, 9, none⟩ = some (.bool t.ok) := h.cell (i := 9) (by omega)
  have c10 : w.cell? ⟨b, 10, none⟩ = some (.int .u64 t.val) := h.cell (i := 10) (by omega)
  have hl := h.lt
  have lw := hm.row.lt
  have lm := hm.head.lt
  have hn3 : w.heap.size ≠ b := by omega
  have hn4 : w.heap.size ≠ bw := by omega
  have hn5 : w.heap.size ≠ bm := by omega
  obtain ⟨W1, hW1⟩ : ∃ W1, (w.alloc (.cells #[.int .i64 0, .int .i64 0, .int .i64 0, .int .u64 0, .int .u64 0, .bool false] 63)) = W1 := ⟨_, rfl⟩
  have R := hide (show W1.rowIs b 130 11 (carC hand kind fr on st head place below value t) from by
    rw [← hW1]
    skip
    repeat (first | (with_reducible refine World.rowIs.set ?_ _ _) | (with_reducible apply World.rowIs.alloc))
    exact h)
  have M := hide (show IsMem W1 bm bw n f from by
    rw [← hW1]
    repeat (first | (with_reducible apply IsMem.alloc) | ((with_reducible refine IsMem.setOther ?_ ?_ ?_ _); rotate_left; (simp; omega); (simp; omega)))
    exact hm)
  have RZ := hide (show W1.rowIs w.heap.size 63 6 zcell from by
    rw [← hW1]
    have := row0 w
    simpa using this)
  have T0 := hide (show Touch w W1 (fun k => k = b ∨ k = bw) from by
    rw [← hW1]
    repeat (first | (with_reducible apply Touch.alloc) | (with_reducible refine Touch.setCell ?_ _ ?side _; case side => simp))
    exact Touch.refl w _)
  have sz : W1.heap.size = w.heap.size + 1 := by rw [← hW1]; simp
  have HX := hide hx
  have HF := hide hf'
  have HW : Hid (0 ≤ (⟨hand, 1, fr, 0, 0, true⟩ : Stp).put ∧ (⟨hand, 1, fr, 0, 0, true⟩ : Stp).put ≤ 18446744073709551615) := ⟨Int.le_refl 0, by show (0 : Int) ≤ 18446744073709551615; decide⟩
  have HXH := hide hxh
  have HIX := hide hix
  clear hm h hx hf' hxh hix
  go_enter Try.func160, Try.ntmps160
  go_wp2_with fail
  clear hW1 c0 c1 c2 c3 c4 c5 c6 c7 c8 c9 c10 
  refine RG.region (ks := [(0, 7), (1, 8), (2, 9), (3, 10), (4, 11), (5, 12), (6, 13), (7, 14), (8, 15), (9, 16)]) (vals := fun i => match i with
      | 0 => .pointer (some ⟨bm, 0, none⟩)
      | 1 => .pointer (some ⟨b, 0, none⟩)
      | 2 => .pointer (some ⟨b, 0, none⟩)
      | 3 => .pointer (some ⟨b, 0, none⟩)
      | 4 => .int .i64 hand
      | 5 => .pointer (some ⟨b, 0, none⟩)
      | 6 => .pointer (some ⟨b, 0, none⟩)
      | 7 => .pointer (some ⟨b, 2, none⟩)
      | 8 => .int .i64 fr
      | 9 => .agg #[.int .i64 x.hand, .int .i64 x.act, .int .i64 x.at_, .int .u64 x.had, .int .u64 x.put, .bool x.ok]
      | _ => undef) (x := 6) (WI := fun L v w' => RG.SW b 130 11 (carC hand kind fr on st head place below value t) bm bw n f f' x w.heap.size W1 (L 9) (L 10) (L 11) v w') (by kernel_rfl) ?gg ?bk rfl ?dd ?xx (RG.SW.start R.out M.out RZ.out) ?does ?fin
  case gg =>
    intro i o ho
    have hi : i < 12 := by have := (Array.getElem?_eq_some_iff.1 ho).1; simpa using this
    match i, hi with
    | 0, _ | 1, _ | 2, _ | 3, _ | 4, _ | 5, _ | 6, _ | 7, _ | 8, _ | 9, _ | 10, _ | 11, _ => injection ho with ho; subst ho; rfl
  case bk =>
    intro i o ho
    have hi : i < 12 := by have := (Array.getElem?_eq_some_iff.1 ho).1; simpa using this
    match i, hi with
    | 0, _ | 1, _ | 2, _ | 3, _ | 4, _ | 5, _ | 6, _ | 7, _ | 8, _ | 9, _ | 10, _ | 11, _ => injection ho with ho; subst ho; simp [Region.binds]
  case dd =>
    intro k hk
    have hk' : k < 38 := by
      simp [RetN.D] at hk
      omega
    simpa using hk'
  case xx => simp
  case does =>
    intro i o ho
    have hi : i < 12 := by have := (Array.getElem?_eq_some_iff.1 ho).1; simpa using this
    match i, hi with
    | 0, _ => injection ho with ho; subst ho; exact RG.Does.read rfl (fun L v w' h => RG.SW.skip (by decide) (by decide) (by decide) h) (fun L a w' hI hd => ex_move rfl (hI.fix 1 (Reg.notD rfl) (by decide)))
    | 1, _ => injection ho with ho; subst ho; exact RG.Does.read rfl (fun L v w' h => RG.SW.skip (by decide) (by decide) (by decide) h) (fun L a w' hI hd => ex_move rfl (hI.fix 0 (Reg.notD rfl) (by decide)))
    | 2, _ => injection ho with ho; subst ho; exact RG.Does.read rfl (fun L v w' h => RG.SW.skip (by decide) (by decide) (by decide) h) (fun L a w' hI hd => ex_nil rfl (hI.pure 1 _ _ rfl (hd ⟨1, .data⟩ (by simp) rfl)))
    | 3, _ => injection ho with ho; subst ho; exact RG.Does.read rfl (fun L v w' h => RG.SW.skip (by decide) (by decide) (by decide) h) (fun L a w' hI hd => ex_field rfl (hI.pure 2 _ _ rfl (hd ⟨2, .data⟩ (by simp) rfl)) (fieldP0 w' _))
    | 4, _ => injection ho with ho; subst ho; exact RG.Does.read rfl (fun L v w' h => RG.SW.skip (by decide) (by decide) (by decide) h) (fun L a w' hI hd => ex_load rfl (hI.pure 3 _ _ rfl (hd ⟨3, .data⟩ (by simp) rfl)) (aggI w') (hI.world.row.cell (i := 0) (by omega)))
    | 5, _ => injection ho with ho; subst ho; exact RG.Does.read rfl (fun L v w' h => RG.SW.skip (by decide) (by decide) (by decide) h) (fun L a w' hI hd => ex_move rfl (hI.fix 0 (Reg.notD rfl) (by decide)))
    | 6, _ => injection ho with ho; subst ho; exact RG.Does.read rfl (fun L v w' h => RG.SW.skip (by decide) (by decide) (by decide) h) (fun L a w' hI hd => ex_nil rfl (hI.pure 5 _ _ rfl (hd ⟨5, .data⟩ (by simp) rfl)))
    | 7, _ => injection ho with ho; subst ho; exact RG.Does.read rfl (fun L v w' h => RG.SW.skip (by decide) (by decide) (by decide) h) (fun L a w' hI hd => ex_field rfl (hI.pure 6 _ _ rfl (hd ⟨6, .data⟩ (by simp) rfl)) (fieldP2 w' _))
    | 8, _ => injection ho with ho; subst ho; exact RG.Does.read rfl (fun L v w' h => RG.SW.skip (by decide) (by decide) (by decide) h) (fun L a w' hI hd => ex_load rfl (hI.pure 7 _ _ rfl (hd ⟨7, .data⟩ (by simp) rfl)) (aggI w') (hI.world.row.cell (i := 2) (by omega)))
    | 9, _ => injection ho with ho; subst ho; exact RG.Does.call rfl (fun L a w' hI hd => call6 rfl (hI.pure 0 _ _ rfl (hd ⟨0, .data⟩ (by simp) rfl)) (hI.pure 4 _ _ rfl (hd ⟨4, .data⟩ (by simp) rfl)) rfl (hI.pure 8 _ _ rfl (hd ⟨8, .data⟩ (by simp) rfl)) rfl rfl rfl (callDo _ _)) (RG.SW.calls HX.out HF.out HW.out h2 hn4 (by decide) (by decide))
    | 10, _ => injection ho with ho; subst ho; exact RG.Does.make (u := fun w' => .pointer (some ⟨w'.heap.size, 0, none⟩)) rfl rfl (fun ev w' => alloc46 rfl) (fun L v w' h hL => by have := RG.SW.make h hL; rw [← upd_same L 10 true] at this; simpa only [upd_other _ _ (show 9 ≠ 10 by decide), upd_other _ _ (show 11 ≠ 10 by decide)] using this)
    | 11, _ => injection ho with ho; subst ho; exact RG.Does.put (ls := x.cells) rfl rfl rfl size46 (by simp [Stp.cells, Value.oneCell']) (fun L a w' hI hL hd => ⟨(hI.pure 9 _ _ rfl (hd ⟨9, .data⟩ (by simp) rfl)), by obtain ⟨q, e1, e2, e3⟩ := RG.SW.put hI.world (hd ⟨9, .data⟩ (by simp) rfl) (hd ⟨10, .data⟩ (by simp) rfl) hL; exact ⟨q, 0, e1, e2, by rw [← upd_same L 11 true] at e3; simpa only [upd_other _ _ (show 9 ≠ 11 by decide), upd_other _ _ (show 10 ≠ 11 by decide)] using e3⟩⟩)
  case fin =>
    intro L a' w1 hI hall
    have hw := hI.world
    simp only [hall 9 (by decide), hall 10 (by decide), hall 11 (by decide), if_true] at hw
    obtain ⟨q, hq, hq1, hq2, _, hr⟩ := hw.own rfl
    replace hr := hr rfl
    have ea := act_all a' 38 (by rw [hI.sz]; rfl) hI.df
    simp only [List.range, List.range.loop, List.map] at ea
    rw [hI.fix 0 (Reg.notD rfl) (by decide), hI.fix 1 (Reg.notD rfl) (by decide), hI.fix 2 (Reg.notD rfl) (by decide), hI.fix 3 (Reg.notD rfl) (by decide), hI.fix 4 (Reg.notD rfl) (by decide), hI.fix 5 (Reg.notD rfl) (by decide), hI.fix 17 (Reg.notD rfl) (by decide), hI.fix 18 (Reg.notD rfl) (by decide), hI.fix 19 (Reg.notD rfl) (by decide), hI.fix 20 (Reg.notD rfl) (by decide), hI.fix 21 (Reg.notD rfl) (by decide), hI.fix 22 (Reg.notD rfl) (by decide), hI.fix 23 (Reg.notD rfl) (by decide), hI.fix 24 (Reg.notD rfl) (by decide), hI.fix 25 (Reg.notD rfl) (by decide), hI.fix 26 (Reg.notD rfl) (by decide), hI.fix 27 (Reg.notD rfl) (by decide), hI.fix 28 (Reg.notD rfl) (by decide), hI.fix 29 (Reg.notD rfl) (by decide), hI.fix 30 (Reg.notD rfl) (by decide), hI.fix 31 (Reg.notD rfl) (by decide), hI.fix 32 (Reg.notD rfl) (by decide), hI.fix 33 (Reg.notD rfl) (by decide), hI.fix 34 (Reg.notD rfl) (by decide), hI.fix 35 (Reg.notD rfl) (by decide), hI.fix 36 (Reg.notD rfl) (by decide), hI.fix 37 (Reg.notD rfl) (by decide), hq] at ea
    clear hI hall
    generalize a'.eval (.tmp 7) = u7 at ea
    generalize a'.eval (.tmp 8) = u8 at ea
    generalize a'.eval (.tmp 9) = u9 at ea
    generalize a'.eval (.tmp 10) = u10 at ea
    generalize a'.eval (.tmp 11) = u11 at ea
    generalize a'.eval (.tmp 12) = u12 at ea
    generalize a'.eval (.tmp 13) = u13 at ea
    generalize a'.eval (.tmp 14) = u14 at ea
    generalize a'.eval (.tmp 15) = u15 at ea
    generalize a'.eval (.tmp 16) = u16 at ea
    simp only [show ∀ (ts : Array Value) (ds) (i : Nat), (Act.mk ts ds).eval (.tmp i) = ts.getD i undef from fun _ _ _ => rfl] at ea
    simp at ea
    subst ea
    have M1 := hide (show IsMem w1 bm bw n f' from by simpa using hw.mem)
    have R1 := hide hw.row
    have RR := hide hw.res
    have T1 := hide (T0.out.trans' hw.tch (fun k _ h => .inr h))
    have RQ := hide hr
    have hqb : q ≠ b := by omega
    have hqr : q ≠ w.heap.size := by omega
    have hqr' : w.heap.size ≠ q := by omega
    have hqm : q ≠ bm ∧ q ≠ bw := by omega
    have lw1 := hw.tch.size
    have l1 : b < w1.heap.size := by omega
    have l2 : w.heap.size < w1.heap.size := by omega
    clear hw hr hq
    have d0 : w1.cell? ⟨b, 0, none⟩ = some (.int .i64 hand) := R1.out.cell (i := 0) (by omega)
    have d1 : w1.cell? ⟨b, 1, none⟩ = some (.int .i64 kind) := R1.out.cell (i := 1) (by omega)
    have d2 : w1.cell? ⟨b, 2, none⟩ = some (.int .i64 fr) := R1.out.cell (i := 2) (by omega)
    have d3 : w1.cell? ⟨b, 3, none⟩ = some (.int .i64 on) := R1.out.cell (i := 3) (by omega)
    have d4 : w1.cell? ⟨b, 4, none⟩ = some (.int .i64 st) := R1.out.cell (i := 4) (by omega)
    have d5 : w1.cell? ⟨b, 5, none⟩ = some (.int .u64 head) := R1.out.cell (i := 5) (by omega)
    have d6 : w1.cell? ⟨b, 6, none⟩ = some (.int .i64 place) := R1.out.cell (i := 6) (by omega)
    have d7 : w1.cell? ⟨b, 7, none⟩ = some (.int .i64 below) := R1.out.cell (i := 7) (by omega)
    have d8 : w1.cell? ⟨b, 8, none⟩ = some (.int .u64 value) := R1.out.cell (i := 8) (by omega)
    have d9 : w1.cell? ⟨b, 9, none⟩ = some (.bool t.ok) := R1.out.cell (i := 9) (by omega)
    have d10 : w1.cell? ⟨b, 10, none⟩ = some (.int .u64 t.val) := R1.out.cell (i := 10) (by omega)
    have df0 := R1.out.frozen 0
    have df1 := R1.out.frozen 1
    have df2 := R1.out.frozen 2
    have df3 := R1.out.frozen 3
    have df4 := R1.out.frozen 4
    have df5 := R1.out.frozen 5
    have df6 := R1.out.frozen 6
    have df7 := R1.out.frozen 7
    have df8 := R1.out.frozen 8
    have df9 := R1.out.frozen 9
    have df10 := R1.out.frozen 10
    have r0 : w1.cell? ⟨w.heap.size, 0, none⟩ = some (.int .i64 0) := RR.out.cell (i := 0) (by omega)
    have rf0 := RR.out.frozen 0
    have s0 : w1.cell? ⟨q, 0, none⟩ = some (.int .i64 x.hand) := by have := RQ.out 0 _ rfl; simpa using this
    have r1 : w1.cell? ⟨w.heap.size, 1, none⟩ = some (.int .i64 0) := RR.out.cell (i := 1) (by omega)
    have rf1 := RR.out.frozen 1
    have s1 : w1.cell? ⟨q, 1, none⟩ = some (.int .i64 x.act) := by have := RQ.out 1 _ rfl; simpa using this
    have r2 : w1.cell? ⟨w.heap.size, 2, none⟩ = some (.int .i64 0) := RR.out.cell (i := 2) (by omega)
    have rf2 := RR.out.frozen 2
    have s2 : w1.cell? ⟨q, 2, none⟩ = some (.int .i64 x.at_) := by have := RQ.out 2 _ rfl; simpa using this
    have r3 : w1.cell? ⟨w.heap.size, 3, none⟩ = some (.int .u64 0) := RR.out.cell (i := 3) (by omega)
    have rf3 := RR.out.frozen 3
    have s3 : w1.cell? ⟨q, 3, none⟩ = some (.int .u64 x.had) := by have := RQ.out 3 _ rfl; simpa using this
    have r4 : w1.cell? ⟨w.heap.size, 4, none⟩ = some (.int .u64 0) := RR.out.cell (i := 4) (by omega)
    have rf4 := RR.out.frozen 4
    have s4 : w1.cell? ⟨q, 4, none⟩ = some (.int .u64 x.put) := by have := RQ.out 4 _ rfl; simpa using this
    have r5 : w1.cell? ⟨w.heap.size, 5, none⟩ = some (.bool false) := RR.out.cell (i := 5) (by omega)
    have rf5 := RR.out.frozen 5
    have s5 : w1.cell? ⟨q, 5, none⟩ = some (.bool x.ok) := by have := RQ.out 5 _ rfl; simpa using this
    go_wp2_with fail
    have HD := hide (show b ≠ bm ∧ b ≠ bw ∧ b ≠ w.heap.size ∧ b ≠ q from ⟨h1, h2, Ne.symm hn3, Ne.symm hqb⟩)
    clear d0 df0 d1 df1 d2 df2 d3 df3 d4 df4 d5 df5 d6 df6 d7 df7 d8 df8 d9 df9 d10 df10 r0 rf0 s0 r1 rf1 s1 r2 rf2 s2 r3 rf3 s3 r4 rf4 s4 r5 rf5 s5
    refine RG.region (ks := [(0, 17), (1, 18), (2, 19), (3, 20), (4, 21), (5, 22), (6, 23), (7, 24), (8, 25), (10, 26), (11, 27)]) (vals := fun i => match i with
        | 0 => .pointer (some ⟨b, 0, none⟩)
        | 1 => .pointer (some ⟨b, 0, none⟩)
        | 2 => .pointer (some ⟨q, 3, none⟩)
        | 3 => .int .u64 x.had
        | 4 => .pointer (some ⟨q, 3, none⟩)
        | 5 => .int .u64 x.had
        | 6 => .int .i64 ix
        | 7 => .pointer (some ⟨b, 0, none⟩)
        | 8 => .pointer (some ⟨b, 5, none⟩)
        | 10 => .pointer (some ⟨b, 0, none⟩)
        | 11 => .pointer (some ⟨b, 6, none⟩)
        | _ => undef) (x := 2) (WI := fun L v w' => FW b bm bw n f' x w.heap.size q hand kind fr on st head place below value ix t w1 (L 9) (L 12) w') (by kernel_rfl) ?gg ?bk rfl ?dd ?xx (FW.start R1.out M1.out RR.out RQ.out hq2) ?does ?fin
    case gg =>
      intro i o ho
      have hi : i < 13 := by have := (Array.getElem?_eq_some_iff.1 ho).1; simpa using this
      match i, hi with
      | 0, _ | 1, _ | 2, _ | 3, _ | 4, _ | 5, _ | 6, _ | 7, _ | 8, _ | 9, _ | 10, _ | 11, _ | 12, _ => injection ho with ho; subst ho; rfl
    case bk =>
      intro i o ho
      have hi : i < 13 := by have := (Array.getElem?_eq_some_iff.1 ho).1; simpa using this
      match i, hi with
      | 0, _ | 1, _ | 2, _ | 3, _ | 4, _ | 5, _ | 6, _ | 7, _ | 8, _ | 9, _ | 10, _ | 11, _ | 12, _ => injection ho with ho; subst ho; simp [Region.binds]
    case dd =>
      intro k hk
      have hk' : k < 38 := by
        simp [RetN.D] at hk
        omega
      simpa using hk'
    case xx => simp
    case does =>
      intro i o ho
      have hi : i < 13 := by have := (Array.getElem?_eq_some_iff.1 ho).1; simpa using this
      match i, hi with
      | 0, _ => injection ho with ho; subst ho; exact RG.Does.read rfl (fun L v w' h => FW.skip (by decide) (by decide) h) (fun L a w' hI hd => ex_move rfl (hI.fix 0 (Reg.notD rfl) (by decide)))
      | 1, _ => injection ho with ho; subst ho; exact RG.Does.read rfl (fun L v w' h => FW.skip (by decide) (by decide) h) (fun L a w' hI hd => ex_move rfl (hI.fix 0 (Reg.notD rfl) (by decide)))
      | 2, _ => injection ho with ho; subst ho; exact RG.Does.read rfl (fun L v w' h => FW.skip (by decide) (by decide) h) (fun L a w' hI hd => ex_field rfl (hI.fix 6 (Reg.notD rfl) (by decide)) (fieldS3 w' _))
      | 3, _ => injection ho with ho; subst ho; exact RG.Does.read rfl (fun L v w' h => FW.skip (by decide) (by decide) h) (fun L a w' hI hd => ex_load rfl (hI.pure 2 _ _ rfl (hd ⟨2, .data⟩ (by simp) rfl)) (aggU w') (by have := hI.world.rq 3 _ rfl; simpa using this))
      | 4, _ => injection ho with ho; subst ho; exact RG.Does.read rfl (fun L v w' h => FW.skip (by decide) (by decide) h) (fun L a w' hI hd => ex_field rfl (hI.fix 6 (Reg.notD rfl) (by decide)) (fieldS3 w' _))
      | 5, _ => injection ho with ho; subst ho; exact RG.Does.read rfl (fun L v w' h => FW.skip (by decide) (by decide) h) (fun L a w' hI hd => ex_load rfl (hI.pure 4 _ _ rfl (hd ⟨4, .data⟩ (by simp) rfl)) (aggU w') (by have := hI.world.rq 3 _ rfl; simpa using this))
      | 6, _ => injection ho with ho; subst ho; exact RG.Does.ask rfl (fun L v w' h => FW.skip (by decide) (by decide) h) (fun L a w' hI hd => call1 rfl (hI.pure 5 _ _ rfl (hd ⟨5, .data⟩ (by simp) rfl)) rfl (callIndex _ _)) (fun w => by rw [← HIX.out]; exact index_any x.had HXH.out.1 (by have := HXH.out.2; omega) w)
      | 7, _ => injection ho with ho; subst ho; exact RG.Does.read rfl (fun L v w' h => FW.skip (by decide) (by decide) h) (fun L a w' hI hd => ex_nil rfl (hI.pure 0 _ _ rfl (hd ⟨0, .data⟩ (by simp) rfl)))
      | 8, _ => injection ho with ho; subst ho; exact RG.Does.read rfl (fun L v w' h => FW.skip (by decide) (by decide) h) (fun L a w' hI hd => ex_field rfl (hI.pure 7 _ _ rfl (hd ⟨7, .data⟩ (by simp) rfl)) (fieldP5 w' _))
      | 9, _ => injection ho with ho; subst ho; exact RG.Does.put1 rfl rfl (fun L a w' K hI hL hd hk => RG.wp_store_u rfl (hI.pure 8 _ _ rfl (hd ⟨8, .data⟩ (by simp) rfl)) (hI.pure 3 _ _ rfl (hd ⟨3, .data⟩ (by simp) rfl)) (hI.world.row.cell (i := 5) (by omega)) (hI.world.row.frozen 5) hk) (fun L u w' h hL hd => by rw [upd_same, upd_other _ _ (show 12 ≠ 9 by decide)]; exact FW.putH h HD.out)
      | 10, _ => injection ho with ho; subst ho; exact RG.Does.read rfl (fun L v w' h => FW.skip (by decide) (by decide) h) (fun L a w' hI hd => ex_nil rfl (hI.pure 1 _ _ rfl (hd ⟨1, .data⟩ (by simp) rfl)))
      | 11, _ => injection ho with ho; subst ho; exact RG.Does.read rfl (fun L v w' h => FW.skip (by decide) (by decide) h) (fun L a w' hI hd => ex_field rfl (hI.pure 10 _ _ rfl (hd ⟨10, .data⟩ (by simp) rfl)) (fieldP6 w' _))
      | 12, _ => injection ho with ho; subst ho; exact RG.Does.put1 rfl rfl (fun L a w' K hI hL hd hk => RG.wp_store_i rfl (hI.pure 11 _ _ rfl (hd ⟨11, .data⟩ (by simp) rfl)) (hI.pure 6 _ _ rfl (hd ⟨6, .data⟩ (by simp) rfl)) (hI.world.row.cell (i := 6) (by omega)) (hI.world.row.frozen 6) hk) (fun L u w' h hL hd => by rw [upd_same, upd_other _ _ (show 9 ≠ 12 by decide)]; exact FW.putP h HD.out)
    case fin =>
      intro L a' w2 hI hall
      have hw := hI.world
      simp only [hall 9 (by decide), hall 12 (by decide)] at hw
      have ea := act_all a' 38 (by rw [hI.sz]; rfl) hI.df
      simp only [List.range, List.range.loop, List.map] at ea
      rw [hI.fix 0 (Reg.notD rfl) (by decide), hI.fix 1 (Reg.notD rfl) (by decide), hI.fix 3 (Reg.notD rfl) (by decide), hI.fix 4 (Reg.notD rfl) (by decide), hI.fix 5 (Reg.notD rfl) (by decide), hI.fix 6 (Reg.notD rfl) (by decide), hI.fix 7 (Reg.notD rfl) (by decide), hI.fix 8 (Reg.notD rfl) (by decide), hI.fix 9 (Reg.notD rfl) (by decide), hI.fix 10 (Reg.notD rfl) (by decide), hI.fix 11 (Reg.notD rfl) (by decide), hI.fix 12 (Reg.notD rfl) (by decide), hI.fix 13 (Reg.notD rfl) (by decide), hI.fix 14 (Reg.notD rfl) (by decide), hI.fix 15 (Reg.notD rfl) (by decide), hI.fix 16 (Reg.notD rfl) (by decide), hI.fix 28 (Reg.notD rfl) (by decide), hI.fix 29 (Reg.notD rfl) (by decide), hI.fix 30 (Reg.notD rfl) (by decide), hI.fix 31 (Reg.notD rfl) (by decide), hI.fix 32 (Reg.notD rfl) (by decide), hI.fix 33 (Reg.notD rfl) (by decide), hI.fix 34 (Reg.notD rfl) (by decide), hI.fix 35 (Reg.notD rfl) (by decide), hI.fix 36 (Reg.notD rfl) (by decide), hI.fix 37 (Reg.notD rfl) (by decide)] at ea
      clear hI hall
      generalize a'.eval (.tmp 2) = v2 at ea
      generalize a'.eval (.tmp 17) = v17 at ea
      generalize a'.eval (.tmp 18) = v18 at ea
      generalize a'.eval (.tmp 19) = v19 at ea
      generalize a'.eval (.tmp 20) = v20 at ea
      generalize a'.eval (.tmp 21) = v21 at ea
      generalize a'.eval (.tmp 22) = v22 at ea
      generalize a'.eval (.tmp 23) = v23 at ea
      generalize a'.eval (.tmp 24) = v24 at ea
      generalize a'.eval (.tmp 25) = v25 at ea
      generalize a'.eval (.tmp 26) = v26 at ea
      generalize a'.eval (.tmp 27) = v27 at ea
      simp only [show ∀ (ts : Array Value) (ds) (i : Nat), (Act.mk ts ds).eval (.tmp i) = ts.getD i undef from fun _ _ _ => rfl] at ea
      simp at ea
      subst ea
      have M2 := hide hw.mem
      have R2 := hide (show w2.rowIs b 130 11 (carC hand kind fr on st x.had ix below value t) from by simpa using hw.row)
      have RR2 := hide hw.res
      have T2 := hide (T1.out.trans' hw.tch (fun k _ h => .inl h))
      have RQ2 := hide hw.rq
      have lw2 := hw.tch.size
      clear hw
      have d0 : w2.cell? ⟨b, 0, none⟩ = some (.int .i64 hand) := R2.out.cell (i := 0) (by omega)
      have d1 : w2.cell? ⟨b, 1, none⟩ = some (.int .i64 kind) := R2.out.cell (i := 1) (by omega)
      have d2 : w2.cell? ⟨b, 2, none⟩ = some (.int .i64 fr) := R2.out.cell (i := 2) (by omega)
      have d3 : w2.cell? ⟨b, 3, none⟩ = some (.int .i64 on) := R2.out.cell (i := 3) (by omega)
      have d4 : w2.cell? ⟨b, 4, none⟩ = some (.int .i64 st) := R2.out.cell (i := 4) (by omega)
      have d5 : w2.cell? ⟨b, 5, none⟩ = some (.int .u64 x.had) := R2.out.cell (i := 5) (by omega)
      have d6 : w2.cell? ⟨b, 6, none⟩ = some (.int .i64 ix) := R2.out.cell (i := 6) (by omega)
      have d7 : w2.cell? ⟨b, 7, none⟩ = some (.int .i64 below) := R2.out.cell (i := 7) (by omega)
      have d8 : w2.cell? ⟨b, 8, none⟩ = some (.int .u64 value) := R2.out.cell (i := 8) (by omega)
      have d9 : w2.cell? ⟨b, 9, none⟩ = some (.bool t.ok) := R2.out.cell (i := 9) (by omega)
      have d10 : w2.cell? ⟨b, 10, none⟩ = some (.int .u64 t.val) := R2.out.cell (i := 10) (by omega)
      have df4 := R2.out.frozen 4
      have r0 : w2.cell? ⟨w.heap.size, 0, none⟩ = some (.int .i64 0) := RR2.out.cell (i := 0) (by omega)
      have rf0 := RR2.out.frozen 0
      have s0 : w2.cell? ⟨q, 0, none⟩ = some (.int .i64 x.hand) := by have := RQ2.out 0 _ rfl; simpa using this
      have r1 : w2.cell? ⟨w.heap.size, 1, none⟩ = some (.int .i64 0) := RR2.out.cell (i := 1) (by omega)
      have rf1 := RR2.out.frozen 1
      have s1 : w2.cell? ⟨q, 1, none⟩ = some (.int .i64 x.act) := by have := RQ2.out 1 _ rfl; simpa using this
      have r2 : w2.cell? ⟨w.heap.size, 2, none⟩ = some (.int .i64 0) := RR2.out.cell (i := 2) (by omega)
      have rf2 := RR2.out.frozen 2
      have s2 : w2.cell? ⟨q, 2, none⟩ = some (.int .i64 x.at_) := by have := RQ2.out 2 _ rfl; simpa using this
      have r3 : w2.cell? ⟨w.heap.size, 3, none⟩ = some (.int .u64 0) := RR2.out.cell (i := 3) (by omega)
      have rf3 := RR2.out.frozen 3
      have s3 : w2.cell? ⟨q, 3, none⟩ = some (.int .u64 x.had) := by have := RQ2.out 3 _ rfl; simpa using this
      have r4 : w2.cell? ⟨w.heap.size, 4, none⟩ = some (.int .u64 0) := RR2.out.cell (i := 4) (by omega)
      have rf4 := RR2.out.frozen 4
      have s4 : w2.cell? ⟨q, 4, none⟩ = some (.int .u64 x.put) := by have := RQ2.out 4 _ rfl; simpa using this
      have r5 : w2.cell? ⟨w.heap.size, 5, none⟩ = some (.bool false) := RR2.out.cell (i := 5) (by omega)
      have rf5 := RR2.out.frozen 5
      have s5 : w2.cell? ⟨q, 5, none⟩ = some (.bool x.ok) := by have := RQ2.out 5 _ rfl; simpa using this
      go_wp2_with fail
      go_light
      refine bodyPost_ret (v := .tuple #[x.val, .int .i64 0]) ?res rfl ⟨rfl, ?row, ?mem, ?tch⟩
      case row =>
        refine World.rowIs.congr ?_ (fun i hi => car_st hand kind fr on st x.had ix below value t 1 i hi)
        repeat (first | (with_reducible apply World.rowIs.alloc) | (with_reducible apply World.rowIs.drew) | (with_reducible refine World.rowIs.setOther ?_ ?side _; case side => (simp; omega)))
        with_reducible refine World.rowIs.set ?_ 4 _
        repeat (first | (with_reducible apply World.rowIs.alloc) | (with_reducible apply World.rowIs.drew) | (with_reducible refine World.rowIs.setOther ?_ ?side _; case side => (simp; omega)))
        first | with_reducible exact R2.out | (have := R2.out; rw [hz] at this; exact this)
      case mem =>
        repeat (first | (with_reducible apply IsMem.alloc) | (with_reducible apply IsMem.drew) | ((with_reducible refine IsMem.setOther ?_ ?_ ?_ _); rotate_left; (simp; omega); (simp; omega)))
        with_reducible exact M2.out
      case tch =>
        repeat (first | (with_reducible apply Touch.alloc) | (with_reducible apply Touch.drew) | (with_reducible refine Touch.setCell ?_ _ ?side _; case side => simp))
        with_reducible exact T2.out
      case res => simp [results, Try.results160, go_sem, Stp.val, *]

end Pile
end Go.Proofs.Ytbjlpmahomjgjaa
