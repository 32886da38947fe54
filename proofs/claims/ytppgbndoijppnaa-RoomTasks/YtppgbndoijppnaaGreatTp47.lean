/-
  Lemmas: RoomM.
-/
import Derived.Test.YtppgbndoijppnaaGreatTp46
import Derived.Test.YtppgbndoijppnaaGreatTp26
import Derived.Test.YtppgbndoijppnaaGreatTp45
namespace Go.Proofs.YtppgbndoijppnaaGreat
set_option maxHeartbeats 8000000
open Go.RowKit
set_option linter.unusedVariables false
set_option linter.unusedSimpArgs false
set_option maxRecDepth 20000
section
namespace Rom
open Hp
def bit1 (c : Int) : Int := if c = 0 then 0 else 1
theorem bitOf_any (c : Int) (w : World) : Calls Tryz.prog 32 #[.int .i64 c] w fun e w' => e = .returned (.int .i64 (bit1 c)) ∧ w' = w := by
 by_cases h : c = 0
 ·subst h
  go_enter Tryz.func32, Tryz.ntmps32
  go_wp2
  go_ret
  exact ⟨rfl, rfl⟩
 ·rw [show bit1 c = 1 from by simp [bit1, h]]
  have h' : (c == 0) = false := by simpa using h
  clear h
  go_enter Tryz.func32, Tryz.ntmps32
  go_wp2
  go_ret
  exact ⟨rfl, rfl⟩
theorem isBit_any (c : Int) (w : World) : Calls Tryz.prog 54 #[.int .i64 c] w fun e w' => e = .returned (.bool (c == bit1 c)) ∧ w' = w := by
 have BO := hide (fun w1 : World => bitOf_any c w1)
 go_enter Tryz.func54, Tryz.ntmps54
 go_wp2_with fail
 refine (BO.out _).mono ?_
 rintro e w1 ⟨rfl, rfl⟩
 go_wp2_with fail
 go_ret
 exact ⟨rfl, rfl⟩
theorem bit_eq (c : Int) : (c == bit1 c) = decide (c = 0 ∨ c = 1) := by
 unfold bit1
 by_cases h : c = 0
 ·simp [h]
 ·by_cases h1 : c = 1
  ·simp [h1]
  ·simp [h, h1]
theorem g_beg (sh : Shp) (hand : Int) (fn v2 v3 : Value) (t : Ans) (ix sl gn : Int) (y : Int) (z : Value) (k : Nat) (hk : k < 15) : (fun k => if k = 1 then z else if k = 0 then Value.int .i64 y else gC sh hand fn v2 v3 t ix sl gn k) k = gC sh y z v2 v3 t ix sl gn k := by
 match k, hk with
 | 0, _ | 1, _ | 2, _ | 3, _ | 4, _ | 5, _ | 6, _ | 7, _ | 8, _ | 9, _ | 10, _ | 11, _ | 12, _ | 13, _ | 14, _ => rfl
theorem ex_mk {ev : Operand → Value} {o : Oper} {w : World} {x y z : Operand} {s0 s1 s2 s3 s4 s5 c : Int} {fl : Bool} (ho : o.op = .build 99 #[(1, x), (2, y), (3, z)]) (hx : ev x = .agg #[.int .i64 s0, .int .i64 s1, .int .i64 s2, .int .i64 s3, .int .i64 s4, .int .i64 s5]) (hy : ev y = .bool fl) (hz : ev z = .int .i64 (bit1 c)) : (execOp ev o).run Tryz.prog w = .ok (.value (.agg #[.int .i64 0, .nilFunc, .nilIface, .nilFunc, .bool false, .int .u64 0, .int .i64 s0, .int .i64 s1, .int .i64 s2, .int .i64 s3, .int .i64 s4, .int .i64 s5, .bool fl, .int .i64 (bit1 c), .int .i64 0, .int .u64 0])) w := by
 simp [execOp, ho, hx, hy, hz, go_sem]
theorem boxrun {P : Program} {ev : Operand → Value} {o : Oper} {w : World} {y : Operand} {ty : TypeId} {vs : Array Value} (ho : o.op = .box ty y) (hy : ev y = .agg vs) (hr : (Instr.box ty (.agg vs)).run P w = .ok (.pointer (some ⟨w.heap.size, 0, none⟩)) (w.alloc (.cells vs ty))) : (execOp ev o).run P w = .ok (.value (.pointer (some ⟨w.heap.size, 0, none⟩))) (w.alloc (.cells vs ty)) := by
 simp [execOp, ho, hy, hr]
structure SM1 (D : World) (O : Obj) (bx : Bool) (w : World) : Prop where
 eq : w = if bx = true then D.alloc O else D
theorem SM1.skip {D : World} {O : Obj} {L : Nat → Bool} {i ib : Nat} {w : World} (h1 : ib ≠ i) (h : SM1 D O (L ib) w) : SM1 D O (upd L i true ib) w := by
 rwa [upd_other _ _ h1]
theorem SM1.range {D : World} {O : Obj} {bx : Bool} {w : World} {b : Nat} {vs : List Value} (h : SM1 D O bx w) (hb : b < D.heap.size) (hr : D.rangeAt b 0 vs) : w.rangeAt b 0 vs := by
 obtain ⟨rfl⟩ := h
 split
 ·exact rangeAt_block hr (((Below.refl _ D).alloc (Nat.le_refl _) O).block b hb)
 ·exact hr
structure SB (b T nc : Nat) (C : Bool → Nat → Value) (w0 : World) (g : Bool) (w : World) : Prop where
 row : w.rowIs b T nc (C g)
 tch : Touch w0 w (fun k => k = b)
theorem SB.start {b T nc : Nat} {C : Bool → Nat → Value} {w0 : World} (h : w0.rowIs b T nc (C false)) : SB b T nc C w0 false { w0 with drawn := w0.drawn + 1 } := ⟨h.drew, (Touch.refl w0 _).drew⟩
theorem SBq {b T nc : Nat} {C : Bool → Nat → Value} {w0 w w' : World} {g : Bool} (h : SB b T nc C w0 g w) (hb : Below w.heap.size w w') : SB b T nc C w0 g w' := ⟨h.row.of_block (hb.block _ h.row.lt), h.tch.trans' (S' := fun _ => False) ⟨hb.os, hb.tape, hb.output, hb.size, fun k hk _ => hb.block k hk⟩ (fun _ _ e => e.elim)⟩
theorem SB.skip {b T nc : Nat} {C : Bool → Nat → Value} {w0 w : World} {L : Nat → Bool} {i kb : Nat} (h1 : kb ≠ i) (h : SB b T nc C w0 (L kb) w) : SB b T nc C w0 (upd L i true kb) w := by
 rwa [upd_other _ _ h1]
theorem touch_grown {w w0 w' : World} {b : Nat} (h : Touch w0 w' (fun k => k = b)) (hb : w.heap.size ≤ b) (h0 : Below w.heap.size w w0) : w.grownBy w' none :=
 ⟨h.os.trans h0.os, h.tape.trans h0.tape, h.output.trans h0.output, Nat.le_trans h0.size h.size, fun k hk _ => (h.block k (Nat.lt_of_lt_of_le hk h0.size) (by omega)).trans (h0.block k hk)⟩
def MS (V : World) (b : Nat) (sh : Shp) (hand : Int) (C : Nat → Value) (n : Nat) (s : Nat → Value) (w' : World) : Prop :=
 match n with
 | 0 => Below V.heap.size V w'
 | 1 => ∃ B R, s 22 = .iface (Ls.tid dj) (.pointer (some ⟨B 0, 0, none⟩)) ∧ (Ls.kList sh).Lies w' dj B R (Ls.init sh hand dj) ∧ (∀ i x, R i = some x → V.heap.size ≤ B i) ∧ Below V.heap.size V w'
 | _ => ∃ B R, (Ls.kList sh).Lies w' dj B R (Ls.init sh hand dj) ∧ (∀ i x, R i = some x → V.heap.size ≤ B i) ∧ Touch V w' (fun k => k = b) ∧ w'.rowIs b 99 16 (fun k => if k = 1 then .func (.func 93) #[.pointer (some ⟨b, 0, none⟩)] #[] else if k = 3 then .func (.func 35) #[.pointer (some ⟨b, 0, none⟩)] #[] else if k = 2 then .iface (Ls.tid dj) (.pointer (some ⟨B 0, 0, none⟩)) else if k = 0 then .int .i64 hand else C k)
theorem MS.loc {V : World} {b : Nat} {sh : Shp} {hand : Int} {C : Nat → Value} {n : Nat} {s s' : Nat → Value} {w' : World} (hs : s 22 = s' 22) (h : MS V b sh hand C n s w') : MS V b sh hand C n s' w' := by
 match n with
 | 0 => exact h
 | 1 => obtain ⟨B, R, e, h⟩ := h; exact ⟨B, R, hs ▸ e, h⟩
 | _ + 2 => exact h
theorem MS.range {V : World} {b q : Nat} {sh : Shp} {hand : Int} {C : Nat → Value} {n : Nat} {s : Nat → Value} {w' : World} {vs : List Value} (h : MS V b sh hand C n s w') (hr : V.rangeAt q 0 vs) (hq : q < V.heap.size) (hb : q ≠ b) : w'.rangeAt q 0 vs := by
 match n with
 | 0 => exact rangeAt_block hr (h.block _ hq)
 | 1 => obtain ⟨B, R, e, _, _, h⟩ := h; exact rangeAt_block hr (h.block _ hq)
 | _ + 2 => obtain ⟨B, R, _, _, h, _⟩ := h; exact rangeAt_block hr (h.block _ hq hb)
theorem make_ok (sh : Shp) (hand c : Int) (fl : Bool) (w : World) :
  Calls Tryz.prog 14 #[sh.val, .int .i64 hand, .bool fl, .int .i64 c] w fun e w' => ∃ b, e = .returned (.iface 91 (.pointer (some ⟨b, 0, none⟩))) ∧
   ∃ B2 R2, w'.rowIs b 99 16 (mC sh hand (.func (.func 93) #[.pointer (some ⟨b, 0, none⟩)] #[]) (.iface (Ls.tid dj) (.pointer (some ⟨B2 0, 0, none⟩))) (.func (.func 35) #[.pointer (some ⟨b, 0, none⟩)] #[]) ⟨false, 0⟩ fl (bit1 c) 0 0) ∧ (Ls.kList sh).Lies w' dj B2 R2 (Ls.init sh hand dj) ∧ (∀ i x, R2 i = some x → w.heap.size ≤ B2 i ∧ B2 i ≠ b) ∧ w.heap.size ≤ b ∧ w.grownBy w' none := by
 have BO := hide (fun w1 : World => bitOf_any c w1)
 obtain ⟨dG, hdG1, hdG2⟩ := rowSh
 have HDS := hide (And.intro hdG1 hdG2)
 clear hdG1 hdG2
 obtain ⟨s0, s1, s2, s3, s4, s5⟩ := sh
 simp only [Shp.val]
 obtain ⟨W0, hW0, B0, K⟩ := Shape.box w s0 s1 s2 s3 s4 s5
 have HB := hide B0
 have sz0 : W0.heap.size = w.heap.size + 1 := by rw [← hW0]; simp
 obtain ⟨-, l0, x0, x1, x2, x3, x4, x5⟩ := K.out W0 (Below.refl _ _)
 clear B0 K
 obtain ⟨b, hb⟩ : ∃ b, w.heap.size + 1 = b := ⟨_, rfl⟩
 have HBB := hide (show W0.heap.size = b by omega)
 have hbw : w.heap.size ≤ b := by omega
 clear hb
 have RGE := hide (show ({ W0 with drawn := W0.drawn + 1 } : World).rangeAt w.heap.size 0 [.int .i64 s0, .int .i64 s1, .int .i64 s2, .int .i64 s3, .int .i64 s4, .int .i64 s5] from rangeAt_block (Shape.rng x0 x1 x2 x3 x4 x5) rfl)
 have lD : w.heap.size < ({ W0 with drawn := W0.drawn + 1 } : World).heap.size := l0
 go_enter Tryz.func14, Tryz.ntmps14
 go_wp2_with fail
 clear hW0 x0 x1 x2 x3 x4 x5
 refine RG.regionB 7 (ks := [(0, 10), (1, 11), (2, 12), (3, 13), (4, 14), (5, 15), (6, 9)]) (vals := fun i => match i with
   | 0 => .agg #[.int .i64 s0, .int .i64 s1, .int .i64 s2, .int .i64 s3, .int .i64 s4, .int .i64 s5]
   | 1 => .bool fl
   | 2 => .int .i64 c
   | 3 => .int .i64 (bit1 c)
   | 4 => .agg #[.int .i64 0, .nilFunc, .nilIface, .nilFunc, .bool false, .int .u64 0, .int .i64 s0, .int .i64 s1, .int .i64 s2, .int .i64 s3, .int .i64 s4, .int .i64 s5, .bool fl, .int .i64 (bit1 c), .int .i64 0, .int .u64 0]
   | 5 => .pointer (some ⟨b, 0, none⟩)
   | 6 => .pointer (some ⟨b, 0, none⟩)
   | _ => undef) (x := 5) (WI := fun L v_ w' => SM1 ({ W0 with drawn := W0.drawn + 1 } : World) (.cells #[.int .i64 0, .nilFunc, .nilIface, .nilFunc, .bool false, .int .u64 0, .int .i64 s0, .int .i64 s1, .int .i64 s2, .int .i64 s3, .int .i64 s4, .int .i64 s5, .bool fl, .int .i64 (bit1 c), .int .i64 0, .int .u64 0] 99) (L 5) w') (by kernel_rfl) (by kernel_rfl) rfl (by kernel_rfl) (by kernel_rfl) ⟨rfl⟩ ?does ?fin
 case does =>
  intro i o ho
  have hi : i < 7 := RG.lt_of ho rfl
  match i, hi with
  | 0, _ => cases ho; exact RG.Does.read rfl (fun L v_ w' h => SM1.skip (by decide) h) (fun L a w' hI hd => ex_load_row rfl (hI.fx 4 rfl) (hI.world.range lD RGE.out) HDS.out.1 HDS.out.2 sizeSh)
  | 1, _ => cases ho; exact RG.Does.read rfl (fun L v_ w' h => SM1.skip (by decide) h) (fun L a w' hI hd => ex_move rfl (hI.fx 2 rfl))
  | 2, _ => cases ho; exact RG.Does.read rfl (fun L v_ w' h => SM1.skip (by decide) h) (fun L a w' hI hd => ex_move rfl (hI.fx 3 rfl))
  | 3, _ => cases ho; exact RG.Does.ask rfl (fun L v_ w' h => SM1.skip (by decide) h) (fun L a w' hI hd => call1 rfl (hI.pure 2 _ _ rfl (hd ⟨2, .data⟩ (by simp) rfl)) rfl (by simp [go_sem])) (fun w9 : World => BO.out w9)
  | 4, _ => cases ho; exact RG.Does.read rfl (fun L v_ w' h => SM1.skip (by decide) h) (fun L a w' hI hd => ex_mk rfl (hI.pure 0 _ _ rfl (hd ⟨0, .data⟩ (by simp) rfl)) (hI.pure 1 _ _ rfl (hd ⟨1, .data⟩ (by simp) rfl)) (hI.pure 3 _ _ rfl (hd ⟨3, .data⟩ (by simp) rfl)))
  | 5, _ => cases ho; exact RG.Does.mk rfl (fun L a w' K hI hL hd hk => wp_value (boxrun rfl (hI.pure 4 _ _ rfl (hd ⟨4, .data⟩ (by simp) rfl)) (by simp [go_sem])) (hk _ _ (fun d _ => by have e := hI.world.eq; rw [hL] at e; show Value.pointer (some ⟨w'.heap.size, 0, none⟩) = .pointer (some ⟨b, 0, none⟩); rw [e]; simpa using HBB.out) (by have e := hI.world.eq; rw [hL] at e; refine ⟨?_⟩; rw [upd_same, if_pos rfl, e]; rfl)))
  | 6, _ => cases ho; exact RG.Does.read rfl (fun L v_ w' h => SM1.skip (by decide) h) (fun L a w' hI hd => ex_assign rfl (hI.pure 5 _ _ rfl (hd ⟨5, .data⟩ (by simp) rfl)))
 case fin =>
  intro L a' w4 hI hall
  have hw := hI.world.eq
  rw [hall 5 (by decide), if_pos rfl] at hw
  have ea := act_all a' 28 (by rw [hI.sz]; rfl) hI.df
  simp only [List.range, List.range.loop, List.map] at ea
  rw [hI.fx 0 rfl, hI.fx 1 rfl, hI.fx 2 rfl, hI.fx 3 rfl, hI.fx 4 rfl, hI.fx 6 rfl, hI.fx 7 rfl, hI.fx 8 rfl, hI.fx 16 rfl, hI.fx 17 rfl, hI.fx 18 rfl, hI.fx 19 rfl, hI.fx 20 rfl, hI.fx 21 rfl, hI.fx 22 rfl, hI.fx 23 rfl, hI.fx 24 rfl, hI.fx 25 rfl, hI.fx 26 rfl, hI.fx 27 rfl] at ea
  have kv9 := hI.pure 6 9 _ rfl (hall 6 (by decide))
  clear hI hall
  obtain ⟨us, hus⟩ : ∃ us : Nat → Value, ∀ k, a'.eval (.tmp k) = us k := ⟨_, fun _ => rfl⟩
  simp only [hus] at ea kv9
  rw [kv9] at ea
  simp only [show ∀ (ts : Array Value) (ds) (i : Nat), (Act.mk ts ds).eval (.tmp i) = ts.getD i undef from fun _ _ _ => rfl] at ea
  simp at ea
  subst ea
  have R1 := hide (show w4.rowIs b 99 16 (mC ⟨s0, s1, s2, s3, s4, s5⟩ 0 .nilFunc .nilIface .nilFunc ⟨false, 0⟩ fl (bit1 c) 0 0) from by
   rw [hw]
   have := rowIs_cells (w := ({ W0 with drawn := W0.drawn + 1 } : World)) #[.int .i64 0, .nilFunc, .nilIface, .nilFunc, .bool false, .int .u64 0, .int .i64 s0, .int .i64 s1, .int .i64 s2, .int .i64 s3, .int .i64 s4, .int .i64 s5, .bool fl, .int .i64 (bit1 c), .int .i64 0, .int .u64 0] 99 (mC ⟨s0, s1, s2, s3, s4, s5⟩ 0 .nilFunc .nilIface .nilFunc ⟨false, 0⟩ fl (bit1 c) 0 0) 16 rfl (fun i hi => by
    match i, hi with
    | 0, _ | 1, _ | 2, _ | 3, _ | 4, _ | 5, _ | 6, _ | 7, _ | 8, _ | 9, _ | 10, _ | 11, _ | 12, _ | 13, _ | 14, _ | 15, _ => rfl
    | k + 16, hk => exact absurd hk (by omega))
   rw [show ({ W0 with drawn := W0.drawn + 1 } : World).heap.size = b from HBB.out] at this
   exact this)
  have B4 := hide (show Below w.heap.size w w4 from by rw [hw]; exact (HB.out.drew).alloc (by have := HB.out.size; simpa using this) _)
  have RG4 := hide (show w4.rangeAt w.heap.size 0 [.int .i64 s0, .int .i64 s1, .int .i64 s2, .int .i64 s3, .int .i64 s4, .int .i64 s5] from by rw [hw]; exact rangeAt_block RGE.out (((Below.refl _ ({ W0 with drawn := W0.drawn + 1 } : World)).alloc (Nat.le_refl _) _).block _ lD))
  have l4 : w.heap.size < w4.heap.size := by have := B4.out.size; have := R1.out.lt; omega
  have lb4 : b < w4.heap.size := R1.out.lt
  have nb4 : w.heap.size ≠ b := by have := HBB.out; omega
  clear hw
  go_wp2_with fail
  refine LtH.region2 (ks := [(0, 16), (1, 17), (2, 18), (3, 19), (4, 20), (5, 21), (7, 23), (8, 24)]) (vals := fun iv => match iv with | 0 => .pointer (some ⟨b, 0, none⟩) | 1 => .pointer (some ⟨b, 0, none⟩) | 2 => .pointer (some ⟨b, 0, none⟩) | 3 => .int .i64 hand | 4 => .agg #[.int .i64 s0, .int .i64 s1, .int .i64 s2, .int .i64 s3, .int .i64 s4, .int .i64 s5] | 5 => .int .i64 hand | 7 => .pointer (some ⟨b, 0, none⟩) | 8 => (.func (.func 35) #[.pointer (some ⟨b, 0, none⟩)] #[]) | _ => undef)
   (xs := [22, 25]) (WI := LtE.WI [6, 9] [] (MS w4 b ⟨s0, s1, s2, s3, s4, s5⟩ hand (mC ⟨s0, s1, s2, s3, s4, s5⟩ 0 .nilFunc .nilIface .nilFunc ⟨false, 0⟩ fl (bit1 c) 0 0))) (by kernel_rfl) ?Agd ?Abk rfl ?Add ?Axx ?Alc ?Ast ?Ado ?Afi
  case Agd =>
   intro iq oq ho
   have hiq : iq < 10 := by have := (Array.getElem?_eq_some_iff.1 ho).1; simpa using this
   match iq, hiq with
   | 0, _ | 1, _ | 2, _ | 3, _ | 4, _ | 5, _ | 6, _ | 7, _ | 8, _ | 9, _ => cases ho; rfl
  case Abk =>
   intro iq oq ho
   have hiq : iq < 10 := by have := (Array.getElem?_eq_some_iff.1 ho).1; simpa using this
   match iq, hiq with
   | 0, _ | 1, _ | 2, _ | 3, _ | 4, _ | 5, _ | 6, _ | 7, _ | 8, _ | 9, _ => cases ho; simp [Region.binds]
  case Add =>
   intro kq hk
   have hk2 : kq < 28 := by
    simp [Lt.D] at hk
    omega
   exact hk2
  case Axx =>
   intro kq hk
   have hk2 : kq < 28 := by
    simp at hk
    omega
   exact hk2
  case Alc =>
   rintro L s1 s2 w1' hx ⟨⟨n1, h1', h2', h3⟩, h4⟩
   exact ⟨⟨n1, h1', h2', MS.loc (hx 22 rfl) h3⟩, h4⟩
  case Ast => exact LtE.WI.start (show Below w4.heap.size w4 _ from (Below.refl _ w4).drew)
  case Ado =>
   intro iq oq ho
   have hiq : iq < 10 := by have := (Array.getElem?_eq_some_iff.1 ho).1; simpa using this
   match iq, hiq with
   | 0, _ => cases ho; exact LtE.read rfl rfl rfl (fun L a w' hI hL hq => Lt.ex_move rfl (hI.fix 9 (Lt.notD rfl) rfl))
   | 1, _ => cases ho; exact LtE.read rfl rfl rfl (fun L a w' hI hL hq => ex_nilc rfl (hI.pure 0 _ _ rfl (hq ⟨0, .data⟩ (by simp) rfl)))
   | 2, _ => cases ho; exact LtE.read rfl rfl rfl (fun L a w' hI hL hq => Lt.ex_field rfl (hI.pure 1 _ _ rfl (hq ⟨1, .data⟩ (by simp) rfl)) (fieldM0 w' b))
   | 3, _ => cases ho; exact LtE.read rfl rfl rfl (fun L a w' hI hL hq => Lt.ex_move rfl (hI.fix 1 (Lt.notD rfl) rfl))
   | 4, _ => cases ho; exact LtE.read rfl rfl rfl (fun L a w' hI hL hq => Lt.ex_load_row (cs := [.int .i64 s0, .int .i64 s1, .int .i64 s2, .int .i64 s3, .int .i64 s4, .int .i64 s5]) rfl (hI.fix 4 (Lt.notD rfl) rfl) (by obtain ⟨n1, hn1⟩ := hI.world.any; exact hn1.range RG4.out l4 nb4) (by kernel_rfl) (by kernel_rfl))
   | 5, _ => cases ho; exact LtE.read rfl rfl rfl (fun L a w' hI hL hq => Lt.ex_move rfl (hI.fix 1 (Lt.notD rfl) rfl))
   | 6, _ => cases ho; exact LtE.call (m := 0) (args := fun s => #[.agg #[.int .i64 s0, .int .i64 s1, .int .i64 s2, .int .i64 s3, .int .i64 s4, .int .i64 s5], .int .i64 hand, .int .i64 1]) (by decide) rfl rfl rfl rfl (fun L hq p hp e => by cases hp) (fun L hq m1 j1 e1 _ => absurd e1 (by omega)) (fun L a w' hI hq hS => Lt.call3 rfl (hI.pure 4 _ _ rfl (hq ⟨4, .data⟩ (by simp) rfl)) (hI.pure 5 _ _ rfl (hq ⟨5, .data⟩ (by simp) rfl)) rfl rfl (by simp [go_sem])) (fun s w' hS => (Ls.draw_new (sh := ⟨s0, s1, s2, s3, s4, s5⟩) hand dj (by decide) w').mono (by rintro e w3 ⟨B, R, rfl, hl, hnw, hg⟩; exact ⟨_, rfl, B, R, by simp, hl, fun i x e => Nat.le_trans hS.size (hnw i x e), hS.grown hg hS.size (fun k hk => by cases hk)⟩))
   | 7, _ => cases ho; exact LtE.read rfl rfl rfl (fun L a w' hI hL hq => Lt.ex_move rfl (hI.fix 9 (Lt.notD rfl) rfl))
   | 8, _ => cases ho; exact LtE.read rfl rfl rfl (fun L a w' hI hL hq => ex_func rfl (hI.pure 7 _ _ rfl (hq ⟨7, .data⟩ (by simp) rfl)))
   | 9, _ => cases ho; exact LtE.call (m := 1) (args := fun s => #[.pointer (some ⟨b, 0, none⟩), .int .i64 hand, s 22, (.func (.func 35) #[.pointer (some ⟨b, 0, none⟩)] #[])]) (by decide) rfl rfl rfl rfl (fun L hq p hp e => by cases hp) (fun L hq m1 j1 e1 hj => by (cases (show m1 = 0 from (by omega))); cases hj; first | exact hq ⟨6, .chain⟩ (by simp) rfl | exact hq ⟨6, .data⟩ (by simp) rfl) (fun L a w' hI hq hS => Lt.call4 rfl (hI.pure 2 _ _ rfl (hq ⟨2, .data⟩ (by simp) rfl)) (hI.pure 3 _ _ rfl (hq ⟨3, .data⟩ (by simp) rfl)) rfl (hI.pure 8 _ _ rfl (hq ⟨8, .data⟩ (by simp) rfl)) rfl (by simp [go_sem])) (fun s w' hS => (by obtain ⟨B, R, e1, hl, hnw, hb⟩ := hS; rw [e1]; exact (beginAlong_any (R1.out.of_block (hb.block _ lb4)) (by omega)).mono (by rintro e w3 ⟨rfl, r3, t3⟩; exact ⟨_, rfl, B, R, hl.touch t3 (fun i x e e' => by have := hnw i x e; omega), hnw, (Touch.of_below hb (fun k => k = b)).trans t3, r3⟩)))
  case Afi =>
   intro L a' w5 hI hall
   have hd := hI.world.done (fun i hi => hall i (by simp at hi ⊢; omega))
   have hfr := LtH.frame hI [16, 17, 18, 19, 20, 21, 22, 23, 24, 25] rfl rfl (fun x hx => by simp at hx ⊢; omega)
   obtain ⟨t16, e16⟩ : ∃ t, a'.eval (.tmp 16) = t := ⟨_, rfl⟩
   obtain ⟨t17, e17⟩ : ∃ t, a'.eval (.tmp 17) = t := ⟨_, rfl⟩
   obtain ⟨t18, e18⟩ : ∃ t, a'.eval (.tmp 18) = t := ⟨_, rfl⟩
   obtain ⟨t19, e19⟩ : ∃ t, a'.eval (.tmp 19) = t := ⟨_, rfl⟩
   obtain ⟨t20, e20⟩ : ∃ t, a'.eval (.tmp 20) = t := ⟨_, rfl⟩
   obtain ⟨t21, e21⟩ : ∃ t, a'.eval (.tmp 21) = t := ⟨_, rfl⟩
   obtain ⟨t22, e22⟩ : ∃ t, a'.eval (.tmp 22) = t := ⟨_, rfl⟩
   obtain ⟨t23, e23⟩ : ∃ t, a'.eval (.tmp 23) = t := ⟨_, rfl⟩
   obtain ⟨t24, e24⟩ : ∃ t, a'.eval (.tmp 24) = t := ⟨_, rfl⟩
   obtain ⟨t25, e25⟩ : ∃ t, a'.eval (.tmp 25) = t := ⟨_, rfl⟩
   rw [hfr]
   simp only [LtH.lay, List.foldl, e16, e17, e18, e19, e20, e21, e22, e23, e24, e25]
   have HDN := hide (show MS w4 b ⟨s0, s1, s2, s3, s4, s5⟩ hand (mC ⟨s0, s1, s2, s3, s4, s5⟩ 0 .nilFunc .nilIface .nilFunc ⟨false, 0⟩ fl (bit1 c) 0 0) 2 (fun _ => undef) w5 from hd)
   clear hfr hI hall hd e16 e17 e18 e19 e20 e21 e22 e23 e24 e25
   simp only [Act.put, List.setIfInBounds_toArray, List.set_cons_succ, List.set_cons_zero]
   go_wp2_with fail
   go_ret
   obtain ⟨B, R, hl, hnw, ht, hr⟩ := HDN.out
   refine ⟨b, rfl, B, R, hr.congr (fun i hi => ?_), hl, fun i x e => ?_, hbw, touch_grown ht hbw B4.out⟩
   ·match i, hi with
    | 0, _ | 1, _ | 2, _ | 3, _ | 4, _ | 5, _ | 6, _ | 7, _ | 8, _ | 9, _ | 10, _ | 11, _ | 12, _ | 13, _ | 14, _ | 15, _ => rfl
    | k + 16, hk => exact absurd hk (by omega)
   ·have := hnw i x e
    have := B4.out.size
    omega
theorem give_wipe {sh : Shp} (h5 : Shape.R5 sh.a sh.b sh.c sh.d sh.e) (hand ix : Int) (ht : slotIn sh ix 0) (w : World) :
  Calls Tryz.prog 16 #[sh.val, .int .i64 hand, .int .i64 ix] w fun e w' => ∃ b, e = .returned (.iface 101 (.pointer (some ⟨b, 0, none⟩))) ∧
   w'.rowIs b 103 15 (gC sh hand (.func (.func 69) #[.pointer (some ⟨b, 0, none⟩)] #[]) .nilIface .nilFunc ⟨false, 0⟩ ix 0 0) ∧ w.heap.size ≤ b ∧ w.grownBy w' none := by
 have H5 := hide h5
 have HT := hide ht
 clear h5 ht
 obtain ⟨s0, s1, s2, s3, s4, s5⟩ := sh
 simp only [Shp.val]
 obtain ⟨W0, hW0, B0, K⟩ := Shape.box w s0 s1 s2 s3 s4 s5
 have HB := hide B0
 have sz0 : W0.heap.size = w.heap.size + 1 := by rw [← hW0]; simp
 obtain ⟨-, l0, x0, x1, x2, x3, x4, x5⟩ := K.out W0 (Below.refl _ _)
 clear B0 K
 obtain ⟨b, hb⟩ : ∃ b, w.heap.size + 1 = b := ⟨_, rfl⟩
 have HBB := hide (show W0.heap.size = b by omega)
 have hbw : w.heap.size ≤ b := by omega
 clear hb
 obtain ⟨W1, hW1⟩ : ∃ W1, W0.alloc (.cells #[.int .i64 0, .nilFunc, .nilIface, .nilFunc, .bool false, .int .u64 0, .int .i64 s0, .int .i64 s1, .int .i64 s2, .int .i64 s3, .int .i64 s4, .int .i64 s5, .int .i64 ix, .int .i64 0, .int .u64 0] 103) = W1 := ⟨_, rfl⟩
 have R1 := hide (show W1.rowIs b 103 15 (gC ⟨s0, s1, s2, s3, s4, s5⟩ 0 .nilFunc .nilIface .nilFunc ⟨false, 0⟩ ix 0 0) from by
  rw [← hW1, ← HBB.out]
  exact rowIs_cells _ _ _ 15 rfl (fun i hi => by
   match i, hi with
   | 0, _ | 1, _ | 2, _ | 3, _ | 4, _ | 5, _ | 6, _ | 7, _ | 8, _ | 9, _ | 10, _ | 11, _ | 12, _ | 13, _ | 14, _ => rfl))
 have B1 := hide (show Below w.heap.size w W1 from by rw [← hW1]; exact HB.out.alloc HB.out.size _)
 go_enter Tryz.func16, Tryz.ntmps16
 go_upto_region 2 with (fail)
 rw [show w.heap.size + 1 = b from by have := HBB.out; omega]
 clear hW0 hW1 x0 x1 x2 x3 x4 x5
 refine RG.regionB 7 (ks := [(0, 12), (1, 13), (2, 14), (3, 15), (4, 16), (5, 17), (6, 18)]) (vals := fun i => match i with
   | 0 => .pointer (some ⟨b, 0, none⟩)
   | 1 => .pointer (some ⟨b, 0, none⟩)
   | 2 => .pointer (some ⟨b, 0, none⟩)
   | 3 => .int .i64 hand
   | 4 => .pointer (some ⟨b, 0, none⟩)
   | 5 => .func (.func 69) #[.pointer (some ⟨b, 0, none⟩)] #[]
   | 6 => .tuple #[]
   | _ => undef) (x := 5) (WI := fun L v_ w' => SB b 103 15 (fun g_ => gC ⟨s0, s1, s2, s3, s4, s5⟩ (if g_ = true then hand else 0) (if g_ = true then (.func (.func 69) #[.pointer (some ⟨b, 0, none⟩)] #[]) else .nilFunc) .nilIface .nilFunc ⟨false, 0⟩ ix 0 0) W1 (L 6) w') (by kernel_rfl) (by kernel_rfl) rfl (by kernel_rfl) (by kernel_rfl) (SB.start R1.out) ?does ?fin
 case does =>
  intro i o ho
  have hi : i < 7 := RG.lt_of ho rfl
  match i, hi with
  | 0, _ => cases ho; exact RG.Does.read rfl (fun L v_ w' h => SB.skip (by decide) h) (fun L a w' hI hd => ex_move rfl (hI.fx 7 rfl))
  | 1, _ => cases ho; exact RG.Does.read rfl (fun L v_ w' h => SB.skip (by decide) h) (fun L a w' hI hd => ex_nil rfl (hI.pure 0 _ _ rfl (hd ⟨0, .data⟩ (by simp) rfl)))
  | 2, _ => cases ho; exact RG.Does.read rfl (fun L v_ w' h => SB.skip (by decide) h) (fun L a w' hI hd => ex_field rfl (hI.pure 1 _ _ rfl (hd ⟨1, .data⟩ (by simp) rfl)) (fieldG0 w' _))
  | 3, _ => cases ho; exact RG.Does.read rfl (fun L v_ w' h => SB.skip (by decide) h) (fun L a w' hI hd => ex_move rfl (hI.fx 1 rfl))
  | 4, _ => cases ho; exact RG.Does.read rfl (fun L v_ w' h => SB.skip (by decide) h) (fun L a w' hI hd => ex_move rfl (hI.fx 7 rfl))
  | 5, _ => cases ho; exact RG.Does.call rfl (fun L a w' hI hd => call1 rfl (hI.pure 4 _ _ rfl (hd ⟨4, .data⟩ (by simp) rfl)) rfl (by simp [go_sem])) (fun L v_ w2 hI hL => (wol_yes hI.row H5.out HT.out).mono (by rintro e w3 ⟨rfl, hb⟩; exact ⟨rfl, SB.skip (by decide)  (SBq hI hb)⟩))
  | 6, _ => cases ho; exact RG.Does.call rfl (fun L a w' hI hd => call3 rfl (hI.pure 2 _ _ rfl (hd ⟨2, .data⟩ (by simp) rfl)) (hI.pure 3 _ _ rfl (hd ⟨3, .data⟩ (by simp) rfl)) (hI.pure 5 _ _ rfl (hd ⟨5, .data⟩ (by simp) rfl)) rfl (by simp [go_sem])) (fun L v_ w2 hI hL => by have h3 := hI; rw [hL] at h3; refine (Ls.begin_any (hand := hand) (F := 69) (p := ⟨b, 0, none⟩) h3.row (by omega)).mono ?_; rintro e w3 ⟨rfl, r3, t3⟩; refine ⟨rfl, ?_⟩; rw [upd_same]; exact ⟨r3.congr (fun i hi => g_beg _ _ _ _ _ _ _ _ _ _ _ i hi), h3.tch.trans' t3 (fun _ _ e => e)⟩)
 case fin =>
  intro L a' w4 hI hall
  have hw := hI.world
  simp only [hall 6 (by decide)] at hw
  have ea := act_all a' 21 (by rw [hI.sz]; rfl) hI.df
  simp only [List.range, List.range.loop, List.map] at ea
  rw [hI.fx 0 rfl, hI.fx 1 rfl, hI.fx 2 rfl, hI.fx 3 rfl, hI.fx 4 rfl, hI.fx 6 rfl, hI.fx 7 rfl, hI.fx 8 rfl, hI.fx 9 rfl, hI.fx 10 rfl, hI.fx 11 rfl, hI.fx 19 rfl, hI.fx 20 rfl] at ea
  clear hI hall
  obtain ⟨us, hus⟩ : ∃ us : Nat → Value, ∀ k, a'.eval (.tmp k) = us k := ⟨_, fun _ => rfl⟩
  simp only [hus] at ea
  simp only [show ∀ (ts : Array Value) (ds) (i : Nat), (Act.mk ts ds).eval (.tmp i) = ts.getD i undef from fun _ _ _ => rfl] at ea
  simp at ea
  subst ea
  have R4 := hide hw.row
  have G4 := hide (touch_grown hw.tch hbw B1.out)
  clear hw
  go_wp2_with fail
  go_ret
  exact ⟨b, rfl, R4.out, hbw, G4.out⟩
theorem give_look {sh : Shp} (h5 : Shape.R5 sh.a sh.b sh.c sh.d sh.e) (hand ix : Int) (ht : ¬ slotIn sh ix 0) (w : World) :
  Calls Tryz.prog 16 #[sh.val, .int .i64 hand, .int .i64 ix] w fun e w' => ∃ b, e = .returned (.iface 101 (.pointer (some ⟨b, 0, none⟩))) ∧
   w'.rowIs b 103 15 (gC sh hand (.func (.func 68) #[.pointer (some ⟨b, 0, none⟩)] #[]) .nilIface .nilFunc ⟨false, 0⟩ ix 0 0) ∧ w.heap.size ≤ b ∧ w.grownBy w' none := by
 have H5 := hide h5
 have HT := hide ht
 clear h5 ht
 obtain ⟨s0, s1, s2, s3, s4, s5⟩ := sh
 simp only [Shp.val]
 obtain ⟨W0, hW0, B0, K⟩ := Shape.box w s0 s1 s2 s3 s4 s5
 have HB := hide B0
 have sz0 : W0.heap.size = w.heap.size + 1 := by rw [← hW0]; simp
 obtain ⟨-, l0, x0, x1, x2, x3, x4, x5⟩ := K.out W0 (Below.refl _ _)
 clear B0 K
 obtain ⟨b, hb⟩ : ∃ b, w.heap.size + 1 = b := ⟨_, rfl⟩
 have HBB := hide (show W0.heap.size = b by omega)
 have hbw : w.heap.size ≤ b := by omega
 clear hb
 obtain ⟨W1, hW1⟩ : ∃ W1, W0.alloc (.cells #[.int .i64 0, .nilFunc, .nilIface, .nilFunc, .bool false, .int .u64 0, .int .i64 s0, .int .i64 s1, .int .i64 s2, .int .i64 s3, .int .i64 s4, .int .i64 s5, .int .i64 ix, .int .i64 0, .int .u64 0] 103) = W1 := ⟨_, rfl⟩
 have R1 := hide (show W1.rowIs b 103 15 (gC ⟨s0, s1, s2, s3, s4, s5⟩ 0 .nilFunc .nilIface .nilFunc ⟨false, 0⟩ ix 0 0) from by
  rw [← hW1, ← HBB.out]
  exact rowIs_cells _ _ _ 15 rfl (fun i hi => by
   match i, hi with
   | 0, _ | 1, _ | 2, _ | 3, _ | 4, _ | 5, _ | 6, _ | 7, _ | 8, _ | 9, _ | 10, _ | 11, _ | 12, _ | 13, _ | 14, _ => rfl))
 have B1 := hide (show Below w.heap.size w W1 from by rw [← hW1]; exact HB.out.alloc HB.out.size _)
 go_enter Tryz.func16, Tryz.ntmps16
 go_upto_region 2 with (fail)
 rw [show w.heap.size + 1 = b from by have := HBB.out; omega]
 clear hW0 hW1 x0 x1 x2 x3 x4 x5
 refine RG.regionB 7 (ks := [(0, 12), (1, 13), (2, 14), (3, 15), (4, 16), (5, 17), (6, 18)]) (vals := fun i => match i with
   | 0 => .pointer (some ⟨b, 0, none⟩)
   | 1 => .pointer (some ⟨b, 0, none⟩)
   | 2 => .pointer (some ⟨b, 0, none⟩)
   | 3 => .int .i64 hand
   | 4 => .pointer (some ⟨b, 0, none⟩)
   | 5 => .func (.func 68) #[.pointer (some ⟨b, 0, none⟩)] #[]
   | 6 => .tuple #[]
   | _ => undef) (x := 5) (WI := fun L v_ w' => SB b 103 15 (fun g_ => gC ⟨s0, s1, s2, s3, s4, s5⟩ (if g_ = true then hand else 0) (if g_ = true then (.func (.func 68) #[.pointer (some ⟨b, 0, none⟩)] #[]) else .nilFunc) .nilIface .nilFunc ⟨false, 0⟩ ix 0 0) W1 (L 6) w') (by kernel_rfl) (by kernel_rfl) rfl (by kernel_rfl) (by kernel_rfl) (SB.start R1.out) ?does ?fin
 case does =>
  intro i o ho
  have hi : i < 7 := RG.lt_of ho rfl
  match i, hi with
  | 0, _ => cases ho; exact RG.Does.read rfl (fun L v_ w' h => SB.skip (by decide) h) (fun L a w' hI hd => ex_move rfl (hI.fx 7 rfl))
  | 1, _ => cases ho; exact RG.Does.read rfl (fun L v_ w' h => SB.skip (by decide) h) (fun L a w' hI hd => ex_nil rfl (hI.pure 0 _ _ rfl (hd ⟨0, .data⟩ (by simp) rfl)))
  | 2, _ => cases ho; exact RG.Does.read rfl (fun L v_ w' h => SB.skip (by decide) h) (fun L a w' hI hd => ex_field rfl (hI.pure 1 _ _ rfl (hd ⟨1, .data⟩ (by simp) rfl)) (fieldG0 w' _))
  | 3, _ => cases ho; exact RG.Does.read rfl (fun L v_ w' h => SB.skip (by decide) h) (fun L a w' hI hd => ex_move rfl (hI.fx 1 rfl))
  | 4, _ => cases ho; exact RG.Does.read rfl (fun L v_ w' h => SB.skip (by decide) h) (fun L a w' hI hd => ex_move rfl (hI.fx 7 rfl))
  | 5, _ => cases ho; exact RG.Does.call rfl (fun L a w' hI hd => call1 rfl (hI.pure 4 _ _ rfl (hd ⟨4, .data⟩ (by simp) rfl)) rfl (by simp [go_sem])) (fun L v_ w2 hI hL => (wol_no hI.row H5.out HT.out).mono (by rintro e w3 ⟨rfl, hb⟩; exact ⟨rfl, SB.skip (by decide)  (SBq hI hb)⟩))
  | 6, _ => cases ho; exact RG.Does.call rfl (fun L a w' hI hd => call3 rfl (hI.pure 2 _ _ rfl (hd ⟨2, .data⟩ (by simp) rfl)) (hI.pure 3 _ _ rfl (hd ⟨3, .data⟩ (by simp) rfl)) (hI.pure 5 _ _ rfl (hd ⟨5, .data⟩ (by simp) rfl)) rfl (by simp [go_sem])) (fun L v_ w2 hI hL => by have h3 := hI; rw [hL] at h3; refine (Ls.begin_any (hand := hand) (F := 68) (p := ⟨b, 0, none⟩) h3.row (by omega)).mono ?_; rintro e w3 ⟨rfl, r3, t3⟩; refine ⟨rfl, ?_⟩; rw [upd_same]; exact ⟨r3.congr (fun i hi => g_beg _ _ _ _ _ _ _ _ _ _ _ i hi), h3.tch.trans' t3 (fun _ _ e => e)⟩)
 case fin =>
  intro L a' w4 hI hall
  have hw := hI.world
  simp only [hall 6 (by decide)] at hw
  have ea := act_all a' 21 (by rw [hI.sz]; rfl) hI.df
  simp only [List.range, List.range.loop, List.map] at ea
  rw [hI.fx 0 rfl, hI.fx 1 rfl, hI.fx 2 rfl, hI.fx 3 rfl, hI.fx 4 rfl, hI.fx 6 rfl, hI.fx 7 rfl, hI.fx 8 rfl, hI.fx 9 rfl, hI.fx 10 rfl, hI.fx 11 rfl, hI.fx 19 rfl, hI.fx 20 rfl] at ea
  clear hI hall
  obtain ⟨us, hus⟩ : ∃ us : Nat → Value, ∀ k, a'.eval (.tmp k) = us k := ⟨_, fun _ => rfl⟩
  simp only [hus] at ea
  simp only [show ∀ (ts : Array Value) (ds) (i : Nat), (Act.mk ts ds).eval (.tmp i) = ts.getD i undef from fun _ _ _ => rfl] at ea
  simp at ea
  subst ea
  have R4 := hide hw.row
  have G4 := hide (touch_grown hw.tch hbw B1.out)
  clear hw
  go_wp2_with fail
  go_ret
  exact ⟨b, rfl, R4.out, hbw, G4.out⟩
theorem make_new {any : Bool} (sh : Shp) (hand : Int) (j : Jb) (hk : j.kind = 1) (w : World) :
  Calls Tryz.prog 14 #[sh.val, .int .i64 hand, .bool (fin j), .int .i64 j.c] w fun e w' => ∃ B R, e = .returned (.iface ((kRom any sh).tid j) (.pointer (some ⟨B 0, 0, none⟩))) ∧ (kRom any sh).Lies w' j B R (rinit sh hand j) ∧ (∀ i x, R i = some x → w.heap.size ≤ B i) ∧ w.grownBy w' none := by
 refine (make_ok sh hand j.c (fin j) w).mono ?_
 rintro e w' ⟨b, rfl, B2, R2, hr, hl, hnw, hb, hg⟩
 have e0 : rinit' sh hand j = ⟨⟨true, sh, hand, fin j, col j, 0, 0, 0⟩, .along dj (Ls.init sh hand dj) .drawn, ⟨false, 0⟩⟩ := by unfold rinit'; rw [if_pos hk]
 have S := sim_init sh hand j
 rw [e0] at S
 obtain ⟨x1, hx1⟩ : ∃ x1 : Row, x1 = ⟨99, 16, (RW sh).mrow ⟨true, sh, hand, fin j, col j, 0, 0, 0⟩ (.func (.func 93) #[.pointer (some ⟨b, 0, none⟩)] #[]) (.iface (Ls.tid dj) (.pointer (some ⟨B2 0, 0, none⟩))) (.func (.func 35) #[.pointer (some ⟨b, 0, none⟩)] #[]) ⟨false, 0⟩⟩ := ⟨_, rfl⟩
 have hr' : w'.rowIs b x1.t x1.n x1.f := by
  rw [hx1, row_m sh (o := ⟨true, sh, hand, fin j, col j, 0, 0, 0⟩) rfl]
  exact hr
 obtain ⟨j1, j2⟩ := join_rows (KP := Ls.kList sh) hr' hl (fun i x e => (hnw i x e).2)
 refine ⟨join 0 (fun _ => b) B2, join 0 (fun _ => some x1) R2, by simp only [kRom, pick1 hk]; rfl, ⟨⟨_, S, ?_⟩, j1, j2⟩, fun i x e => ?_, hg⟩
 ·refine ⟨_, _, _, (by rw [hx1]; rfl : join 0 (fun _ => some x1) R2 0 = _), rfl, rfl, rfl, fun i hi hic => absurd hic (by show ¬ i ≤ 0; omega), ?_⟩
  have eB : (fun i => join 0 (fun _ => b) B2 (0 + 1 + i)) = B2 := funext fun i => join_high i
  have eR : (fun i => join 0 (fun _ => some x1) R2 (0 + 1 + i)) = R2 := funext fun i => join_high i
  show (Ls.kList sh).lies dj (fun i => join 0 (fun _ => b) B2 (0 + 1 + i)) (Ls.init sh hand dj) (fun i => join 0 (fun _ => some x1) R2 (0 + 1 + i))
  rw [eB, eR]
  exact hl.lies
 ·cases i with
  | zero => exact hb
  | succ i =>
   have e1 : join 0 (fun _ => some x1) R2 (i + 1) = R2 i := by unfold join; rw [if_neg (by omega)]; congr 1
   have e2 : join 0 (fun _ => b) B2 (i + 1) = B2 i := by unfold join; rw [if_neg (by omega)]; congr 1
   rw [e1] at e
   rw [e2]
   exact (hnw i x e).1
theorem give_of {any : Bool} {sh : Shp} {hand : Int} {j : Jb} (hk : ¬ j.kind = 1) {w w' : World} {b : Nat} {a : RA} (ha : rinit' sh hand j = ⟨⟨false, sh, hand, false, 0, j.a, 0, 0⟩, .on a, ⟨false, 0⟩⟩) (hr : w'.rowIs b 103 15 (gC sh hand (.func (.func (ract a)) #[.pointer (some ⟨b, 0, none⟩)] #[]) .nilIface .nilFunc ⟨false, 0⟩ j.a 0 0)) (hb : w.heap.size ≤ b) :
  ∃ B R, B 0 = b ∧ (kRom any sh).Lies w' j B R (rinit sh hand j) ∧ (∀ i x, R i = some x → w.heap.size ≤ B i) := by
 have S := sim_init sh hand j
 rw [ha] at S
 obtain ⟨x1, hx1⟩ : ∃ x1 : Row, x1 = ⟨103, 15, (RW sh).mrow ⟨false, sh, hand, false, 0, j.a, 0, 0⟩ (.func (.func (ract a)) #[.pointer (some ⟨b, 0, none⟩)] #[]) .nilIface .nilFunc ⟨false, 0⟩⟩ := ⟨_, rfl⟩
 have hr' : w'.rowIs b x1.t x1.n x1.f := by
  rw [hx1, row_g sh (o := ⟨false, sh, hand, false, 0, j.a, 0, 0⟩) rfl]
  exact hr
 obtain ⟨j1, j2⟩ := one_rows hr'
 exact ⟨fun _ => b, fun i => if i = 0 then some x1 else none, rfl, ⟨⟨_, S, ⟨_, .nilIface, .nilFunc, (by rw [hx1]; rfl), rfl, fun i hi => if_neg (by omega)⟩⟩, j1, j2⟩, fun i x e => hb⟩
theorem give_new {any : Bool} {sh : Shp} (h5 : Shape.R5 sh.a sh.b sh.c sh.d sh.e) (hand : Int) (j : Jb) (hk : ¬ j.kind = 1) (w : World) :
  Calls Tryz.prog 16 #[sh.val, .int .i64 hand, .int .i64 j.a] w fun e w' => ∃ B R, e = .returned (.iface ((kRom any sh).tid j) (.pointer (some ⟨B 0, 0, none⟩))) ∧ (kRom any sh).Lies w' j B R (rinit sh hand j) ∧ (∀ i x, R i = some x → w.heap.size ≤ B i) ∧ w.grownBy w' none := by
 by_cases ht : slotIn sh j.a 0
 ·refine (give_wipe h5 hand j.a ht w).mono ?_
  rintro e w' ⟨b, rfl, hr, hb, hg⟩
  obtain ⟨B, R, rfl, hl, hn⟩ := give_of (any := any) (a := .wipe) hk (by unfold rinit'; rw [if_neg hk]; simp only [ht, if_true]; rfl) hr hb
  exact ⟨B, R, by simp only [kRom, pick2 hk], hl, hn, hg⟩
 ·refine (give_look h5 hand j.a ht w).mono ?_
  rintro e w' ⟨b, rfl, hr, hb, hg⟩
  obtain ⟨B, R, rfl, hl, hn⟩ := give_of (any := any) (a := .glook) hk (by unfold rinit'; rw [if_neg hk]; simp only [ht, if_false]; rfl) hr hb
  exact ⟨B, R, by simp only [kRom, pick2 hk], hl, hn, hg⟩
theorem callTask (args : Array Value) (w : World) : (callFunc 26 args).run Tryz.prog w = .ok (.enter 26 args) w := by simp [go_sem]
theorem task1 {sh : Shp} (hand a b c hh : Int) (hb : b = 0 ∨ b = 1) (hc : c = 0 ∨ c = 1) (w : World) :
  Calls Tryz.prog 26 #[sh.val, .int .i64 hand, (⟨1, a, b, c, hh⟩ : Jb).val] w fun e w' => ∃ B R, e = .returned (.tuple #[.iface 91 (.pointer (some ⟨B 0, 0, none⟩)), .int .i64 0]) ∧
   (kRom false sh).Lies w' ⟨1, a, b, c, hh⟩ B R (rinit sh hand ⟨1, a, b, c, hh⟩) ∧ (∀ i x, R i = some x → w.heap.size ≤ B i) ∧ w.grownBy w' none := by
 have MKO := hide (fun w1 : World => make_new (any := false) sh hand ⟨1, a, b, c, hh⟩ rfl w1)
 simp only [fin, kRom, pick1 (j := ⟨1, a, b, c, hh⟩) rfl] at MKO
 have I1 := hide (fun w1 : World => isBit_any b w1)
 have I2 := hide (fun w1 : World => isBit_any c w1)
 rw [bit_eq, decide_eq_true hb] at I1
 rw [bit_eq, decide_eq_true hc] at I2
 clear hb hc
 obtain ⟨LIE, hLIE⟩ : ∃ LIE : World → (Nat → Nat) → (Nat → Option Row) → Prop, LIE = fun w' B R => (kRom false sh).Lies w' ⟨1, a, b, c, hh⟩ B R (rinit sh hand ⟨1, a, b, c, hh⟩) := ⟨_, rfl⟩
 have hL : ∀ w' B R, (kRom false sh).Lies w' ⟨1, a, b, c, hh⟩ B R (rinit sh hand ⟨1, a, b, c, hh⟩) = LIE w' B R := fun w' B R => by rw [hLIE]
 unfold kRom at hL
 simp only [kRom, hL] at MKO ⊢
 clear hL hLIE
 obtain ⟨s0, s1, s2, s3, s4, s5⟩ := sh
 simp only [Shp.val, Jb.val] at MKO ⊢
 go_enter Tryz.func26, Tryz.ntmps26
 go_wp2_with (first | (go_at_call 54; refine (I1.out _).mono ?_; rintro e wq ⟨rfl, hwq⟩; obtain rfl := hwq.symm) | (go_at_call 54; refine (I2.out _).mono ?_; rintro e wq ⟨rfl, hwq⟩; obtain rfl := hwq.symm) | (go_at_call 14; refine (MKO.out _).mono ?_; rintro e w3 ⟨B, R, rfl, hr3, hb3, hg3⟩; have HR := hide hr3; have HG := hide hg3; have HB3 := hide hb3; clear hr3 hg3 hb3))
 go_ret2
 exact ⟨B, R, rfl, HR.out, fun i x e => by have := HB3.out i x e; simp only [World.size_alloc] at this; omega, grown_trans (grown_alloc (grown_alloc (grown_refl _ _) _) _) HG.out⟩
theorem task2 {sh : Shp} (h5 : Shape.R5 sh.a sh.b sh.c sh.d sh.e) (hand a b c hh : Int) (ha : there sh a) (w : World) :
  Calls Tryz.prog 26 #[sh.val, .int .i64 hand, (⟨2, a, b, c, hh⟩ : Jb).val] w fun e w' => ∃ B R, e = .returned (.tuple #[.iface 101 (.pointer (some ⟨B 0, 0, none⟩)), .int .i64 0]) ∧
   (kRom false sh).Lies w' ⟨2, a, b, c, hh⟩ B R (rinit sh hand ⟨2, a, b, c, hh⟩) ∧ (∀ i x, R i = some x → w.heap.size ≤ B i) ∧ w.grownBy w' none := by
 have GVO := hide (fun w1 : World => give_new (any := false) h5 hand ⟨2, a, b, c, hh⟩ (show ¬ (2 : Int) = 1 by decide) w1)
 simp only [kRom, pick2 (j := ⟨2, a, b, c, hh⟩) (show ¬ (2 : Int) = 1 by decide)] at GVO
 have IN := hide (fun w1 : World => isNumber_any sh a w1)
 rw [decide_eq_true ha] at IN
 clear h5 ha
 obtain ⟨LIE, hLIE⟩ : ∃ LIE : World → (Nat → Nat) → (Nat → Option Row) → Prop, LIE = fun w' B R => (kRom false sh).Lies w' ⟨2, a, b, c, hh⟩ B R (rinit sh hand ⟨2, a, b, c, hh⟩) := ⟨_, rfl⟩
 have hL : ∀ w' B R, (kRom false sh).Lies w' ⟨2, a, b, c, hh⟩ B R (rinit sh hand ⟨2, a, b, c, hh⟩) = LIE w' B R := fun w' B R => by rw [hLIE]
 unfold kRom at hL
 simp only [kRom, hL] at GVO ⊢
 clear hL hLIE
 obtain ⟨s0, s1, s2, s3, s4, s5⟩ := sh
 simp only [Shp.val, Jb.val] at GVO IN ⊢
 go_enter Tryz.func26, Tryz.ntmps26
 obtain ⟨W0, hW0, B0, K⟩ := Shape.box w s0 s1 s2 s3 s4 s5
 have HB := hide B0
 have sz0 : W0.heap.size = w.heap.size + 1 := by rw [← hW0]; simp
 obtain ⟨W1, hW1⟩ : ∃ W1, W0.alloc (.cells #[.int .i64 2, .int .i64 a, .int .i64 b, .int .i64 c, .int .u64 hh] 52) = W1 := ⟨_, rfl⟩
 have B1 := hide (show Below W0.heap.size W0 W1 from by rw [← hW1]; exact (Below.refl _ W0).alloc (Nat.le_refl _) _)
 have sz1 : W1.heap.size = w.heap.size + 2 := by rw [← hW1]; simp; omega
 obtain ⟨-, l0, x0, x1, x2, x3, x4, x5⟩ := K.out W1 B1.out
 have RJ : W1.rowIs (w.heap.size + 1) 52 5 (fun i => (#[Value.int .i64 2, .int .i64 a, .int .i64 b, .int .i64 c, .int .u64 hh]).getD i undef) := by rw [← hW1, ← sz0]; exact rowIs_cells _ _ _ 5 rfl (fun i hi => by
  match i, hi with
  | 0, _ | 1, _ | 2, _ | 3, _ | 4, _ => rfl)
 have j0 : W1.cell? ⟨w.heap.size + 1, 0, none⟩ = some (.int .i64 2) := RJ.cell (i := 0) (by decide)
 have j1 : W1.cell? ⟨w.heap.size + 1, 1, none⟩ = some (.int .i64 a) := RJ.cell (i := 1) (by decide)
 clear B0 RJ
 go_upto_region 5 with (fail)
 clear hW0 hW1
 go_wp2_with (first | (go_at_call 55; refine (IN.out _).mono ?_; rintro e w2 ⟨rfl, hb2⟩; have HB2 := hide hb2; have sz2 := hb2.size; obtain ⟨-, l0', y0, y1, y2, y3, y4, y5⟩ := K.out w2 (B1.out.trans (hb2.mono B1.out.size)); have k1 : w2.cell? ⟨w.heap.size + 1, 1, none⟩ = some (.int .i64 a) := (hb2.cell (p := ⟨w.heap.size + 1, 1, none⟩) (by simp only; omega)).trans j1; clear hb2 x0 x1 x2 x3 x4 x5 j0 j1 K) | (go_at_call 16; refine (GVO.out _).mono ?_; rintro e w3 ⟨B, R, rfl, hr3, hb3, hg3⟩; have HR := hide hr3; have HG := hide hg3; have HB3 := hide hb3; clear hr3 hg3 hb3))
 go_ret2
 exact ⟨B, R, rfl, HR.out, fun i x e => by have := HB3.out i x e; omega, grown_trans (below_grown ((HB.out.trans (B1.out.mono (by omega))).trans (HB2.out.mono (by omega))) none) HG.out⟩
theorem task_b {sh : Shp} (hand a b c hh : Int) (hb : ¬ (b = 0 ∨ b = 1))  (w : World) :
  Calls Tryz.prog 26 #[sh.val, .int .i64 hand, (⟨1, a, b, c, hh⟩ : Jb).val] w fun e w' => e = .returned (.tuple #[.nilIface, .int .i64 2]) ∧ w.grownBy w' none := by
 have I1 := hide (fun w1 : World => isBit_any b w1)
 have I2 := hide (fun w1 : World => isBit_any c w1)
 rw [bit_eq, decide_eq_false hb] at I1
 clear hb
 obtain ⟨s0, s1, s2, s3, s4, s5⟩ := sh
 simp only [Shp.val, Jb.val]
 go_enter Tryz.func26, Tryz.ntmps26
 go_wp2_with (first | (go_at_call 54; refine (I1.out _).mono ?_; rintro e wq ⟨rfl, hwq⟩; obtain rfl := hwq.symm) | (go_at_call 54; refine (I2.out _).mono ?_; rintro e wq ⟨rfl, hwq⟩; obtain rfl := hwq.symm))
 go_ret2
 exact ⟨rfl, grown_alloc (grown_alloc (grown_refl _ _) _) _⟩
theorem task_c {sh : Shp} (hand a b c hh : Int) (hb : b = 0 ∨ b = 1) (hc : ¬ (c = 0 ∨ c = 1)) (w : World) :
  Calls Tryz.prog 26 #[sh.val, .int .i64 hand, (⟨1, a, b, c, hh⟩ : Jb).val] w fun e w' => e = .returned (.tuple #[.nilIface, .int .i64 2]) ∧ w.grownBy w' none := by
 have I1 := hide (fun w1 : World => isBit_any b w1)
 have I2 := hide (fun w1 : World => isBit_any c w1)
 rw [bit_eq, decide_eq_true hb] at I1
 rw [bit_eq, decide_eq_false hc] at I2
 clear hb hc
 obtain ⟨s0, s1, s2, s3, s4, s5⟩ := sh
 simp only [Shp.val, Jb.val]
 go_enter Tryz.func26, Tryz.ntmps26
 go_wp2_with (first | (go_at_call 54; refine (I1.out _).mono ?_; rintro e wq ⟨rfl, hwq⟩; obtain rfl := hwq.symm) | (go_at_call 54; refine (I2.out _).mono ?_; rintro e wq ⟨rfl, hwq⟩; obtain rfl := hwq.symm))
 go_ret2
 exact ⟨rfl, grown_alloc (grown_alloc (grown_refl _ _) _) _⟩
theorem task_a {sh : Shp} (hand a b c hh : Int) (ha : ¬ there sh a) (w : World) :
  Calls Tryz.prog 26 #[sh.val, .int .i64 hand, (⟨2, a, b, c, hh⟩ : Jb).val] w fun e w' => e = .returned (.tuple #[.nilIface, .int .i64 2]) ∧ w.grownBy w' none := by
 have IN := hide (fun w1 : World => isNumber_any sh a w1)
 rw [decide_eq_false ha] at IN
 clear ha
 obtain ⟨s0, s1, s2, s3, s4, s5⟩ := sh
 simp only [Shp.val, Jb.val] at IN ⊢
 go_enter Tryz.func26, Tryz.ntmps26
 go_wp2_with (go_at_call 55; refine (IN.out _).mono ?_; rintro e w2 ⟨rfl, hb2⟩; have HB2 := hide hb2; clear hb2)
 go_ret2
 exact ⟨rfl, grown_trans (grown_alloc (grown_alloc (grown_refl _ _) _) _) (below_grown HB2.out none)⟩
theorem task_kind {sh : Shp} (hand k a b c hh : Int) (h1 : ¬ k = 1) (h2 : ¬ k = 2) (w : World) :
  Calls Tryz.prog 26 #[sh.val, .int .i64 hand, (⟨k, a, b, c, hh⟩ : Jb).val] w fun e w' => e = .returned (.tuple #[.nilIface, .int .i64 200]) ∧ w.grownBy w' none := by
 have e1 : (k != 1) = true := by simpa using h1
 have e2 : (k != 2) = true := by simpa using h2
 clear h1 h2
 obtain ⟨s0, s1, s2, s3, s4, s5⟩ := sh
 simp only [Shp.val, Jb.val]
 go_enter Tryz.func26, Tryz.ntmps26
 go_wp2_with fail
 go_ret2
 exact ⟨rfl, grown_alloc (grown_alloc (grown_refl _ _) _) _⟩
theorem task_any {sh : Shp} (h5 : Shape.R5 sh.a sh.b sh.c sh.d sh.e) (hand : Int) (j : Jb) (hw : j.wf) (he : rerr false sh hand j = 0) (w : World) :
  Calls Tryz.prog 26 #[sh.val, .int .i64 hand, j.val] w fun e w' => ∃ B R, e = .returned (.tuple #[.iface ((kRom false sh).tid j) (.pointer (some ⟨B 0, 0, none⟩)), .int .i64 0]) ∧
   (kRom false sh).Lies w' j B R (rinit sh hand j) ∧ (∀ i x, R i = some x → w.heap.size ≤ B i) ∧ w.grownBy w' none := by
 obtain ⟨k, a, b, c, hh⟩ := j
 simp only [rerr, if_neg (show ¬ false = true by decide)] at he
 by_cases h1 : k = 1
 ·subst h1
  rw [if_pos rfl] at he
  by_cases hbc : (b = 0 ∨ b = 1) ∧ (c = 0 ∨ c = 1)
  ·exact task1 hand a b c hh hbc.1 hbc.2 w
  ·rw [if_neg hbc] at he
   cases he
 ·rw [if_neg h1] at he
  by_cases h2 : k = 2
  ·subst h2
   rw [if_pos rfl] at he
   by_cases ht : there sh a
   ·exact task2 h5 hand a b c hh ht w
   ·rw [if_neg ht] at he
    cases he
  ·rw [if_neg h2] at he
   cases he
theorem task_err {sh : Shp} (hand : Int) (j : Jb) (he : ¬ rerr false sh hand j = 0) (w : World) :
  Calls Tryz.prog 26 #[sh.val, .int .i64 hand, j.val] w fun e w' => e = .returned (.tuple #[.nilIface, .int .i64 (rerr false sh hand j)]) ∧ w.grownBy w' none := by
 obtain ⟨k, a, b, c, hh⟩ := j
 by_cases h1 : k = 1
 ·subst h1
  by_cases hb : b = 0 ∨ b = 1
  ·by_cases hc : c = 0 ∨ c = 1
   ·exact absurd (by simp [rerr, hb, hc]) he
   ·rw [show rerr false sh hand ⟨1, a, b, c, hh⟩ = 2 from by simp [rerr, hc]]
    exact task_c hand a b c hh hb hc w
  ·rw [show rerr false sh hand ⟨1, a, b, c, hh⟩ = 2 from by simp [rerr, hb]]
   exact task_b hand a b c hh hb w
 ·by_cases h2 : k = 2
  ·subst h2
   by_cases ht : there sh a
   ·exact absurd (by simp [rerr, ht]) he
   ·rw [show rerr false sh hand ⟨2, a, b, c, hh⟩ = 2 from by simp [rerr, ht]]
    exact task_a hand a b c hh ht w
  ·rw [show rerr false sh hand ⟨k, a, b, c, hh⟩ = 200 from by simp [rerr, h1, h2]]
   exact task_kind hand k a b c hh h1 h2 w
theorem makes {sh : Shp} (h5 : Shape.R5 sh.a sh.b sh.c sh.d sh.e) {w : World} {tb sb : Nat} (H : Boxes w tb sb 26 sh) : MakesAt (kRom false sh) (mkOf tb sb) w := by
 intro hand j h0 h8 hw
 exact ⟨fun he => maker_okP (K := kRom false sh) (s := rinit sh hand j) callTask H (fun w1 => task_any h5 hand j hw he w1), fun he => maker_err callTask H he (fun w1 => task_err hand j he w1)⟩
end Rom
end
end Go.Proofs.YtppgbndoijppnaaGreat
