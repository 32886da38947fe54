/-
  Lemmas: RoomM.
-/
import Derived.Test.YtmikhglnomgbfaaGreatTp34
import Derived.Test.YtmikhglnomgbfaaGreatTp18
import Derived.Test.YtmikhglnomgbfaaGreatTp19
namespace Go.Proofs.YtmikhglnomgbfaaGreat
set_option maxHeartbeats 8000000
open Go.RowKit
set_option linter.unusedVariables false
set_option linter.unusedSimpArgs false
set_option maxRecDepth 20000
section
namespace Rom
open Hp
def bit1 (c : Int) : Int := if c = 0 then 0 else 1
theorem bitOf_any (c : Int) (w : World) : Calls Tryz.prog 29 #[.int .i64 c] w fun e w' => e = .returned (.int .i64 (bit1 c)) ∧ w' = w := by
 by_cases h : c = 0
 ·subst h
  go_enter Tryz.func29, Tryz.ntmps29
  go_wp2
  go_ret
  exact ⟨rfl, rfl⟩
 ·rw [show bit1 c = 1 from by simp [bit1, h]]
  have h' : (c == 0) = false := by simpa using h
  clear h
  go_enter Tryz.func29, Tryz.ntmps29
  go_wp2
  go_ret
  exact ⟨rfl, rfl⟩
theorem isBit_any (c : Int) (w : World) : Calls Tryz.prog 46 #[.int .i64 c] w fun e w' => e = .returned (.bool (c == bit1 c)) ∧ w' = w := by
 have BO := hide (fun w1 : World => bitOf_any c w1)
 go_enter Tryz.func46, Tryz.ntmps46
 go_wp2_with fail
 refine (BO.out _).mono ?_
 rintro e w1 ⟨rfl, rfl⟩
 go_wp2_with fail
 go_ret
 exact ⟨rfl, rfl⟩
theorem bit_eq (c : Int) : (c == bit1 c) = decide (c = 0 ∨ c = 1) := by
 unfold bit1
 by_cases h : c = 0
 ·simp [h]
 ·by_cases h1 : c = 1
  ·simp [h1]
  ·simp [h, h1]
theorem m_beg (sh : Shp) (hand : Int) (fn : Value) (g : Int) (t : Ans) (fl : Bool) (c xb gn : Int) (y : Int) (z : Value) (k : Nat) (hk : k < 15) : (fun k => if k = 1 then z else if k = 0 then Value.int .i64 y else mC sh hand fn g t fl c xb gn k) k = mC sh y z g t fl c xb gn k := by
 match k, hk with
 | 0, _ | 1, _ | 2, _ | 3, _ | 4, _ | 5, _ | 6, _ | 7, _ | 8, _ | 9, _ | 10, _ | 11, _ | 12, _ | 13, _ | 14, _ => rfl
theorem g_beg (sh : Shp) (hand : Int) (fn : Value) (g : Int) (t : Ans) (ix sl gn : Int) (y : Int) (z : Value) (k : Nat) (hk : k < 14) : (fun k => if k = 1 then z else if k = 0 then Value.int .i64 y else gC sh hand fn g t ix sl gn k) k = gC sh y z g t ix sl gn k := by
 match k, hk with
 | 0, _ | 1, _ | 2, _ | 3, _ | 4, _ | 5, _ | 6, _ | 7, _ | 8, _ | 9, _ | 10, _ | 11, _ | 12, _ | 13, _ => rfl
theorem ex_mk {ev : Operand → Value} {o : Oper} {w : World} {x y z : Operand} {s0 s1 s2 s3 s4 s5 c : Int} {fl : Bool} (ho : o.op = .build 92 #[(1, x), (2, y), (3, z)]) (hx : ev x = .agg #[.int .i64 s0, .int .i64 s1, .int .i64 s2, .int .i64 s3, .int .i64 s4, .int .i64 s5]) (hy : ev y = .bool fl) (hz : ev z = .int .i64 (bit1 c)) : (execOp ev o).run Tryz.prog w = .ok (.value (.agg #[.int .i64 0, .nilFunc, .int .u64 0, .bool false, .int .u64 0, .int .i64 s0, .int .i64 s1, .int .i64 s2, .int .i64 s3, .int .i64 s4, .int .i64 s5, .bool fl, .int .i64 (bit1 c), .int .i64 0, .int .u64 0])) w := by
 simp [execOp, ho, hx, hy, hz, go_sem]
theorem boxrun {P : Program} {ev : Operand → Value} {o : Oper} {w : World} {y : Operand} {ty : TypeId} {vs : Array Value} (ho : o.op = .box ty y) (hy : ev y = .agg vs) (hr : (Instr.box ty (.agg vs)).run P w = .ok (.pointer (some ⟨w.heap.size, 0, none⟩)) (w.alloc (.cells vs ty))) : (execOp ev o).run P w = .ok (.value (.pointer (some ⟨w.heap.size, 0, none⟩))) (w.alloc (.cells vs ty)) := by
 simp [execOp, ho, hy, hr]
structure SM1 (D : World) (O : Obj) (bx : Bool) (w : World) : Prop where
 eq : w = if bx = true then D.alloc O else D
theorem SM1.skip {D : World} {O : Obj} {L : Nat → Bool} {i ib : Nat} {w : World} (h1 : ib ≠ i) (h : SM1 D O (L ib) w) : SM1 D O (upd L i true ib) w := by
 rwa [upd_other _ _ h1]
theorem SM1.range {D : World} {O : Obj} {bx : Bool} {w : World} {b : Nat} {vs : List Value} (h : SM1 D O bx w) (hb : b < D.heap.size) (hr : D.rangeAt b 0 vs) : w.rangeAt b 0 vs := by
 obtain ⟨rfl⟩ := h
 split
 ·exact rangeAt_block hr (((Below.refl _ D).alloc (Nat.le_refl _) O).block b hb)
 ·exact hr
structure SB (b T nc : Nat) (C : Bool → Nat → Value) (w0 : World) (g : Bool) (w : World) : Prop where
 row : w.rowIs b T nc (C g)
 tch : Touch w0 w (fun k => k = b)
theorem SB.start {b T nc : Nat} {C : Bool → Nat → Value} {w0 : World} (h : w0.rowIs b T nc (C false)) : SB b T nc C w0 false { w0 with drawn := w0.drawn + 1 } := ⟨h.drew, (Touch.refl w0 _).drew⟩
theorem SBq {b T nc : Nat} {C : Bool → Nat → Value} {w0 w w' : World} {g : Bool} (h : SB b T nc C w0 g w) (hb : Below w.heap.size w w') : SB b T nc C w0 g w' := ⟨h.row.of_block (hb.block _ h.row.lt), h.tch.trans' (S' := fun _ => False) ⟨hb.os, hb.tape, hb.output, hb.size, fun k hk _ => hb.block k hk⟩ (fun _ _ e => e.elim)⟩
theorem SB.skip {b T nc : Nat} {C : Bool → Nat → Value} {w0 w : World} {L : Nat → Bool} {i kb : Nat} (h1 : kb ≠ i) (h : SB b T nc C w0 (L kb) w) : SB b T nc C w0 (upd L i true kb) w := by
 rwa [upd_other _ _ h1]
theorem touch_grown {w w0 w' : World} {b : Nat} (h : Touch w0 w' (fun k => k = b)) (hb : w.heap.size ≤ b) (h0 : Below w.heap.size w w0) : w.grownBy w' none :=
 ⟨h.os.trans h0.os, h.tape.trans h0.tape, h.output.trans h0.output, Nat.le_trans h0.size h.size, fun k hk _ => (h.block k (Nat.lt_of_lt_of_le hk h0.size) (by omega)).trans (h0.block k hk)⟩
theorem make_ok (sh : Shp) (hand c : Int) (fl : Bool) (w : World) :
  Calls Tryz.prog 13 #[sh.val, .int .i64 hand, .bool fl, .int .i64 c] w fun e w' => ∃ b, e = .returned (.iface 86 (.pointer (some ⟨b, 0, none⟩))) ∧
   w'.rowIs b 92 15 (mC sh hand (fnM b 0) 0 ⟨false, 0⟩ fl (bit1 c) 0 0) ∧ w.heap.size ≤ b ∧ w.grownBy w' none := by
 have BO := hide (fun w1 : World => bitOf_any c w1)
 obtain ⟨dG, hdG1, hdG2⟩ := rowSh
 have HDS := hide (And.intro hdG1 hdG2)
 clear hdG1 hdG2
 obtain ⟨s0, s1, s2, s3, s4, s5⟩ := sh
 simp only [Shp.val]
 obtain ⟨W0, hW0, B0, K⟩ := Shape.box w s0 s1 s2 s3 s4 s5
 have HB := hide B0
 have sz0 : W0.heap.size = w.heap.size + 1 := by rw [← hW0]; simp
 obtain ⟨-, l0, x0, x1, x2, x3, x4, x5⟩ := K.out W0 (Below.refl _ _)
 clear B0 K
 obtain ⟨b, hb⟩ : ∃ b, w.heap.size + 1 = b := ⟨_, rfl⟩
 have HBB := hide (show W0.heap.size = b by omega)
 have hbw : w.heap.size ≤ b := by omega
 clear hb
 have RGE := hide (show ({ W0 with drawn := W0.drawn + 1 } : World).rangeAt w.heap.size 0 [.int .i64 s0, .int .i64 s1, .int .i64 s2, .int .i64 s3, .int .i64 s4, .int .i64 s5] from rangeAt_block (Shape.rng x0 x1 x2 x3 x4 x5) rfl)
 have lD : w.heap.size < ({ W0 with drawn := W0.drawn + 1 } : World).heap.size := l0
 go_enter Tryz.func13, Tryz.ntmps13
 go_wp2_with fail
 clear hW0 x0 x1 x2 x3 x4 x5
 refine RG.regionB 7 (ks := [(0, 10), (1, 11), (2, 12), (3, 13), (4, 14), (5, 15), (6, 9)]) (vals := fun i => match i with
   | 0 => .agg #[.int .i64 s0, .int .i64 s1, .int .i64 s2, .int .i64 s3, .int .i64 s4, .int .i64 s5]
   | 1 => .bool fl
   | 2 => .int .i64 c
   | 3 => .int .i64 (bit1 c)
   | 4 => .agg #[.int .i64 0, .nilFunc, .int .u64 0, .bool false, .int .u64 0, .int .i64 s0, .int .i64 s1, .int .i64 s2, .int .i64 s3, .int .i64 s4, .int .i64 s5, .bool fl, .int .i64 (bit1 c), .int .i64 0, .int .u64 0]
   | 5 => .pointer (some ⟨b, 0, none⟩)
   | 6 => .pointer (some ⟨b, 0, none⟩)
   | _ => undef) (x := 5) (WI := fun L v_ w' => SM1 ({ W0 with drawn := W0.drawn + 1 } : World) (.cells #[.int .i64 0, .nilFunc, .int .u64 0, .bool false, .int .u64 0, .int .i64 s0, .int .i64 s1, .int .i64 s2, .int .i64 s3, .int .i64 s4, .int .i64 s5, .bool fl, .int .i64 (bit1 c), .int .i64 0, .int .u64 0] 92) (L 5) w') (by kernel_rfl) (by kernel_rfl) rfl (by kernel_rfl) (by kernel_rfl) ⟨rfl⟩ ?does ?fin
 case does =>
  intro i o ho
  have hi : i < 7 := RG.lt_of ho rfl
  match i, hi with
  | 0, _ => cases ho; exact RG.Does.read rfl (fun L v_ w' h => SM1.skip (by decide) h) (fun L a w' hI hd => ex_load_row rfl (hI.fx 4 rfl) (hI.world.range lD RGE.out) HDS.out.1 HDS.out.2 sizeSh)
  | 1, _ => cases ho; exact RG.Does.read rfl (fun L v_ w' h => SM1.skip (by decide) h) (fun L a w' hI hd => ex_move rfl (hI.fx 2 rfl))
  | 2, _ => cases ho; exact RG.Does.read rfl (fun L v_ w' h => SM1.skip (by decide) h) (fun L a w' hI hd => ex_move rfl (hI.fx 3 rfl))
  | 3, _ => cases ho; exact RG.Does.ask rfl (fun L v_ w' h => SM1.skip (by decide) h) (fun L a w' hI hd => call1 rfl (hI.pure 2 _ _ rfl (hd ⟨2, .data⟩ (by simp) rfl)) rfl (by simp [go_sem])) (fun w9 : World => BO.out w9)
  | 4, _ => cases ho; exact RG.Does.read rfl (fun L v_ w' h => SM1.skip (by decide) h) (fun L a w' hI hd => ex_mk rfl (hI.pure 0 _ _ rfl (hd ⟨0, .data⟩ (by simp) rfl)) (hI.pure 1 _ _ rfl (hd ⟨1, .data⟩ (by simp) rfl)) (hI.pure 3 _ _ rfl (hd ⟨3, .data⟩ (by simp) rfl)))
  | 5, _ => cases ho; exact RG.Does.mk rfl (fun L a w' K hI hL hd hk => wp_value (boxrun rfl (hI.pure 4 _ _ rfl (hd ⟨4, .data⟩ (by simp) rfl)) (by simp [go_sem])) (hk _ _ (fun d _ => by have e := hI.world.eq; rw [hL] at e; show Value.pointer (some ⟨w'.heap.size, 0, none⟩) = .pointer (some ⟨b, 0, none⟩); rw [e]; simpa using HBB.out) (by have e := hI.world.eq; rw [hL] at e; refine ⟨?_⟩; rw [upd_same, if_pos rfl, e]; rfl)))
  | 6, _ => cases ho; exact RG.Does.read rfl (fun L v_ w' h => SM1.skip (by decide) h) (fun L a w' hI hd => ex_assign rfl (hI.pure 5 _ _ rfl (hd ⟨5, .data⟩ (by simp) rfl)))
 case fin =>
  intro L a' w4 hI hall
  have hw := hI.world.eq
  rw [hall 5 (by decide), if_pos rfl] at hw
  have ea := act_all a' 25 (by rw [hI.sz]; rfl) hI.df
  simp only [List.range, List.range.loop, List.map] at ea
  rw [hI.fx 0 rfl, hI.fx 1 rfl, hI.fx 2 rfl, hI.fx 3 rfl, hI.fx 4 rfl, hI.fx 6 rfl, hI.fx 7 rfl, hI.fx 8 rfl, hI.fx 16 rfl, hI.fx 17 rfl, hI.fx 18 rfl, hI.fx 19 rfl, hI.fx 20 rfl, hI.fx 21 rfl, hI.fx 22 rfl, hI.fx 23 rfl, hI.fx 24 rfl] at ea
  have kv9 := hI.pure 6 9 _ rfl (hall 6 (by decide))
  clear hI hall
  obtain ⟨us, hus⟩ : ∃ us : Nat → Value, ∀ k, a'.eval (.tmp k) = us k := ⟨_, fun _ => rfl⟩
  simp only [hus] at ea kv9
  rw [kv9] at ea
  simp only [show ∀ (ts : Array Value) (ds) (i : Nat), (Act.mk ts ds).eval (.tmp i) = ts.getD i undef from fun _ _ _ => rfl] at ea
  simp at ea
  subst ea
  have R1 := hide (show w4.rowIs b 92 15 (mC ⟨s0, s1, s2, s3, s4, s5⟩ 0 .nilFunc 0 ⟨false, 0⟩ fl (bit1 c) 0 0) from by
   rw [hw]
   have := rowIs_cells (w := ({ W0 with drawn := W0.drawn + 1 } : World)) #[.int .i64 0, .nilFunc, .int .u64 0, .bool false, .int .u64 0, .int .i64 s0, .int .i64 s1, .int .i64 s2, .int .i64 s3, .int .i64 s4, .int .i64 s5, .bool fl, .int .i64 (bit1 c), .int .i64 0, .int .u64 0] 92 (mC ⟨s0, s1, s2, s3, s4, s5⟩ 0 .nilFunc 0 ⟨false, 0⟩ fl (bit1 c) 0 0) 15 rfl (fun i hi => by
    match i, hi with
    | 0, _ | 1, _ | 2, _ | 3, _ | 4, _ | 5, _ | 6, _ | 7, _ | 8, _ | 9, _ | 10, _ | 11, _ | 12, _ | 13, _ | 14, _ => rfl)
   rw [show ({ W0 with drawn := W0.drawn + 1 } : World).heap.size = b from HBB.out] at this
   exact this)
  have B4 := hide (show Below w.heap.size w w4 from by rw [hw]; exact (HB.out.drew).alloc (by have := HB.out.size; simpa using this) _)
  clear hw
  have WB := hide (workBegin (hand := hand) 31 R1.out (by omega))
  go_wp2_with (go_at_call 30; refine WB.out.mono ?_; rintro e w5 ⟨rfl, r5, t5⟩; have R5' := hide (r5.congr (fun i hi => m_beg _ _ _ _ _ _ _ _ _ _ _ i hi)); have G5 := hide (touch_grown t5 hbw B4.out); clear r5 t5)
  go_ret
  exact ⟨b, rfl, R5'.out, hbw, G5.out⟩
theorem give_wipe {sh : Shp} (h5 : Shape.R5 sh.a sh.b sh.c sh.d sh.e) (hand ix : Int) (ht : slotIn sh ix 0) (w : World) :
  Calls Tryz.prog 15 #[sh.val, .int .i64 hand, .int .i64 ix] w fun e w' => ∃ b, e = .returned (.iface 94 (.pointer (some ⟨b, 0, none⟩))) ∧
   w'.rowIs b 96 14 (gC sh hand (fnG b 0) 0 ⟨false, 0⟩ ix 0 0) ∧ w.heap.size ≤ b ∧ w.grownBy w' none := by
 have H5 := hide h5
 have HT := hide ht
 clear h5 ht
 obtain ⟨s0, s1, s2, s3, s4, s5⟩ := sh
 simp only [Shp.val]
 obtain ⟨W0, hW0, B0, K⟩ := Shape.box w s0 s1 s2 s3 s4 s5
 have HB := hide B0
 have sz0 : W0.heap.size = w.heap.size + 1 := by rw [← hW0]; simp
 obtain ⟨-, l0, x0, x1, x2, x3, x4, x5⟩ := K.out W0 (Below.refl _ _)
 clear B0 K
 obtain ⟨b, hb⟩ : ∃ b, w.heap.size + 1 = b := ⟨_, rfl⟩
 have HBB := hide (show W0.heap.size = b by omega)
 have hbw : w.heap.size ≤ b := by omega
 clear hb
 obtain ⟨W1, hW1⟩ : ∃ W1, W0.alloc (.cells #[.int .i64 0, .nilFunc, .int .u64 0, .bool false, .int .u64 0, .int .i64 s0, .int .i64 s1, .int .i64 s2, .int .i64 s3, .int .i64 s4, .int .i64 s5, .int .i64 ix, .int .i64 0, .int .u64 0] 96) = W1 := ⟨_, rfl⟩
 have R1 := hide (show W1.rowIs b 96 14 (gC ⟨s0, s1, s2, s3, s4, s5⟩ 0 .nilFunc 0 ⟨false, 0⟩ ix 0 0) from by
  rw [← hW1, ← HBB.out]
  exact rowIs_cells _ _ _ 14 rfl (fun i hi => by
   match i, hi with
   | 0, _ | 1, _ | 2, _ | 3, _ | 4, _ | 5, _ | 6, _ | 7, _ | 8, _ | 9, _ | 10, _ | 11, _ | 12, _ | 13, _ => rfl))
 have B1 := hide (show Below w.heap.size w W1 from by rw [← hW1]; exact HB.out.alloc HB.out.size _)
 go_enter Tryz.func15, Tryz.ntmps15
 go_upto_region 2 with (fail)
 rw [show w.heap.size + 1 = b from by have := HBB.out; omega]
 clear hW0 hW1 x0 x1 x2 x3 x4 x5
 refine RG.regionB 7 (ks := [(0, 12), (1, 13), (2, 14), (3, 15), (4, 16), (5, 17), (6, 18)]) (vals := fun i => match i with
   | 0 => .pointer (some ⟨b, 0, none⟩)
   | 1 => .pointer (some ⟨b, 0, none⟩)
   | 2 => .pointer (some ⟨b, 0, none⟩)
   | 3 => .int .i64 hand
   | 4 => .pointer (some ⟨b, 0, none⟩)
   | 5 => .func (.func 61) #[.pointer (some ⟨b, 0, none⟩)] #[]
   | 6 => .tuple #[]
   | _ => undef) (x := 5) (WI := fun L v_ w' => SB b 96 14 (fun g_ => gC ⟨s0, s1, s2, s3, s4, s5⟩ (if g_ = true then hand else 0) (if g_ = true then (.func (.func 61) #[.pointer (some ⟨b, 0, none⟩)] #[]) else .nilFunc) 0 ⟨false, 0⟩ ix 0 0) W1 (L 6) w') (by kernel_rfl) (by kernel_rfl) rfl (by kernel_rfl) (by kernel_rfl) (SB.start R1.out) ?does ?fin
 case does =>
  intro i o ho
  have hi : i < 7 := RG.lt_of ho rfl
  match i, hi with
  | 0, _ => cases ho; exact RG.Does.read rfl (fun L v_ w' h => SB.skip (by decide) h) (fun L a w' hI hd => ex_move rfl (hI.fx 7 rfl))
  | 1, _ => cases ho; exact RG.Does.read rfl (fun L v_ w' h => SB.skip (by decide) h) (fun L a w' hI hd => ex_nil rfl (hI.pure 0 _ _ rfl (hd ⟨0, .data⟩ (by simp) rfl)))
  | 2, _ => cases ho; exact RG.Does.read rfl (fun L v_ w' h => SB.skip (by decide) h) (fun L a w' hI hd => ex_field rfl (hI.pure 1 _ _ rfl (hd ⟨1, .data⟩ (by simp) rfl)) (fieldG0 w' _))
  | 3, _ => cases ho; exact RG.Does.read rfl (fun L v_ w' h => SB.skip (by decide) h) (fun L a w' hI hd => ex_move rfl (hI.fx 1 rfl))
  | 4, _ => cases ho; exact RG.Does.read rfl (fun L v_ w' h => SB.skip (by decide) h) (fun L a w' hI hd => ex_move rfl (hI.fx 7 rfl))
  | 5, _ => cases ho; exact RG.Does.call rfl (fun L a w' hI hd => call1 rfl (hI.pure 4 _ _ rfl (hd ⟨4, .data⟩ (by simp) rfl)) rfl (by simp [go_sem])) (fun L v_ w2 hI hL => (wol_yes hI.row H5.out HT.out).mono (by rintro e w3 ⟨rfl, hb⟩; exact ⟨rfl, SB.skip (by decide)  (SBq hI hb)⟩))
  | 6, _ => cases ho; exact RG.Does.call rfl (fun L a w' hI hd => call3 rfl (hI.pure 2 _ _ rfl (hd ⟨2, .data⟩ (by simp) rfl)) (hI.pure 3 _ _ rfl (hd ⟨3, .data⟩ (by simp) rfl)) (hI.pure 5 _ _ rfl (hd ⟨5, .data⟩ (by simp) rfl)) rfl (by simp [go_sem])) (fun L v_ w2 hI hL => by have h3 := hI; rw [hL] at h3; refine (workBegin (hand := hand) 61 h3.row (by omega)).mono ?_; rintro e w3 ⟨rfl, r3, t3⟩; refine ⟨rfl, ?_⟩; rw [upd_same]; exact ⟨r3.congr (fun i hi => g_beg _ _ _ _ _ _ _ _ _ _ i hi), h3.tch.trans' t3 (fun _ _ e => e)⟩)
 case fin =>
  intro L a' w4 hI hall
  have hw := hI.world
  simp only [hall 6 (by decide)] at hw
  have ea := act_all a' 21 (by rw [hI.sz]; rfl) hI.df
  simp only [List.range, List.range.loop, List.map] at ea
  rw [hI.fx 0 rfl, hI.fx 1 rfl, hI.fx 2 rfl, hI.fx 3 rfl, hI.fx 4 rfl, hI.fx 6 rfl, hI.fx 7 rfl, hI.fx 8 rfl, hI.fx 9 rfl, hI.fx 10 rfl, hI.fx 11 rfl, hI.fx 19 rfl, hI.fx 20 rfl] at ea
  clear hI hall
  obtain ⟨us, hus⟩ : ∃ us : Nat → Value, ∀ k, a'.eval (.tmp k) = us k := ⟨_, fun _ => rfl⟩
  simp only [hus] at ea
  simp only [show ∀ (ts : Array Value) (ds) (i : Nat), (Act.mk ts ds).eval (.tmp i) = ts.getD i undef from fun _ _ _ => rfl] at ea
  simp at ea
  subst ea
  have R4 := hide hw.row
  have G4 := hide (touch_grown hw.tch hbw B1.out)
  clear hw
  go_wp2_with fail
  go_ret
  exact ⟨b, rfl, R4.out, hbw, G4.out⟩
theorem give_look {sh : Shp} (h5 : Shape.R5 sh.a sh.b sh.c sh.d sh.e) (hand ix : Int) (ht : ¬ slotIn sh ix 0) (w : World) :
  Calls Tryz.prog 15 #[sh.val, .int .i64 hand, .int .i64 ix] w fun e w' => ∃ b, e = .returned (.iface 94 (.pointer (some ⟨b, 0, none⟩))) ∧
   w'.rowIs b 96 14 (gC sh hand (fnG b 1) 0 ⟨false, 0⟩ ix 0 0) ∧ w.heap.size ≤ b ∧ w.grownBy w' none := by
 have H5 := hide h5
 have HT := hide ht
 clear h5 ht
 obtain ⟨s0, s1, s2, s3, s4, s5⟩ := sh
 simp only [Shp.val]
 obtain ⟨W0, hW0, B0, K⟩ := Shape.box w s0 s1 s2 s3 s4 s5
 have HB := hide B0
 have sz0 : W0.heap.size = w.heap.size + 1 := by rw [← hW0]; simp
 obtain ⟨-, l0, x0, x1, x2, x3, x4, x5⟩ := K.out W0 (Below.refl _ _)
 clear B0 K
 obtain ⟨b, hb⟩ : ∃ b, w.heap.size + 1 = b := ⟨_, rfl⟩
 have HBB := hide (show W0.heap.size = b by omega)
 have hbw : w.heap.size ≤ b := by omega
 clear hb
 obtain ⟨W1, hW1⟩ : ∃ W1, W0.alloc (.cells #[.int .i64 0, .nilFunc, .int .u64 0, .bool false, .int .u64 0, .int .i64 s0, .int .i64 s1, .int .i64 s2, .int .i64 s3, .int .i64 s4, .int .i64 s5, .int .i64 ix, .int .i64 0, .int .u64 0] 96) = W1 := ⟨_, rfl⟩
 have R1 := hide (show W1.rowIs b 96 14 (gC ⟨s0, s1, s2, s3, s4, s5⟩ 0 .nilFunc 0 ⟨false, 0⟩ ix 0 0) from by
  rw [← hW1, ← HBB.out]
  exact rowIs_cells _ _ _ 14 rfl (fun i hi => by
   match i, hi with
   | 0, _ | 1, _ | 2, _ | 3, _ | 4, _ | 5, _ | 6, _ | 7, _ | 8, _ | 9, _ | 10, _ | 11, _ | 12, _ | 13, _ => rfl))
 have B1 := hide (show Below w.heap.size w W1 from by rw [← hW1]; exact HB.out.alloc HB.out.size _)
 go_enter Tryz.func15, Tryz.ntmps15
 go_upto_region 2 with (fail)
 rw [show w.heap.size + 1 = b from by have := HBB.out; omega]
 clear hW0 hW1 x0 x1 x2 x3 x4 x5
 refine RG.regionB 7 (ks := [(0, 12), (1, 13), (2, 14), (3, 15), (4, 16), (5, 17), (6, 18)]) (vals := fun i => match i with
   | 0 => .pointer (some ⟨b, 0, none⟩)
   | 1 => .pointer (some ⟨b, 0, none⟩)
   | 2 => .pointer (some ⟨b, 0, none⟩)
   | 3 => .int .i64 hand
   | 4 => .pointer (some ⟨b, 0, none⟩)
   | 5 => .func (.func 60) #[.pointer (some ⟨b, 0, none⟩)] #[]
   | 6 => .tuple #[]
   | _ => undef) (x := 5) (WI := fun L v_ w' => SB b 96 14 (fun g_ => gC ⟨s0, s1, s2, s3, s4, s5⟩ (if g_ = true then hand else 0) (if g_ = true then (.func (.func 60) #[.pointer (some ⟨b, 0, none⟩)] #[]) else .nilFunc) 0 ⟨false, 0⟩ ix 0 0) W1 (L 6) w') (by kernel_rfl) (by kernel_rfl) rfl (by kernel_rfl) (by kernel_rfl) (SB.start R1.out) ?does ?fin
 case does =>
  intro i o ho
  have hi : i < 7 := RG.lt_of ho rfl
  match i, hi with
  | 0, _ => cases ho; exact RG.Does.read rfl (fun L v_ w' h => SB.skip (by decide) h) (fun L a w' hI hd => ex_move rfl (hI.fx 7 rfl))
  | 1, _ => cases ho; exact RG.Does.read rfl (fun L v_ w' h => SB.skip (by decide) h) (fun L a w' hI hd => ex_nil rfl (hI.pure 0 _ _ rfl (hd ⟨0, .data⟩ (by simp) rfl)))
  | 2, _ => cases ho; exact RG.Does.read rfl (fun L v_ w' h => SB.skip (by decide) h) (fun L a w' hI hd => ex_field rfl (hI.pure 1 _ _ rfl (hd ⟨1, .data⟩ (by simp) rfl)) (fieldG0 w' _))
  | 3, _ => cases ho; exact RG.Does.read rfl (fun L v_ w' h => SB.skip (by decide) h) (fun L a w' hI hd => ex_move rfl (hI.fx 1 rfl))
  | 4, _ => cases ho; exact RG.Does.read rfl (fun L v_ w' h => SB.skip (by decide) h) (fun L a w' hI hd => ex_move rfl (hI.fx 7 rfl))
  | 5, _ => cases ho; exact RG.Does.call rfl (fun L a w' hI hd => call1 rfl (hI.pure 4 _ _ rfl (hd ⟨4, .data⟩ (by simp) rfl)) rfl (by simp [go_sem])) (fun L v_ w2 hI hL => (wol_no hI.row H5.out HT.out).mono (by rintro e w3 ⟨rfl, hb⟩; exact ⟨rfl, SB.skip (by decide)  (SBq hI hb)⟩))
  | 6, _ => cases ho; exact RG.Does.call rfl (fun L a w' hI hd => call3 rfl (hI.pure 2 _ _ rfl (hd ⟨2, .data⟩ (by simp) rfl)) (hI.pure 3 _ _ rfl (hd ⟨3, .data⟩ (by simp) rfl)) (hI.pure 5 _ _ rfl (hd ⟨5, .data⟩ (by simp) rfl)) rfl (by simp [go_sem])) (fun L v_ w2 hI hL => by have h3 := hI; rw [hL] at h3; refine (workBegin (hand := hand) 60 h3.row (by omega)).mono ?_; rintro e w3 ⟨rfl, r3, t3⟩; refine ⟨rfl, ?_⟩; rw [upd_same]; exact ⟨r3.congr (fun i hi => g_beg _ _ _ _ _ _ _ _ _ _ i hi), h3.tch.trans' t3 (fun _ _ e => e)⟩)
 case fin =>
  intro L a' w4 hI hall
  have hw := hI.world
  simp only [hall 6 (by decide)] at hw
  have ea := act_all a' 21 (by rw [hI.sz]; rfl) hI.df
  simp only [List.range, List.range.loop, List.map] at ea
  rw [hI.fx 0 rfl, hI.fx 1 rfl, hI.fx 2 rfl, hI.fx 3 rfl, hI.fx 4 rfl, hI.fx 6 rfl, hI.fx 7 rfl, hI.fx 8 rfl, hI.fx 9 rfl, hI.fx 10 rfl, hI.fx 11 rfl, hI.fx 19 rfl, hI.fx 20 rfl] at ea
  clear hI hall
  obtain ⟨us, hus⟩ : ∃ us : Nat → Value, ∀ k, a'.eval (.tmp k) = us k := ⟨_, fun _ => rfl⟩
  simp only [hus] at ea
  simp only [show ∀ (ts : Array Value) (ds) (i : Nat), (Act.mk ts ds).eval (.tmp i) = ts.getD i undef from fun _ _ _ => rfl] at ea
  simp at ea
  subst ea
  have R4 := hide hw.row
  have G4 := hide (touch_grown hw.tch hbw B1.out)
  clear hw
  go_wp2_with fail
  go_ret
  exact ⟨b, rfl, R4.out, hbw, G4.out⟩
theorem give_ok {sh : Shp} (h5 : Shape.R5 sh.a sh.b sh.c sh.d sh.e) (hand ix : Int) (w : World) :
  Calls Tryz.prog 15 #[sh.val, .int .i64 hand, .int .i64 ix] w fun e w' => ∃ b, e = .returned (.iface 94 (.pointer (some ⟨b, 0, none⟩))) ∧
   w'.rowIs b 96 14 (gC sh hand (fnG b (if slotIn sh ix 0 then 0 else 1)) 0 ⟨false, 0⟩ ix 0 0) ∧ w.heap.size ≤ b ∧ w.grownBy w' none := by
 by_cases ht : slotIn sh ix 0
 ·rw [if_pos ht]
  exact give_wipe h5 hand ix ht w
 ·rw [if_neg ht]
  exact give_look h5 hand ix ht w
theorem callTask (args : Array Value) (w : World) : (callFunc 23 args).run Tryz.prog w = .ok (.enter 23 args) w := by simp [go_sem]
theorem task1 {sh : Shp} (hand a b c hh : Int) (hb : b = 0 ∨ b = 1) (hc : c = 0 ∨ c = 1) (w : World) :
  Calls Tryz.prog 23 #[sh.val, .int .i64 hand, (⟨1, a, b, c, hh⟩ : Jb).val] w fun e w' => ∃ bb, e = .returned (.tuple #[.iface 86 (.pointer (some ⟨bb, 0, none⟩)), .int .i64 0]) ∧
   w'.rowIs bb 92 15 (mC sh hand (fnM bb 0) 0 ⟨false, 0⟩ (b == 1) (bit1 c) 0 0) ∧ w.heap.size ≤ bb ∧ w.grownBy w' none := by
 have MKO := hide (fun w1 : World => make_ok sh hand c (b == 1) w1)
 have I1 := hide (fun w1 : World => isBit_any b w1)
 have I2 := hide (fun w1 : World => isBit_any c w1)
 rw [bit_eq, decide_eq_true hb] at I1
 rw [bit_eq, decide_eq_true hc] at I2
 clear hb hc
 obtain ⟨s0, s1, s2, s3, s4, s5⟩ := sh
 simp only [Shp.val, Jb.val] at MKO ⊢
 go_enter Tryz.func23, Tryz.ntmps23
 go_wp2_with (first | (go_at_call 46; refine (I1.out _).mono ?_; rintro e wq ⟨rfl, hwq⟩; obtain rfl := hwq.symm) | (go_at_call 46; refine (I2.out _).mono ?_; rintro e wq ⟨rfl, hwq⟩; obtain rfl := hwq.symm) | (go_at_call 13; refine (MKO.out _).mono ?_; rintro e w3 ⟨bb, rfl, hr3, hb3, hg3⟩; have HR := hide hr3; have HG := hide hg3; simp only [World.size_alloc] at hb3; clear hr3 hg3))
 go_ret2
 exact ⟨bb, rfl, HR.out, by omega, grown_trans (grown_alloc (grown_alloc (grown_refl _ _) _) _) HG.out⟩
theorem task2 {sh : Shp} (h5 : Shape.R5 sh.a sh.b sh.c sh.d sh.e) (hand a b c hh : Int) (ha : there sh a) (w : World) :
  Calls Tryz.prog 23 #[sh.val, .int .i64 hand, (⟨2, a, b, c, hh⟩ : Jb).val] w fun e w' => ∃ bb, e = .returned (.tuple #[.iface 94 (.pointer (some ⟨bb, 0, none⟩)), .int .i64 0]) ∧
   w'.rowIs bb 96 14 (gC sh hand (fnG bb (if slotIn sh a 0 then 0 else 1)) 0 ⟨false, 0⟩ a 0 0) ∧ w.heap.size ≤ bb ∧ w.grownBy w' none := by
 have GVO := hide (fun w1 : World => give_ok h5 hand a w1)
 have IN := hide (fun w1 : World => isNumber_any sh a w1)
 rw [decide_eq_true ha] at IN
 clear h5 ha
 obtain ⟨fv, hfv⟩ : ∃ f : Nat → Value, (fun bb => fnG bb (if slotIn sh a 0 then 0 else 1)) = f := ⟨_, rfl⟩
 have hfv' : ∀ bb, fnG bb (if slotIn sh a 0 then 0 else 1) = fv bb := fun bb => congrFun hfv bb
 simp only [hfv'] at GVO ⊢
 clear hfv hfv'
 obtain ⟨s0, s1, s2, s3, s4, s5⟩ := sh
 simp only [Shp.val, Jb.val] at GVO IN ⊢
 go_enter Tryz.func23, Tryz.ntmps23
 obtain ⟨W0, hW0, B0, K⟩ := Shape.box w s0 s1 s2 s3 s4 s5
 have HB := hide B0
 have sz0 : W0.heap.size = w.heap.size + 1 := by rw [← hW0]; simp
 obtain ⟨W1, hW1⟩ : ∃ W1, W0.alloc (.cells #[.int .i64 2, .int .i64 a, .int .i64 b, .int .i64 c, .int .u64 hh] 52) = W1 := ⟨_, rfl⟩
 have B1 := hide (show Below W0.heap.size W0 W1 from by rw [← hW1]; exact (Below.refl _ W0).alloc (Nat.le_refl _) _)
 have sz1 : W1.heap.size = w.heap.size + 2 := by rw [← hW1]; simp; omega
 obtain ⟨-, l0, x0, x1, x2, x3, x4, x5⟩ := K.out W1 B1.out
 have RJ : W1.rowIs (w.heap.size + 1) 52 5 (fun i => (#[Value.int .i64 2, .int .i64 a, .int .i64 b, .int .i64 c, .int .u64 hh]).getD i undef) := by rw [← hW1, ← sz0]; exact rowIs_cells _ _ _ 5 rfl (fun i hi => by
  match i, hi with
  | 0, _ | 1, _ | 2, _ | 3, _ | 4, _ => rfl)
 have j0 : W1.cell? ⟨w.heap.size + 1, 0, none⟩ = some (.int .i64 2) := RJ.cell (i := 0) (by decide)
 have j1 : W1.cell? ⟨w.heap.size + 1, 1, none⟩ = some (.int .i64 a) := RJ.cell (i := 1) (by decide)
 clear B0 RJ
 go_upto_region 5 with (fail)
 clear hW0 hW1
 go_wp2_with (first | (go_at_call 47; refine (IN.out _).mono ?_; rintro e w2 ⟨rfl, hb2⟩; have HB2 := hide hb2; have sz2 := hb2.size; obtain ⟨-, l0', y0, y1, y2, y3, y4, y5⟩ := K.out w2 (B1.out.trans (hb2.mono B1.out.size)); have k1 : w2.cell? ⟨w.heap.size + 1, 1, none⟩ = some (.int .i64 a) := (hb2.cell (p := ⟨w.heap.size + 1, 1, none⟩) (by simp only; omega)).trans j1; clear hb2 x0 x1 x2 x3 x4 x5 j0 j1 K) | (go_at_call 15; refine (GVO.out _).mono ?_; rintro e w3 ⟨bb, rfl, hr3, hb3, hg3⟩; have HR := hide hr3; have HG := hide hg3; clear hr3 hg3))
 go_ret2
 exact ⟨bb, rfl, HR.out, by omega, grown_trans (below_grown ((HB.out.trans (B1.out.mono (by omega))).trans (HB2.out.mono (by omega))) none) HG.out⟩
theorem task_b {sh : Shp} (hand a b c hh : Int) (hb : ¬ (b = 0 ∨ b = 1))  (w : World) :
  Calls Tryz.prog 23 #[sh.val, .int .i64 hand, (⟨1, a, b, c, hh⟩ : Jb).val] w fun e w' => e = .returned (.tuple #[.nilIface, .int .i64 2]) ∧ w.grownBy w' none := by
 have I1 := hide (fun w1 : World => isBit_any b w1)
 have I2 := hide (fun w1 : World => isBit_any c w1)
 rw [bit_eq, decide_eq_false hb] at I1
 clear hb
 obtain ⟨s0, s1, s2, s3, s4, s5⟩ := sh
 simp only [Shp.val, Jb.val]
 go_enter Tryz.func23, Tryz.ntmps23
 go_wp2_with (first | (go_at_call 46; refine (I1.out _).mono ?_; rintro e wq ⟨rfl, hwq⟩; obtain rfl := hwq.symm) | (go_at_call 46; refine (I2.out _).mono ?_; rintro e wq ⟨rfl, hwq⟩; obtain rfl := hwq.symm))
 go_ret2
 exact ⟨rfl, grown_alloc (grown_alloc (grown_refl _ _) _) _⟩
theorem task_c {sh : Shp} (hand a b c hh : Int) (hb : b = 0 ∨ b = 1) (hc : ¬ (c = 0 ∨ c = 1)) (w : World) :
  Calls Tryz.prog 23 #[sh.val, .int .i64 hand, (⟨1, a, b, c, hh⟩ : Jb).val] w fun e w' => e = .returned (.tuple #[.nilIface, .int .i64 2]) ∧ w.grownBy w' none := by
 have I1 := hide (fun w1 : World => isBit_any b w1)
 have I2 := hide (fun w1 : World => isBit_any c w1)
 rw [bit_eq, decide_eq_true hb] at I1
 rw [bit_eq, decide_eq_false hc] at I2
 clear hb hc
 obtain ⟨s0, s1, s2, s3, s4, s5⟩ := sh
 simp only [Shp.val, Jb.val]
 go_enter Tryz.func23, Tryz.ntmps23
 go_wp2_with (first | (go_at_call 46; refine (I1.out _).mono ?_; rintro e wq ⟨rfl, hwq⟩; obtain rfl := hwq.symm) | (go_at_call 46; refine (I2.out _).mono ?_; rintro e wq ⟨rfl, hwq⟩; obtain rfl := hwq.symm))
 go_ret2
 exact ⟨rfl, grown_alloc (grown_alloc (grown_refl _ _) _) _⟩
theorem task_a {sh : Shp} (hand a b c hh : Int) (ha : ¬ there sh a) (w : World) :
  Calls Tryz.prog 23 #[sh.val, .int .i64 hand, (⟨2, a, b, c, hh⟩ : Jb).val] w fun e w' => e = .returned (.tuple #[.nilIface, .int .i64 2]) ∧ w.grownBy w' none := by
 have IN := hide (fun w1 : World => isNumber_any sh a w1)
 rw [decide_eq_false ha] at IN
 clear ha
 obtain ⟨s0, s1, s2, s3, s4, s5⟩ := sh
 simp only [Shp.val, Jb.val] at IN ⊢
 go_enter Tryz.func23, Tryz.ntmps23
 go_wp2_with (go_at_call 47; refine (IN.out _).mono ?_; rintro e w2 ⟨rfl, hb2⟩; have HB2 := hide hb2; clear hb2)
 go_ret2
 exact ⟨rfl, grown_trans (grown_alloc (grown_alloc (grown_refl _ _) _) _) (below_grown HB2.out none)⟩
theorem task_kind {sh : Shp} (hand k a b c hh : Int) (h1 : ¬ k = 1) (h2 : ¬ k = 2) (w : World) :
  Calls Tryz.prog 23 #[sh.val, .int .i64 hand, (⟨k, a, b, c, hh⟩ : Jb).val] w fun e w' => e = .returned (.tuple #[.nilIface, .int .i64 200]) ∧ w.grownBy w' none := by
 have e1 : (k != 1) = true := by simpa using h1
 have e2 : (k != 2) = true := by simpa using h2
 clear h1 h2
 obtain ⟨s0, s1, s2, s3, s4, s5⟩ := sh
 simp only [Shp.val, Jb.val]
 go_enter Tryz.func23, Tryz.ntmps23
 go_wp2_with fail
 go_ret2
 exact ⟨rfl, grown_alloc (grown_alloc (grown_refl _ _) _) _⟩
theorem task_any {sh : Shp} (h5 : Shape.R5 sh.a sh.b sh.c sh.d sh.e) (hand : Int) (j : Jb) (hw : j.wf) (he : rerr false sh hand j = 0) (w : World) :
  Calls Tryz.prog 23 #[sh.val, .int .i64 hand, j.val] w fun e w' => ∃ bb, e = .returned (.tuple #[.iface ((kRom false sh).tid j) (.pointer (some ⟨bb, 0, none⟩)), .int .i64 0]) ∧
   w'.rowIs bb ((kRom false sh).t j) ((kRom false sh).n j) (rcell sh bb (rinit sh hand j)) ∧ w.heap.size ≤ bb ∧ w.grownBy w' none := by
 obtain ⟨k, a, b, c, hh⟩ := j
 simp only [rerr, if_neg (show ¬ false = true by decide)] at he
 by_cases h1 : k = 1
 ·subst h1
  rw [if_pos rfl] at he
  by_cases hbc : (b = 0 ∨ b = 1) ∧ (c = 0 ∨ c = 1)
  ·exact task1 hand a b c hh hbc.1 hbc.2 w
  ·rw [if_neg hbc] at he
   cases he
 ·rw [if_neg h1] at he
  by_cases h2 : k = 2
  ·subst h2
   rw [if_pos rfl] at he
   by_cases ht : there sh a
   ·exact task2 h5 hand a b c hh ht w
   ·rw [if_neg ht] at he
    cases he
  ·rw [if_neg h2] at he
   cases he
theorem task_err {sh : Shp} (hand : Int) (j : Jb) (he : ¬ rerr false sh hand j = 0) (w : World) :
  Calls Tryz.prog 23 #[sh.val, .int .i64 hand, j.val] w fun e w' => e = .returned (.tuple #[.nilIface, .int .i64 (rerr false sh hand j)]) ∧ w.grownBy w' none := by
 obtain ⟨k, a, b, c, hh⟩ := j
 by_cases h1 : k = 1
 ·subst h1
  by_cases hb : b = 0 ∨ b = 1
  ·by_cases hc : c = 0 ∨ c = 1
   ·exact absurd (by simp [rerr, hb, hc]) he
   ·rw [show rerr false sh hand ⟨1, a, b, c, hh⟩ = 2 from by simp [rerr, hc]]
    exact task_c hand a b c hh hb hc w
  ·rw [show rerr false sh hand ⟨1, a, b, c, hh⟩ = 2 from by simp [rerr, hb]]
   exact task_b hand a b c hh hb w
 ·by_cases h2 : k = 2
  ·subst h2
   by_cases ht : there sh a
   ·exact absurd (by simp [rerr, ht]) he
   ·rw [show rerr false sh hand ⟨2, a, b, c, hh⟩ = 2 from by simp [rerr, ht]]
    exact task_a hand a b c hh ht w
  ·rw [show rerr false sh hand ⟨k, a, b, c, hh⟩ = 200 from by simp [rerr, h1, h2]]
   exact task_kind hand k a b c hh h1 h2 w
theorem makes {sh : Shp} (h5 : Shape.R5 sh.a sh.b sh.c sh.d sh.e) {w : World} {tb sb : Nat} (H : Boxes w tb sb 23 sh) : MakesAt (kRom false sh) (mkOf tb sb) w := by
 intro hand j h0 h8 hw
 exact ⟨fun he => maker_okB (C := fun b => rcell sh b (rinit sh hand j)) callTask H (fun w1 => task_any h5 hand j hw he w1), fun he => maker_err callTask H he (fun w1 => task_err hand j he w1)⟩
end Rom
end
end Go.Proofs.YtmikhglnomgbfaaGreat
