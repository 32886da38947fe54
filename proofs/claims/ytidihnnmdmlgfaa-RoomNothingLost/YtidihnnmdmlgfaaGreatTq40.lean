/-
  Lemmas: RoomD.
-/
import Derived.Test.YtidihnnmdmlgfaaGreatTq38
namespace Go.Proofs.YtidihnnmdmlgfaaGreat
set_option maxHeartbeats 8000000
open Go.RowKit
set_option linter.unusedVariables false
set_option linter.unusedSimpArgs false
set_option maxRecDepth 20000
section
namespace Rom
open Hp
theorem glook_any {w : World} {b bm bw n : Nat} {f f' : Nat → Int} {x : Stp} {sh : Shp} {hand : Int} {fn v2 v3 : Value} {t : Ans} {ix sl gn : Int} (h_ : w.rowIs b 105 15 (gC sh hand fn v2 v3 t ix sl gn)) (hm : IsMem w bm bw n f) (h1 : b ≠ bm) (h2 : b ≠ bw) (h5 : Shape.R5 sh.a sh.b sh.c sh.d sh.e) (hxh : 0 ≤ x.had ∧ x.had ≤ 18446744073709551615)
    (hx : stepOf n f ⟨hand, 1, headAt sh ix, 0, 0, true⟩ = x) (hf' : wordsOf n f ⟨hand, 1, headAt sh ix, 0, 0, true⟩ = f') :
    Calls Tryz.prog 59 #[.pointer (some ⟨b, 0, none⟩), .pointer (some ⟨bm, 0, none⟩)] w fun e w' => e = .returned (.tuple #[x.val, .int .i64 0]) ∧
      w'.rowIs b 105 15 (gC sh hand (.func (.func 73) #[.pointer (some ⟨b, 0, none⟩)] #[]) v2 v3 t ix sl (x.had / 4294967296)) ∧ IsMem w' bm bw n f' ∧ Touch w w' (fun k => k = b ∨ k = bw) := by
  have hl := h_.lt
  have lw := hm.row.lt
  have lm := hm.head.lt
  have hn3 : w.heap.size ≠ b := by omega
  have hn4 : w.heap.size ≠ bw := by omega
  have hn5 : w.heap.size ≠ bm := by omega
  obtain ⟨W1, hW1⟩ : ∃ W1, w.alloc (.cells #[.int .i64 0, .int .i64 0, .int .i64 0, .int .u64 0, .int .u64 0, .bool false] 122) = W1 := ⟨_, rfl⟩
  have R := hide (show W1.rowIs b 105 15 (gC sh hand fn v2 v3 t ix sl gn) from by rw [← hW1]; exact h_.alloc _)
  have M := hide (show IsMem W1 bm bw n f from by rw [← hW1]; exact hm.alloc _)
  have RZ := hide (show W1.rowIs w.heap.size 122 6 zcell from by rw [← hW1]; exact row0 w)
  have T0 := hide (show Touch w W1 (fun k => k = b ∨ k = bw) from by rw [← hW1]; exact (Touch.refl w _).alloc _)
  have sz : W1.heap.size = w.heap.size + 1 := by rw [← hW1]; simp
  have lW1 : b < W1.heap.size := by omega
  obtain ⟨dS, hdS1, hdS2⟩ := row46
  have HD := hide (And.intro hdS1 hdS2)
  obtain ⟨dG, hdG1, hdG2⟩ := rowSh
  have HDS := hide (And.intro hdG1 hdG2)
  have HX := hide hx
  have HF := hide hf'
  have HW : Hid (0 ≤ (⟨hand, 1, headAt sh ix, 0, 0, true⟩ : Stp).put ∧ (⟨hand, 1, headAt sh ix, 0, 0, true⟩ : Stp).put ≤ 18446744073709551615) := ⟨by show (0 : Int) ≤ 0; omega, by show (0 : Int) ≤ 18446744073709551615; omega⟩
  have IX := hide (fun w1 : World => gen_any x.had hxh.1 (by omega) w1)
  have H5 := hide h5
  clear hm h_ hx hf' hdS1 hdS2 hdG1 hdG2 hxh h5
  go_enter Tryz.func59, Tryz.ntmps59
  go_wp2_with fail
  clear hW1
  refine RG.region (ks := [(0, 7), (1, 8), (2, 9), (3, 10), (4, 11), (5, 12), (6, 13), (7, 14), (8, 15), (9, 16), (10, 17), (11, 18), (12, 19), (13, 20)]) (vals := fun i => match i with
      | 0 => .pointer (some ⟨b, 0, none⟩)
      | 1 => .pointer (some ⟨b, 0, none⟩)
      | 2 => .pointer (some ⟨b, 0, none⟩)
      | 3 => .pointer (some ⟨bm, 0, none⟩)
      | 4 => .pointer (some ⟨b, 0, none⟩)
      | 5 => .pointer (some ⟨b, 0, none⟩)
      | 6 => .pointer (some ⟨b, 6, none⟩)
      | 7 => .agg #[.int .i64 sh.a, .int .i64 sh.b, .int .i64 sh.c, .int .i64 sh.d, .int .i64 sh.e, .int .i64 sh.f]
      | 8 => .pointer (some ⟨b, 0, none⟩)
      | 9 => .pointer (some ⟨b, 0, none⟩)
      | 10 => .pointer (some ⟨b, 12, none⟩)
      | 11 => .int .i64 ix
      | 12 => .int .i64 (headAt sh ix)
      | 13 => .agg #[.int .i64 x.hand, .int .i64 x.act, .int .i64 x.at_, .int .u64 x.had, .int .u64 x.put, .bool x.ok]
      | _ => undef) (x := 6) (WI := fun L v_ w' => RG.SW b 105 15 (gC sh hand fn v2 v3 t ix sl gn) bm bw n f f' x w.heap.size W1 (L 13) (L 14) (L 15) v_ w') (by kernel_rfl) ?gg ?bk rfl ?dd ?xx (RG.SW.start R.out M.out RZ.out) ?does ?fin
  case gg =>
    intro i o ho
    have hi : i < 16 := by have := (Array.getElem?_eq_some_iff.1 ho).1; simpa using this
    match i, hi with
    | 0, _ | 1, _ | 2, _ | 3, _ | 4, _ | 5, _ | 6, _ | 7, _ | 8, _ | 9, _ | 10, _ | 11, _ | 12, _ | 13, _ | 14, _ | 15, _ => injection ho with ho; subst ho; rfl
  case bk =>
    intro i o ho
    have hi : i < 16 := by have := (Array.getElem?_eq_some_iff.1 ho).1; simpa using this
    match i, hi with
    | 0, _ | 1, _ | 2, _ | 3, _ | 4, _ | 5, _ | 6, _ | 7, _ | 8, _ | 9, _ | 10, _ | 11, _ | 12, _ | 13, _ | 14, _ | 15, _ => injection ho with ho; subst ho; simp [Region.binds]
  case dd =>
    intro k hk
    have hk' : k < 34 := by
      simp [RetN.D] at hk
      omega
    simpa using hk'
  case xx => simp
  case does =>
    intro i o ho
    have hi : i < 16 := by have := (Array.getElem?_eq_some_iff.1 ho).1; simpa using this
    match i, hi with
    | 0, _ => injection ho with ho; subst ho; exact RG.Does.read rfl (fun L v_ w' h => RG.SW.skip (by decide) (by decide) (by decide) h) (fun L a w' hI hd => ex_move rfl (hI.fix 0 (Reg.notD rfl) (by decide)))
    | 1, _ => injection ho with ho; subst ho; exact RG.Does.read rfl (fun L v_ w' h => RG.SW.skip (by decide) (by decide) (by decide) h) (fun L a w' hI hd => ex_nil rfl (hI.pure 0 _ _ rfl (hd ⟨0, .data⟩ (by simp) rfl)))
    | 2, _ => injection ho with ho; subst ho; exact RG.Does.read rfl (fun L v_ w' h => RG.SW.skip (by decide) (by decide) (by decide) h) (fun L a w' hI hd => ex_field rfl (hI.pure 1 _ _ rfl (hd ⟨1, .data⟩ (by simp) rfl)) (fieldG0 w' _))
    | 3, _ => injection ho with ho; subst ho; exact RG.Does.read rfl (fun L v_ w' h => RG.SW.skip (by decide) (by decide) (by decide) h) (fun L a w' hI hd => ex_move rfl (hI.fix 1 (Reg.notD rfl) (by decide)))
    | 4, _ => injection ho with ho; subst ho; exact RG.Does.read rfl (fun L v_ w' h => RG.SW.skip (by decide) (by decide) (by decide) h) (fun L a w' hI hd => ex_move rfl (hI.fix 0 (Reg.notD rfl) (by decide)))
    | 5, _ => injection ho with ho; subst ho; exact RG.Does.read rfl (fun L v_ w' h => RG.SW.skip (by decide) (by decide) (by decide) h) (fun L a w' hI hd => ex_nil rfl (hI.pure 4 _ _ rfl (hd ⟨4, .data⟩ (by simp) rfl)))
    | 6, _ => injection ho with ho; subst ho; exact RG.Does.read rfl (fun L v_ w' h => RG.SW.skip (by decide) (by decide) (by decide) h) (fun L a w' hI hd => ex_field rfl (hI.pure 5 _ _ rfl (hd ⟨5, .data⟩ (by simp) rfl)) (fieldG1 w' _))
    | 7, _ => injection ho with ho; subst ho; exact RG.Does.read rfl (fun L v_ w' h => RG.SW.skip (by decide) (by decide) (by decide) h) (fun L a w' hI hd => ex_load_row rfl (hI.pure 6 _ _ rfl (hd ⟨6, .data⟩ (by simp) rfl)) (shrowAt (o := 6) (sh := sh) (by omega) rfl rfl rfl rfl rfl rfl hI.world.row) HDS.out.1 HDS.out.2 sizeSh)
    | 8, _ => injection ho with ho; subst ho; exact RG.Does.read rfl (fun L v_ w' h => RG.SW.skip (by decide) (by decide) (by decide) h) (fun L a w' hI hd => ex_move rfl (hI.fix 0 (Reg.notD rfl) (by decide)))
    | 9, _ => injection ho with ho; subst ho; exact RG.Does.read rfl (fun L v_ w' h => RG.SW.skip (by decide) (by decide) (by decide) h) (fun L a w' hI hd => ex_nil rfl (hI.pure 8 _ _ rfl (hd ⟨8, .data⟩ (by simp) rfl)))
    | 10, _ => injection ho with ho; subst ho; exact RG.Does.read rfl (fun L v_ w' h => RG.SW.skip (by decide) (by decide) (by decide) h) (fun L a w' hI hd => ex_field rfl (hI.pure 9 _ _ rfl (hd ⟨9, .data⟩ (by simp) rfl)) (fieldG2 w' _))
    | 11, _ => injection ho with ho; subst ho; exact RG.Does.read rfl (fun L v_ w' h => RG.SW.skip (by decide) (by decide) (by decide) h) (fun L a w' hI hd => ex_load rfl (hI.pure 10 _ _ rfl (hd ⟨10, .data⟩ (by simp) rfl)) (aggI w') (hI.world.row.cell (i := 12) (by omega)))
    | 12, _ => injection ho with ho; subst ho; exact RG.Does.call rfl (fun L a w' hI hd => call2 rfl (hI.pure 7 _ _ rfl (hd ⟨7, .data⟩ (by simp) rfl)) (hI.pure 11 _ _ rfl (hd ⟨11, .data⟩ (by simp) rfl)) rfl (by simp [go_sem])) (fun L v_ w2 hI hL => ((fun w9 : World => headAt_any H5.out ix w9) w2).mono (by rintro e w3 ⟨rfl, hb⟩; exact ⟨rfl, RG.SW.skip (by decide) (by decide) (by decide)  (SWq hI hb)⟩))
    | 13, _ => injection ho with ho; subst ho; exact RG.Does.call rfl (fun L a w' hI hd => call3 rfl (hI.pure 2 _ _ rfl (hd ⟨2, .data⟩ (by simp) rfl)) (hI.pure 3 _ _ rfl (hd ⟨3, .data⟩ (by simp) rfl)) (hI.pure 12 _ _ rfl (hd ⟨12, .data⟩ (by simp) rfl)) rfl (by simp [go_sem])) (SWcalls h2 hn4 (by decide) (by decide) (fun w2 R2 M2 => load_any (R2.cell (i := 0) (by omega)) R2.lt M2 HW.out HX.out HF.out))
    | 14, _ => injection ho with ho; subst ho; exact RG.Does.make (u := fun w' => .pointer (some ⟨w'.heap.size, 0, none⟩)) rfl rfl (fun ev w' => alloc46 rfl) (fun L v_ w' h hL => by have := RG.SW.make h hL; rw [← upd_same L 14 true] at this; simpa only [upd_other _ _ (show 13 ≠ 14 by decide), upd_other _ _ (show 15 ≠ 14 by decide)] using this)
    | 15, _ => injection ho with ho; subst ho; exact RG.Does.put (ls := x.cells) rfl rfl rfl size46 (by simp [Stp.cells, Value.oneCell']) (fun L a w' hI hL hd => ⟨(hI.pure 13 _ _ rfl (hd ⟨13, .data⟩ (by simp) rfl)), by obtain ⟨q, e1, e2, e3⟩ := RG.SW.put hI.world (hd ⟨13, .data⟩ (by simp) rfl) (hd ⟨14, .data⟩ (by simp) rfl) hL; exact ⟨q, 0, e1, e2, by rw [← upd_same L 15 true] at e3; simpa only [upd_other _ _ (show 13 ≠ 15 by decide), upd_other _ _ (show 14 ≠ 15 by decide)] using e3⟩⟩)
  case fin =>
    intro L a' w1 hI hall
    have hw := hI.world
    simp only [hall 13 (by decide), hall 14 (by decide), hall 15 (by decide), if_true] at hw
    obtain ⟨q, hq, hq1, hq2, _, hr⟩ := hw.own rfl
    replace hr := hr rfl
    have ea := act_all a' 34 (by rw [hI.sz]; rfl) hI.df
    simp only [List.range, List.range.loop, List.map] at ea
    rw [hI.fix 0 (Reg.notD rfl) (by decide), hI.fix 1 (Reg.notD rfl) (by decide), hI.fix 2 (Reg.notD rfl) (by decide), hI.fix 3 (Reg.notD rfl) (by decide), hI.fix 4 (Reg.notD rfl) (by decide), hI.fix 5 (Reg.notD rfl) (by decide), hI.fix 21 (Reg.notD rfl) (by decide), hI.fix 22 (Reg.notD rfl) (by decide), hI.fix 23 (Reg.notD rfl) (by decide), hI.fix 24 (Reg.notD rfl) (by decide), hI.fix 25 (Reg.notD rfl) (by decide), hI.fix 26 (Reg.notD rfl) (by decide), hI.fix 27 (Reg.notD rfl) (by decide), hI.fix 28 (Reg.notD rfl) (by decide), hI.fix 29 (Reg.notD rfl) (by decide), hI.fix 30 (Reg.notD rfl) (by decide), hI.fix 31 (Reg.notD rfl) (by decide), hI.fix 32 (Reg.notD rfl) (by decide), hI.fix 33 (Reg.notD rfl) (by decide), hq] at ea
    clear hI hall
    generalize a'.eval (.tmp 7) = u7 at ea
    generalize a'.eval (.tmp 8) = u8 at ea
    generalize a'.eval (.tmp 9) = u9 at ea
    generalize a'.eval (.tmp 10) = u10 at ea
    generalize a'.eval (.tmp 11) = u11 at ea
    generalize a'.eval (.tmp 12) = u12 at ea
    generalize a'.eval (.tmp 13) = u13 at ea
    generalize a'.eval (.tmp 14) = u14 at ea
    generalize a'.eval (.tmp 15) = u15 at ea
    generalize a'.eval (.tmp 16) = u16 at ea
    generalize a'.eval (.tmp 17) = u17 at ea
    generalize a'.eval (.tmp 18) = u18 at ea
    generalize a'.eval (.tmp 19) = u19 at ea
    generalize a'.eval (.tmp 20) = u20 at ea
    simp only [show ∀ (ts : Array Value) (ds) (i : Nat), (Act.mk ts ds).eval (.tmp i) = ts.getD i undef from fun _ _ _ => rfl] at ea
    simp at ea
    subst ea
    have M1 := hide (show IsMem w1 bm bw n f' from by simpa using hw.mem)
    have R1 := hide hw.row
    have RR := hide hw.res
    have T1 := hide (T0.out.trans' hw.tch (fun k _ h => .inr h))
    have RQ := hide hr
    have hqb : q ≠ b := by omega
    have hqr : q ≠ w.heap.size := by omega
    have hqm : q ≠ bm ∧ q ≠ bw := by omega
    have lw1 := hw.tch.size
    have l1 : b < w1.heap.size := by omega
    have l2 : w.heap.size < w1.heap.size := by omega
    have l3 : q < w1.heap.size := by omega
    clear hw hr hq
    obtain ⟨s0, s1, s2, s3, s4, s5⟩ := stp6 RQ.out
    have Rw1 := R1
    have Mw1 := M1
    have Qw1 := RR
    have Sw1 := RQ
    have Tw1 := T1
    have db := R1.out.cell (i := 14) (by omega)
    have dfb := R1.out.frozen 14
    obtain ⟨V, hV⟩ : ∃ W', w1.setCell ⟨b, 14, none⟩ (.int .u64 (x.had / 4294967296)) = W' := ⟨_, rfl⟩
    have tV : Touch w1 V (fun k => k = b) := by
      rw [← hV]
      exact Touch.trans' (S' := fun k => k = b) (⟨rfl, rfl, rfl, Nat.le_refl _, fun _ _ _ => rfl⟩ : Touch w1 w1 (fun k => k = b)) ((Touch.refl w1 _).setCell (S := fun k => k = b) ⟨b, 14, none⟩ (.inl rfl) _) (fun k _ h => h)
    have RV := hide (show V.rowIs b 105 15 (gC sh hand fn v2 v3 t ix sl (x.had / 4294967296)) from by
      rw [← hV]
      exact World.rowIs.congr (World.rowIs.set (show World.rowIs w1 b 105 15 _ from Rw1.out.of_block rfl) 14 _) (fun i hi => g_gn _ _ _ _ _ _ _ _ _ _ i hi))
    have QV := hide (Qw1.out.of_block (tV.block _ (by omega) (by omega)))
    have MV := hide (show IsMem V bm bw n f' from ⟨Mw1.out.head.of_block (tV.block _ Mw1.out.head.lt (by omega)), Mw1.out.row.of_block (tV.block _ Mw1.out.row.lt (by omega)), Mw1.out.most, Mw1.out.word⟩)
    have TV := hide (show Touch w V (fun k => k = b ∨ k = bw) from Tw1.out.trans' tV (fun k _ h => .inl h))
    have SV := hide (rangeAt_block Sw1.out (tV.block q (by omega) (by omega)))
    have szV : V.heap.size = w1.heap.size := by rw [← hV] <;> first | (simp; done) | rfl | (simp; rfl)
    clear tV
    go_wp2_with (go_at_call 69; refine (IX.out _).mono ?_; rintro e wq ⟨rfl, hwq⟩; obtain rfl := hwq.symm)
    clear hV s0 s1 s2 s3 s4 s5 db dfb
    refine RG.region (ks := [(0, 27), (1, 28), (2, 29), (3, 30), (4, 31), (5, 32), (6, 33), (8, 5)]) (vals := fun i => match i with
          | 0 => .agg #[.int .i64 x.hand, .int .i64 x.act, .int .i64 x.at_, .int .u64 x.had, .int .u64 x.put, .bool x.ok]
          | 1 => .pointer (some ⟨b, 0, none⟩)
          | 2 => .pointer (some ⟨b, 0, none⟩)
          | 3 => .pointer (some ⟨b, 0, none⟩)
          | 4 => .pointer (some ⟨b, 0, none⟩)
          | 5 => .func (.func 73) #[.pointer (some ⟨b, 0, none⟩)] #[]
          | 6 => .int .i64 0
          | 8 => .int .i64 0
          | _ => undef) (x := 2) (WI := fun L v_ w' => RG.SX b 105 15 (fun c_ g_ => gC sh hand (if g_ = true then (.func (.func 73) #[.pointer (some ⟨b, 0, none⟩)] #[]) else fn) v2 v3 t ix sl (x.had / 4294967296)) bm bw n f' f' x w.heap.size (some q) V true (L 6) (L 7) w') (by kernel_rfl) ?gg ?bk rfl ?dd ?xx (RG.SX.start (c := true) (g := false) RV.out (by simpa using MV.out) QV.out ⟨h1, h2, hn3, hn5, hn4⟩ (fun k e => by cases e; exact ⟨SV.out, by omega, hqb, hqm.2, hqr⟩)) ?does ?fin
    case gg =>
      intro i o ho
      have hi : i < 9 := by have := (Array.getElem?_eq_some_iff.1 ho).1; simpa using this
      match i, hi with
      | 0, _ | 1, _ | 2, _ | 3, _ | 4, _ | 5, _ | 6, _ | 7, _ | 8, _ => injection ho with ho; subst ho; rfl
    case bk =>
      intro i o ho
      have hi : i < 9 := by have := (Array.getElem?_eq_some_iff.1 ho).1; simpa using this
      match i, hi with
      | 0, _ | 1, _ | 2, _ | 3, _ | 4, _ | 5, _ | 6, _ | 7, _ | 8, _ => injection ho with ho; subst ho; simp [Region.binds]
    case dd =>
      intro k hk
      have hk' : k < 34 := by
        simp [RetN.D] at hk
        omega
      simpa using hk'
    case xx => simp
    case does =>
      intro i o ho
      have hi : i < 9 := by have := (Array.getElem?_eq_some_iff.1 ho).1; simpa using this
      match i, hi with
      | 0, _ => injection ho with ho; subst ho; exact RG.Does.read rfl (fun L v_ w' h => RG.SX.skip2 (by decide) (by decide) h) (fun L a w' hI hd => ex_load_row rfl (hI.fix 6 (Reg.notD rfl) (by decide)) (hI.world.var _ rfl).1 HD.out.1 HD.out.2 size46)
      | 1, _ => injection ho with ho; subst ho; exact RG.Does.read rfl (fun L v_ w' h => RG.SX.skip2 (by decide) (by decide) h) (fun L a w' hI hd => ex_move rfl (hI.fix 0 (Reg.notD rfl) (by decide)))
      | 2, _ => injection ho with ho; subst ho; exact RG.Does.read rfl (fun L v_ w' h => RG.SX.skip2 (by decide) (by decide) h) (fun L a w' hI hd => ex_nil rfl (hI.pure 1 _ _ rfl (hd ⟨1, .data⟩ (by simp) rfl)))
      | 3, _ => injection ho with ho; subst ho; exact RG.Does.read rfl (fun L v_ w' h => RG.SX.skip2 (by decide) (by decide) h) (fun L a w' hI hd => ex_field rfl (hI.pure 2 _ _ rfl (hd ⟨2, .data⟩ (by simp) rfl)) (fieldG0 w' _))
      | 4, _ => injection ho with ho; subst ho; exact RG.Does.read rfl (fun L v_ w' h => RG.SX.skip2 (by decide) (by decide) h) (fun L a w' hI hd => ex_move rfl (hI.fix 0 (Reg.notD rfl) (by decide)))
      | 5, _ => injection ho with ho; subst ho; exact RG.Does.read rfl (fun L v_ w' h => RG.SX.skip2 (by decide) (by decide) h) (fun L a w' hI hd => ex_func rfl (hI.pure 4 _ _ rfl (hd ⟨4, .data⟩ (by simp) rfl)))
      | 6, _ => injection ho with ho; subst ho; exact RG.Does.call rfl (fun L a w' hI hd => call2 rfl (hI.pure 3 _ _ rfl (hd ⟨3, .data⟩ (by simp) rfl)) (hI.pure 5 _ _ rfl (hd ⟨5, .data⟩ (by simp) rfl)) rfl (by simp [go_sem])) (fun L v_ w2 hI hL => by have h3 := hI; rw [hL] at h3; refine (goOn_any 73 h3.row (by omega)).mono ?_; rintro e w3 ⟨rfl, r3, t3⟩; refine ⟨rfl, ?_⟩; rw [upd_same, upd_other _ _ (show 7 ≠ 6 by decide)]; exact h3.turn (g' := true) (r3.congr (fun i hi => g_fn _ _ _ _ _ _ _ _ _ _ i hi)) ⟨h3.mem.head.of_block (t3.block _ h3.mem.head.lt (fun e => h1 e.symm)), h3.mem.row.of_block (t3.block _ h3.mem.row.lt (fun e => h2 e.symm)), h3.mem.most, h3.mem.word⟩ t3 (fun k e => .inl e))
      | 7, _ => injection ho with ho; subst ho; exact RG.Does.put (ls := x.cells) rfl rfl rfl size46 (by simp [Stp.cells, Value.oneCell']) (fun L a w' hI hL hdd => ⟨(hI.pure 0 _ _ rfl (hdd ⟨0, .data⟩ (by simp) rfl)), by obtain ⟨e2, e3⟩ := RG.SX.put hI.world; exact ⟨w.heap.size, 0, hI.fix 4 (Reg.notD rfl) (by decide), e2, by show RG.SX b 105 15 (fun c_ g_ => gC sh hand (if g_ = true then (.func (.func 73) #[.pointer (some ⟨b, 0, none⟩)] #[]) else fn) v2 v3 t ix sl (x.had / 4294967296)) bm bw n f' f' x w.heap.size (some q) V true (upd L 7 true 6) (upd L 7 true 7) _; rw [upd_same, upd_other _ _ (show 6 ≠ 7 by decide)]; exact e3⟩⟩)
      | 8, _ => injection ho with ho; subst ho; exact RG.Does.read rfl (fun L v_ w' h => RG.SX.skip2 (by decide) (by decide) h) (fun L a w' hI hd => ex_assign rfl (hI.pure 6 _ _ rfl (hd ⟨6, .data⟩ (by simp) rfl)))
    case fin =>
      intro L a' w' hI hall
      rename_i K2 hK2
      refine hK2 _ _ ?_
      have hw := hI.world
      simp only [hall 6 (by decide), hall 7 (by decide)] at hw
      have rE := hw.sto rfl
      have pE : a'.eval (.tmp 4) = .pointer (some ⟨w.heap.size, 0, none⟩) := hI.fix 4 (Reg.notD rfl) (by decide)
      have pe : a'.eval (.tmp 5) = .int .i64 0 := hI.pure 8 5 _ rfl (hall 8 (by decide))
      have hdf : a'.defers = [] := hI.df
      have hS := run_loadVar_mid (P := Tryz.prog) w' w.heap.size 0 _ _ dS rE HD.out.1 HD.out.2 size46
      have hres := results_ct (Q := Tryz.prog) (fn := Tryz.f59) (tmps := a'.tmps) (t := 4) (t' := 5) (W := w') (by rfl) pE hS
      rw [show a'.tmps.getD 5 undef = .int .i64 0 from pe] at hres
      go_wp2
      exact bodyPost_ret (v := .tuple #[x.val, .int .i64 0]) hres hdf ⟨rfl, hw.row, by simpa using hw.mem, TV.out.trans' hw.tch (fun k hk h => by rcases h with h | h | h; exact .inl h; exact .inr h; omega)⟩
theorem gcount_any {w : World} {b bm bw n : Nat} {f f' : Nat → Int} {x : Stp} {sh : Shp} {hand : Int} {fn v2 v3 : Value} {t : Ans} {ix sl gn : Int} (h_ : w.rowIs b 105 15 (gC sh hand fn v2 v3 t ix sl gn)) (hm : IsMem w bm bw n f) (h1 : b ≠ bm) (h2 : b ≠ bw) (hi : ix ≤ 9223372036854775807)
    (hx : stepOf n f ⟨hand, 4, 5, 0, 1, true⟩ = x) (hf' : wordsOf n f ⟨hand, 4, 5, 0, 1, true⟩ = f') :
    Calls Tryz.prog 83 #[.pointer (some ⟨b, 0, none⟩), .pointer (some ⟨bm, 0, none⟩)] w fun e w' => e = .returned (.tuple #[x.val, .int .i64 1]) ∧
      w'.rowIs b 105 15 (gC sh hand fn v2 v3 ⟨true, mx0 ix⟩ ix sl gn) ∧ IsMem w' bm bw n f' ∧ Touch w w' (fun k => k = b ∨ k = bw) := by
  have hl := h_.lt
  have lw := hm.row.lt
  have lm := hm.head.lt
  have hn3 : w.heap.size ≠ b := by omega
  have hn4 : w.heap.size ≠ bw := by omega
  have hn5 : w.heap.size ≠ bm := by omega
  obtain ⟨W1, hW1⟩ : ∃ W1, w.alloc (.cells #[.int .i64 0, .int .i64 0, .int .i64 0, .int .u64 0, .int .u64 0, .bool false] 122) = W1 := ⟨_, rfl⟩
  have R := hide (show W1.rowIs b 105 15 (gC sh hand fn v2 v3 t ix sl gn) from by rw [← hW1]; exact h_.alloc _)
  have M := hide (show IsMem W1 bm bw n f from by rw [← hW1]; exact hm.alloc _)
  have RZ := hide (show W1.rowIs w.heap.size 122 6 zcell from by rw [← hW1]; exact row0 w)
  have T0 := hide (show Touch w W1 (fun k => k = b ∨ k = bw) from by rw [← hW1]; exact (Touch.refl w _).alloc _)
  have sz : W1.heap.size = w.heap.size + 1 := by rw [← hW1]; simp
  have lW1 : b < W1.heap.size := by omega
  obtain ⟨dS, hdS1, hdS2⟩ := row46
  have HD := hide (And.intro hdS1 hdS2)
  obtain ⟨dG, hdG1, hdG2⟩ := rowSh
  have HDS := hide (And.intro hdG1 hdG2)
  have HX := hide hx
  have HF := hide hf'
  have HW : Hid (0 ≤ (⟨hand, 4, 5, 0, 1, true⟩ : Stp).put ∧ (⟨hand, 4, 5, 0, 1, true⟩ : Stp).put ≤ 18446744073709551615) := ⟨by show (0 : Int) ≤ 1; omega, by show (1 : Int) ≤ 18446744073709551615; omega⟩
  have HI := hide (mx0_bd ix hi)
  clear hm h_ hx hf' hdS1 hdS2 hdG1 hdG2 hi
  go_enter Tryz.func83, Tryz.ntmps83
  go_wp2_with fail
  clear hW1
  have RW1 := R
  have MW1 := M
  have QW1 := RZ
  have TW1 := T0
  refine RG.region (ks := [(0, 6), (1, 7), (2, 8), (3, 9), (4, 10), (5, 11), (6, 12), (7, 13), (8, 14), (9, 15), (10, 16), (11, 17), (12, 18), (13, 19), (14, 20), (16, 5)]) (vals := fun i => match i with
        | 0 => .pointer (some ⟨b, 0, none⟩)
        | 1 => .pointer (some ⟨b, 0, none⟩)
        | 2 => .pointer (some ⟨b, 0, none⟩)
        | 3 => .pointer (some ⟨bm, 0, none⟩)
        | 4 => .agg #[.int .i64 x.hand, .int .i64 x.act, .int .i64 x.at_, .int .u64 x.had, .int .u64 x.put, .bool x.ok]
        | 5 => .pointer (some ⟨b, 0, none⟩)
        | 6 => .pointer (some ⟨b, 0, none⟩)
        | 7 => .pointer (some ⟨b, 0, none⟩)
        | 8 => .pointer (some ⟨b, 0, none⟩)
        | 9 => .pointer (some ⟨b, 0, none⟩)
        | 10 => .pointer (some ⟨b, 12, none⟩)
        | 11 => .int .i64 ix
        | 12 => .int .i64 (mx0 ix)
        | 13 => .int .u64 (mx0 ix)
        | 14 => .int .i64 1
        | 16 => .int .i64 1
        | _ => undef) (x := 2) (WI := fun L v_ w' => RG.SX b 105 15 (fun c_ g_ => gC sh hand fn v2 v3 (if g_ = true then ⟨true, mx0 ix⟩ else t) ix sl gn) bm bw n f f' x w.heap.size none W1 (L 4) (L 14) (L 15) w') (by kernel_rfl) ?gg ?bk rfl ?dd ?xx (RG.SX.start (c := false) (g := false) RW1.out (by simpa using MW1.out) QW1.out ⟨h1, h2, hn3, hn5, hn4⟩ (fun k e => by cases e)) ?does ?fin
  case gg =>
    intro i o ho
    have hi : i < 17 := by have := (Array.getElem?_eq_some_iff.1 ho).1; simpa using this
    match i, hi with
    | 0, _ | 1, _ | 2, _ | 3, _ | 4, _ | 5, _ | 6, _ | 7, _ | 8, _ | 9, _ | 10, _ | 11, _ | 12, _ | 13, _ | 14, _ | 15, _ | 16, _ => injection ho with ho; subst ho; rfl
  case bk =>
    intro i o ho
    have hi : i < 17 := by have := (Array.getElem?_eq_some_iff.1 ho).1; simpa using this
    match i, hi with
    | 0, _ | 1, _ | 2, _ | 3, _ | 4, _ | 5, _ | 6, _ | 7, _ | 8, _ | 9, _ | 10, _ | 11, _ | 12, _ | 13, _ | 14, _ | 15, _ | 16, _ => injection ho with ho; subst ho; simp [Region.binds]
  case dd =>
    intro k hk
    have hk' : k < 21 := by
      simp [RetN.D] at hk
      omega
    simpa using hk'
  case xx => simp
  case does =>
    intro i o ho
    have hi : i < 17 := by have := (Array.getElem?_eq_some_iff.1 ho).1; simpa using this
    match i, hi with
    | 0, _ => injection ho with ho; subst ho; exact RG.Does.read rfl (fun L v_ w' h => RG.SX.skip (by decide) (by decide) (by decide) h) (fun L a w' hI hd => ex_move rfl (hI.fix 0 (Reg.notD rfl) (by decide)))
    | 1, _ => injection ho with ho; subst ho; exact RG.Does.read rfl (fun L v_ w' h => RG.SX.skip (by decide) (by decide) (by decide) h) (fun L a w' hI hd => ex_nil rfl (hI.pure 0 _ _ rfl (hd ⟨0, .data⟩ (by simp) rfl)))
    | 2, _ => injection ho with ho; subst ho; exact RG.Does.read rfl (fun L v_ w' h => RG.SX.skip (by decide) (by decide) (by decide) h) (fun L a w' hI hd => ex_field rfl (hI.pure 1 _ _ rfl (hd ⟨1, .data⟩ (by simp) rfl)) (fieldG0 w' _))
    | 3, _ => injection ho with ho; subst ho; exact RG.Does.read rfl (fun L v_ w' h => RG.SX.skip (by decide) (by decide) (by decide) h) (fun L a w' hI hd => ex_move rfl (hI.fix 1 (Reg.notD rfl) (by decide)))
    | 4, _ => injection ho with ho; subst ho; exact RG.Does.call rfl (fun L a w' hI hd => call4 rfl (hI.pure 2 _ _ rfl (hd ⟨2, .data⟩ (by simp) rfl)) (hI.pure 3 _ _ rfl (hd ⟨3, .data⟩ (by simp) rfl)) rfl rfl rfl (by simp [go_sem])) (fun L v_ w2 hI hL => by have h3 := hI; rw [hL] at h3; refine (row_act h3.row h2 (add_any (show World.cell? w2 ⟨b, 0, none⟩ = some (.int .i64 hand) from h3.row.cell (i := 0) (by omega)) h3.row.lt (by simpa using h3.mem) HW.out HX.out HF.out)).mono ?_; rintro e w3 ⟨rfl, r3, m3, t3⟩; refine ⟨rfl, ?_⟩; rw [upd_same, upd_other _ _ (show 14 ≠ 4 by decide), upd_other _ _ (show 15 ≠ 4 by decide)]; exact h3.turn (c' := true) (r3.congr (fun i hi => (fun _ _ => rfl) i hi)) (by simpa using m3) t3 (fun k e => e))
    | 5, _ => injection ho with ho; subst ho; exact RG.Does.read rfl (fun L v_ w' h => RG.SX.skip (by decide) (by decide) (by decide) h) (fun L a w' hI hd => ex_move rfl (hI.fix 0 (Reg.notD rfl) (by decide)))
    | 6, _ => injection ho with ho; subst ho; exact RG.Does.read rfl (fun L v_ w' h => RG.SX.skip (by decide) (by decide) (by decide) h) (fun L a w' hI hd => ex_nil rfl (hI.pure 5 _ _ rfl (hd ⟨5, .data⟩ (by simp) rfl)))
    | 7, _ => injection ho with ho; subst ho; exact RG.Does.read rfl (fun L v_ w' h => RG.SX.skip (by decide) (by decide) (by decide) h) (fun L a w' hI hd => ex_field rfl (hI.pure 6 _ _ rfl (hd ⟨6, .data⟩ (by simp) rfl)) (fieldG0 w' _))
    | 8, _ => injection ho with ho; subst ho; exact RG.Does.read rfl (fun L v_ w' h => RG.SX.skip (by decide) (by decide) (by decide) h) (fun L a w' hI hd => ex_move rfl (hI.fix 0 (Reg.notD rfl) (by decide)))
    | 9, _ => injection ho with ho; subst ho; exact RG.Does.read rfl (fun L v_ w' h => RG.SX.skip (by decide) (by decide) (by decide) h) (fun L a w' hI hd => ex_nil rfl (hI.pure 8 _ _ rfl (hd ⟨8, .data⟩ (by simp) rfl)))
    | 10, _ => injection ho with ho; subst ho; exact RG.Does.read rfl (fun L v_ w' h => RG.SX.skip (by decide) (by decide) (by decide) h) (fun L a w' hI hd => ex_field rfl (hI.pure 9 _ _ rfl (hd ⟨9, .data⟩ (by simp) rfl)) (fieldG2 w' _))
    | 11, _ => injection ho with ho; subst ho; exact RG.Does.read rfl (fun L v_ w' h => RG.SX.skip (by decide) (by decide) (by decide) h) (fun L a w' hI hd => ex_load rfl (hI.pure 10 _ _ rfl (hd ⟨10, .data⟩ (by simp) rfl)) (aggI w') (hI.world.row.cell (i := 12) (by omega)))
    | 12, _ => injection ho with ho; subst ho; exact RG.Does.read rfl (fun L v_ w' h => RG.SX.skip (by decide) (by decide) (by decide) h) (fun L a w' hI hd => ex_max0 rfl (hI.pure 11 _ _ rfl (hd ⟨11, .data⟩ (by simp) rfl)) rfl)
    | 13, _ => injection ho with ho; subst ho; exact RG.Does.read rfl (fun L v_ w' h => RG.SX.skip (by decide) (by decide) (by decide) h) (fun L a w' hI hd => ex_convu rfl (hI.pure 12 _ _ rfl (hd ⟨12, .data⟩ (by simp) rfl)) (by have := HI.out; omega) (by have := HI.out; omega))
    | 14, _ => injection ho with ho; subst ho; exact RG.Does.call rfl (fun L a w' hI hd => call2 rfl (hI.pure 7 _ _ rfl (hd ⟨7, .data⟩ (by simp) rfl)) (hI.pure 13 _ _ rfl (hd ⟨13, .data⟩ (by simp) rfl)) rfl (by simp [go_sem])) (fun L v_ w2 hI hL => by have h3 := hI; rw [hL] at h3; refine (end_any (by have := HI.out; omega) h3.row (by omega)).mono ?_; rintro e w3 ⟨rfl, r3, t3⟩; refine ⟨rfl, ?_⟩; rw [upd_same, upd_other _ _ (show 4 ≠ 14 by decide), upd_other _ _ (show 15 ≠ 14 by decide)]; exact h3.turn (g' := true) (r3.congr (fun i hi => g_told _ _ _ _ _ _ _ _ _ _ i hi)) ⟨h3.mem.head.of_block (t3.block _ h3.mem.head.lt (fun e => h1 e.symm)), h3.mem.row.of_block (t3.block _ h3.mem.row.lt (fun e => h2 e.symm)), h3.mem.most, h3.mem.word⟩ t3 (fun k e => .inl e))
    | 15, _ => injection ho with ho; subst ho; exact RG.Does.put (ls := x.cells) rfl rfl rfl size46 (by simp [Stp.cells, Value.oneCell']) (fun L a w' hI hL hdd => ⟨(hI.pure 4 _ _ rfl (hdd ⟨4, .data⟩ (by simp) rfl)), by obtain ⟨e2, e3⟩ := RG.SX.put hI.world; exact ⟨w.heap.size, 0, hI.fix 4 (Reg.notD rfl) (by decide), e2, by show RG.SX b 105 15 (fun c_ g_ => gC sh hand fn v2 v3 (if g_ = true then ⟨true, mx0 ix⟩ else t) ix sl gn) bm bw n f f' x w.heap.size none W1 (upd L 15 true 4) (upd L 15 true 14) (upd L 15 true 15) _; rw [upd_same, upd_other _ _ (show 4 ≠ 15 by decide), upd_other _ _ (show 14 ≠ 15 by decide)]; exact e3⟩⟩)
    | 16, _ => injection ho with ho; subst ho; exact RG.Does.read rfl (fun L v_ w' h => RG.SX.skip (by decide) (by decide) (by decide) h) (fun L a w' hI hd => ex_assign rfl (hI.pure 14 _ _ rfl (hd ⟨14, .data⟩ (by simp) rfl)))
  case fin =>
    intro L a' w' hI hall
    rename_i K2 hK2
    refine hK2 _ _ ?_
    have hw := hI.world
    simp only [hall 4 (by decide), hall 14 (by decide), hall 15 (by decide)] at hw
    have rE := hw.sto rfl
    have pE : a'.eval (.tmp 4) = .pointer (some ⟨w.heap.size, 0, none⟩) := hI.fix 4 (Reg.notD rfl) (by decide)
    have pe : a'.eval (.tmp 5) = .int .i64 1 := hI.pure 16 5 _ rfl (hall 16 (by decide))
    have hdf : a'.defers = [] := hI.df
    have hS := run_loadVar_mid (P := Tryz.prog) w' w.heap.size 0 _ _ dS rE HD.out.1 HD.out.2 size46
    have hres := results_ct (Q := Tryz.prog) (fn := Tryz.f83) (tmps := a'.tmps) (t := 4) (t' := 5) (W := w') (by rfl) pE hS
    rw [show a'.tmps.getD 5 undef = .int .i64 1 from pe] at hres
    go_wp2
    exact bodyPost_ret (v := .tuple #[x.val, .int .i64 1]) hres hdf ⟨rfl, hw.row, by simpa using hw.mem, TW1.out.trans' hw.tch (fun k hk h => by rcases h with h | h | h; exact .inl h; exact .inr h; omega)⟩
theorem put_any {w : World} {b bm bw n : Nat} {f f' : Nat → Int} {x : Stp} {sh : Shp} {hand : Int} {fn v2 v3 : Value} {t : Ans} {ix sl gn y : Int} (h5 : Shape.R5 sh.a sh.b sh.c sh.d sh.e) (h_ : w.rowIs b 105 15 (gC sh hand fn v2 v3 t ix sl gn)) (hm : IsMem w bm bw n f) (h1 : b ≠ bm) (h2 : b ≠ bw)
    (hx : stepOf n f ⟨hand, 2, headAt sh ix, 0, hd 0 y, true⟩ = x) (hf' : wordsOf n f ⟨hand, 2, headAt sh ix, 0, hd 0 y, true⟩ = f') :
    Calls Tryz.prog 82 #[.pointer (some ⟨b, 0, none⟩), .pointer (some ⟨bm, 0, none⟩), .int .u64 y] w fun e w' => e = .returned x.val ∧
      w'.rowIs b 105 15 (gC sh hand fn v2 v3 t ix sl gn) ∧ IsMem w' bm bw n f' ∧ Touch w w' (fun k => k = b ∨ k = bw) := by
  have lw := hm.row.lt
  have lm := hm.head.lt
  have hl := h_.lt
  have H5 := hide h5
  have HX := hide hx
  have HF := hide hf'
  have HW : Hid (0 ≤ (⟨hand, 2, headAt sh ix, 0, hd 0 y, true⟩ : Stp).put ∧ (⟨hand, 2, headAt sh ix, 0, hd 0 y, true⟩ : Stp).put ≤ 18446744073709551615) := ⟨hd_lo _ _, by have := hd_hi 0 y; show hd 0 y ≤ _; omega⟩
  have hn4 : w.heap.size ≠ bw := by omega
  have hn3 : w.heap.size ≠ b := by omega
  have hn5 : w.heap.size ≠ bm := by omega
  obtain ⟨W1, hW1⟩ : ∃ W1, w.alloc (.cells #[.int .i64 0, .int .i64 0, .int .i64 0, .int .u64 0, .int .u64 0, .bool false] 122) = W1 := ⟨_, rfl⟩
  have R := hide (show W1.rowIs b 105 15 (gC sh hand fn v2 v3 t ix sl gn) from by rw [← hW1]; exact h_.alloc _)
  have M := hide (show IsMem W1 bm bw n f from by rw [← hW1]; exact hm.alloc _)
  have RZ := hide (show W1.rowIs w.heap.size 122 6 zcell from by rw [← hW1]; exact row0 w)
  have TT := hide (show Touch w W1 (fun k => k = b ∨ k = bw) from by rw [← hW1]; exact (Touch.refl w _).alloc _)
  have sz : W1.heap.size = w.heap.size + 1 := by rw [← hW1]; simp
  obtain ⟨dS, hdS1, hdS2⟩ := row46
  have HD := hide (And.intro hdS1 hdS2)
  obtain ⟨dG, hdG1, hdG2⟩ := rowSh
  have HDS := hide (And.intro hdG1 hdG2)
  clear h5 hx hf' h_ hm hdS1 hdS2 hdG1 hdG2
  go_enter Tryz.func82, Tryz.ntmps82
  go_wp2_with fail
  clear hW1
  refine RG.region (ks := [(0, 7), (1, 8), (2, 9), (3, 10), (4, 11), (5, 12), (6, 13), (7, 14), (8, 15), (9, 16), (10, 17), (11, 18), (12, 19), (13, 20), (14, 21), (15, 22)]) (vals := fun i => match i with
      | 0 => .pointer (some ⟨b, 0, none⟩)
      | 1 => .pointer (some ⟨b, 0, none⟩)
      | 2 => .pointer (some ⟨b, 0, none⟩)
      | 3 => .pointer (some ⟨bm, 0, none⟩)
      | 4 => .pointer (some ⟨b, 0, none⟩)
      | 5 => .pointer (some ⟨b, 0, none⟩)
      | 6 => .pointer (some ⟨b, 6, none⟩)
      | 7 => .agg #[.int .i64 sh.a, .int .i64 sh.b, .int .i64 sh.c, .int .i64 sh.d, .int .i64 sh.e, .int .i64 sh.f]
      | 8 => .pointer (some ⟨b, 0, none⟩)
      | 9 => .pointer (some ⟨b, 0, none⟩)
      | 10 => .pointer (some ⟨b, 12, none⟩)
      | 11 => .int .i64 ix
      | 12 => .int .i64 (headAt sh ix)
      | 13 => .int .u64 y
      | 14 => .int .u64 (hd 0 y)
      | 15 => .agg #[.int .i64 x.hand, .int .i64 x.act, .int .i64 x.at_, .int .u64 x.had, .int .u64 x.put, .bool x.ok]
      | _ => undef) (x := 3) (WI := fun L v_ w' => RG.SX b 105 15 (fun c_ g_ => gC sh hand fn v2 v3 t ix sl gn) bm bw n f f' x w.heap.size none W1 (L 15) (L 15) (L 16) w') (by kernel_rfl) ?gg ?bk rfl ?dd ?xx (RG.SX.start (c := false) (g := false) R.out (by simpa using M.out) RZ.out ⟨h1, h2, hn3, hn5, hn4⟩ (fun k e => by cases e)) ?does ?fin
  case gg =>
    intro i o ho
    have hi : i < 17 := by have := (Array.getElem?_eq_some_iff.1 ho).1; simpa using this
    match i, hi with
    | 0, _ | 1, _ | 2, _ | 3, _ | 4, _ | 5, _ | 6, _ | 7, _ | 8, _ | 9, _ | 10, _ | 11, _ | 12, _ | 13, _ | 14, _ | 15, _ | 16, _ => injection ho with ho; subst ho; rfl
  case bk =>
    intro i o ho
    have hi : i < 17 := by have := (Array.getElem?_eq_some_iff.1 ho).1; simpa using this
    match i, hi with
    | 0, _ | 1, _ | 2, _ | 3, _ | 4, _ | 5, _ | 6, _ | 7, _ | 8, _ | 9, _ | 10, _ | 11, _ | 12, _ | 13, _ | 14, _ | 15, _ | 16, _ => injection ho with ho; subst ho; simp [Region.binds]
  case dd =>
    intro k hk
    have hk' : k < 23 := by
      simp [RetN.D] at hk
      omega
    simpa using hk'
  case xx => simp
  case does =>
    intro i o ho
    have hi : i < 17 := by have := (Array.getElem?_eq_some_iff.1 ho).1; simpa using this
    match i, hi with
    | 0, _ => injection ho with ho; subst ho; exact RG.Does.read rfl (fun L v_ w' h => RG.SX.skip (by decide) (by decide) (by decide) h) (fun L a w' hI hd => ex_move rfl (hI.fix 0 (Reg.notD rfl) (by decide)))
    | 1, _ => injection ho with ho; subst ho; exact RG.Does.read rfl (fun L v_ w' h => RG.SX.skip (by decide) (by decide) (by decide) h) (fun L a w' hI hd => ex_nil rfl (hI.pure 0 _ _ rfl (hd ⟨0, .data⟩ (by simp) rfl)))
    | 2, _ => injection ho with ho; subst ho; exact RG.Does.read rfl (fun L v_ w' h => RG.SX.skip (by decide) (by decide) (by decide) h) (fun L a w' hI hd => ex_field rfl (hI.pure 1 _ _ rfl (hd ⟨1, .data⟩ (by simp) rfl)) (fieldG0 w' _))
    | 3, _ => injection ho with ho; subst ho; exact RG.Does.read rfl (fun L v_ w' h => RG.SX.skip (by decide) (by decide) (by decide) h) (fun L a w' hI hd => ex_move rfl (hI.fix 1 (Reg.notD rfl) (by decide)))
    | 4, _ => injection ho with ho; subst ho; exact RG.Does.read rfl (fun L v_ w' h => RG.SX.skip (by decide) (by decide) (by decide) h) (fun L a w' hI hd => ex_move rfl (hI.fix 0 (Reg.notD rfl) (by decide)))
    | 5, _ => injection ho with ho; subst ho; exact RG.Does.read rfl (fun L v_ w' h => RG.SX.skip (by decide) (by decide) (by decide) h) (fun L a w' hI hd => ex_nil rfl (hI.pure 4 _ _ rfl (hd ⟨4, .data⟩ (by simp) rfl)))
    | 6, _ => injection ho with ho; subst ho; exact RG.Does.read rfl (fun L v_ w' h => RG.SX.skip (by decide) (by decide) (by decide) h) (fun L a w' hI hd => ex_field rfl (hI.pure 5 _ _ rfl (hd ⟨5, .data⟩ (by simp) rfl)) (fieldG1 w' _))
    | 7, _ => injection ho with ho; subst ho; exact RG.Does.read rfl (fun L v_ w' h => RG.SX.skip (by decide) (by decide) (by decide) h) (fun L a w' hI hd => ex_load_row rfl (hI.pure 6 _ _ rfl (hd ⟨6, .data⟩ (by simp) rfl)) (shrowAt (o := 6) (sh := sh) (by omega) rfl rfl rfl rfl rfl rfl hI.world.row) HDS.out.1 HDS.out.2 sizeSh)
    | 8, _ => injection ho with ho; subst ho; exact RG.Does.read rfl (fun L v_ w' h => RG.SX.skip (by decide) (by decide) (by decide) h) (fun L a w' hI hd => ex_move rfl (hI.fix 0 (Reg.notD rfl) (by decide)))
    | 9, _ => injection ho with ho; subst ho; exact RG.Does.read rfl (fun L v_ w' h => RG.SX.skip (by decide) (by decide) (by decide) h) (fun L a w' hI hd => ex_nil rfl (hI.pure 8 _ _ rfl (hd ⟨8, .data⟩ (by simp) rfl)))
    | 10, _ => injection ho with ho; subst ho; exact RG.Does.read rfl (fun L v_ w' h => RG.SX.skip (by decide) (by decide) (by decide) h) (fun L a w' hI hd => ex_field rfl (hI.pure 9 _ _ rfl (hd ⟨9, .data⟩ (by simp) rfl)) (fieldG2 w' _))
    | 11, _ => injection ho with ho; subst ho; exact RG.Does.read rfl (fun L v_ w' h => RG.SX.skip (by decide) (by decide) (by decide) h) (fun L a w' hI hd => ex_load rfl (hI.pure 10 _ _ rfl (hd ⟨10, .data⟩ (by simp) rfl)) (aggI w') (hI.world.row.cell (i := 12) (by omega)))
    | 12, _ => injection ho with ho; subst ho; exact RG.Does.call rfl (fun L a w' hI hd => call2 rfl (hI.pure 7 _ _ rfl (hd ⟨7, .data⟩ (by simp) rfl)) (hI.pure 11 _ _ rfl (hd ⟨11, .data⟩ (by simp) rfl)) rfl (by simp [go_sem])) (fun L v_ w2 hI hL => ((fun w9 : World => headAt_any H5.out ix w9) w2).mono (by rintro e w3 ⟨rfl, hb⟩; exact ⟨rfl, RG.SX.skip (by decide) (by decide) (by decide)  (SXq hI hb)⟩))
    | 13, _ => injection ho with ho; subst ho; exact RG.Does.read rfl (fun L v_ w' h => RG.SX.skip (by decide) (by decide) (by decide) h) (fun L a w' hI hd => ex_move rfl (hI.fix 2 (Reg.notD rfl) (by decide)))
    | 14, _ => injection ho with ho; subst ho; exact RG.Does.ask rfl (fun L v_ w' h => RG.SX.skip (by decide) (by decide) (by decide) h) (fun L a w' hI hd => call2 rfl rfl (hI.pure 13 _ _ rfl (hd ⟨13, .data⟩ (by simp) rfl)) rfl (by simp [go_sem])) (fun w9 : World => handle_any 0 y w9)
    | 15, _ => injection ho with ho; subst ho; exact RG.Does.call rfl (fun L a w' hI hd => call4 rfl (hI.pure 2 _ _ rfl (hd ⟨2, .data⟩ (by simp) rfl)) (hI.pure 3 _ _ rfl (hd ⟨3, .data⟩ (by simp) rfl)) (hI.pure 12 _ _ rfl (hd ⟨12, .data⟩ (by simp) rfl)) (hI.pure 14 _ _ rfl (hd ⟨14, .data⟩ (by simp) rfl)) rfl (by simp [go_sem])) (fun L v_ w2 hI hL => by have h3 := hI; rw [hL] at h3; refine (row_act h3.row h2 (store_any (show World.cell? w2 ⟨b, 0, none⟩ = some (.int .i64 hand) from h3.row.cell (i := 0) (by omega)) h3.row.lt (by simpa using h3.mem) HW.out HX.out HF.out)).mono ?_; rintro e w3 ⟨rfl, r3, m3, t3⟩; refine ⟨rfl, ?_⟩; rw [upd_same, upd_other _ _ (show 16 ≠ 15 by decide)]; exact h3.turn (c' := true) (g' := true) r3 (by simpa using m3) t3 (fun k e => e))
    | 16, _ => injection ho with ho; subst ho; exact RG.Does.put (ls := x.cells) rfl rfl rfl size46 (by simp [Stp.cells, Value.oneCell']) (fun L a w' hI hL hdd => ⟨(hI.pure 15 _ _ rfl (hdd ⟨15, .data⟩ (by simp) rfl)), by obtain ⟨e2, e3⟩ := RG.SX.put hI.world; exact ⟨w.heap.size, 0, hI.fix 6 (Reg.notD rfl) (by decide), e2, by show RG.SX b 105 15 (fun c_ g_ => gC sh hand fn v2 v3 t ix sl gn) bm bw n f f' x w.heap.size none W1 (upd L 16 true 15) (upd L 16 true 15) (upd L 16 true 16) _; rw [upd_same, upd_other _ _ (show 15 ≠ 16 by decide)]; exact e3⟩⟩)
  case fin =>
    intro L a' w' hI hall
    have hw := hI.world
    simp only [hall 15 (by decide), hall 16 (by decide)] at hw
    have rE := hw.sto rfl
    have hrow := hide hw.row
    have hmem := hide hw.mem
    have htch := hide hw.tch
    have RQ := hide rE
    have l9 : w.heap.size < w'.heap.size := by have := hw.tch.size; omega
    clear hw
    have ea := act_all a' 23 (by rw [hI.sz]; rfl) hI.df
    simp only [List.range, List.range.loop, List.map] at ea
    rw [hI.fix 0 (Reg.notD rfl) (by decide), hI.fix 1 (Reg.notD rfl) (by decide), hI.fix 2 (Reg.notD rfl) (by decide), hI.fix 4 (Reg.notD rfl) (by decide), hI.fix 5 (Reg.notD rfl) (by decide), hI.fix 6 (Reg.notD rfl) (by decide)] at ea
    clear hI hall
    generalize a'.eval (.tmp 3) = u3 at ea
    generalize a'.eval (.tmp 7) = u7 at ea
    generalize a'.eval (.tmp 8) = u8 at ea
    generalize a'.eval (.tmp 9) = u9 at ea
    generalize a'.eval (.tmp 10) = u10 at ea
    generalize a'.eval (.tmp 11) = u11 at ea
    generalize a'.eval (.tmp 12) = u12 at ea
    generalize a'.eval (.tmp 13) = u13 at ea
    generalize a'.eval (.tmp 14) = u14 at ea
    generalize a'.eval (.tmp 15) = u15 at ea
    generalize a'.eval (.tmp 16) = u16 at ea
    generalize a'.eval (.tmp 17) = u17 at ea
    generalize a'.eval (.tmp 18) = u18 at ea
    generalize a'.eval (.tmp 19) = u19 at ea
    generalize a'.eval (.tmp 20) = u20 at ea
    generalize a'.eval (.tmp 21) = u21 at ea
    generalize a'.eval (.tmp 22) = u22 at ea
    simp only [show ∀ (ts : Array Value) (ds) (i : Nat), (Act.mk ts ds).eval (.tmp i) = ts.getD i undef from fun _ _ _ => rfl] at ea
    simp at ea
    subst ea
    obtain ⟨s0, s1, s2, s3, s4, s5⟩ := stp6 RQ.out
    go_wp2_with fail
    refine bodyPost_ret (v := x.val) ?res rfl ⟨rfl, hrow.out, by simpa using hmem.out, TT.out.trans' htch.out (fun k hk h => by rcases h with h | h | h; exact .inl h; exact .inr h; omega)⟩
    case res => simp [results, Tryz.results82, go_sem, Stp.val, *]
theorem leave_last {w : World} {b bm bw n : Nat} {f f' : Nat → Int} {x : Stp} {sh : Shp} {hand : Int} {fn v2 v3 : Value} {t : Ans} {ix sl gn : Int} (h_ : w.rowIs b 105 15 (gC sh hand fn v2 v3 t ix sl gn)) (hm : IsMem w bm bw n f) (h1 : b ≠ bm) (h2 : b ≠ bw) (h5 : Shape.R5 sh.a sh.b sh.c sh.d sh.e) (hq : gn = 4294967295)
    (hx : stepOf n f ⟨hand, 2, headAt sh ix, 0, hd 0 4294967295, true⟩ = x) (hf' : wordsOf n f ⟨hand, 2, headAt sh ix, 0, hd 0 4294967295, true⟩ = f') :
    Calls Tryz.prog 73 #[.pointer (some ⟨b, 0, none⟩), .pointer (some ⟨bm, 0, none⟩)] w fun e w' => e = .returned (.tuple #[x.val, .int .i64 0]) ∧
      w'.rowIs b 105 15 (gC sh hand (.func (.func 83) #[.pointer (some ⟨b, 0, none⟩)] #[]) v2 v3 t ix sl gn) ∧ IsMem w' bm bw n f' ∧ Touch w w' (fun k => k = b ∨ k = bw) := by
  have hl := h_.lt
  have lw := hm.row.lt
  have lm := hm.head.lt
  have hn3 : w.heap.size ≠ b := by omega
  have hn4 : w.heap.size ≠ bw := by omega
  have hn5 : w.heap.size ≠ bm := by omega
  obtain ⟨W1, hW1⟩ : ∃ W1, w.alloc (.cells #[.int .i64 0, .int .i64 0, .int .i64 0, .int .u64 0, .int .u64 0, .bool false] 122) = W1 := ⟨_, rfl⟩
  have R := hide (show W1.rowIs b 105 15 (gC sh hand fn v2 v3 t ix sl gn) from by rw [← hW1]; exact h_.alloc _)
  have M := hide (show IsMem W1 bm bw n f from by rw [← hW1]; exact hm.alloc _)
  have RZ := hide (show W1.rowIs w.heap.size 122 6 zcell from by rw [← hW1]; exact row0 w)
  have T0 := hide (show Touch w W1 (fun k => k = b ∨ k = bw) from by rw [← hW1]; exact (Touch.refl w _).alloc _)
  have sz : W1.heap.size = w.heap.size + 1 := by rw [← hW1]; simp
  have lW1 : b < W1.heap.size := by omega
  obtain ⟨⟨e0, ef0⟩, ⟨e1, ef1⟩, ⟨e2, ef2⟩, ⟨e3, ef3⟩, ⟨e4, ef4⟩, ⟨e5, ef5⟩, ⟨e6, ef6⟩, ⟨e7, ef7⟩, ⟨e8, ef8⟩, ⟨e9, ef9⟩, ⟨e10, ef10⟩, ⟨e11, ef11⟩, ⟨e12, ef12⟩, ⟨e13, ef13⟩, e14, ef14⟩ := g_facts R.out
  obtain ⟨dS, hdS1, hdS2⟩ := row46
  have HD := hide (And.intro hdS1 hdS2)
  obtain ⟨dG, hdG1, hdG2⟩ := rowSh
  have HDS := hide (And.intro hdG1 hdG2)
  have HX := hide hx
  have HF := hide hf'
  have HW : Hid (0 ≤ (⟨hand, 2, headAt sh ix, 0, hd 0 4294967295, true⟩ : Stp).put ∧ (⟨hand, 2, headAt sh ix, 0, hd 0 4294967295, true⟩ : Stp).put ≤ 18446744073709551615) := ⟨hd_lo _ _, by have := hd_hi 0 4294967295; show hd 0 4294967295 ≤ _; omega⟩
  have H5 := hide h5
  have hq2 : (gn == 4294967295) = true := by simpa using hq
  clear hm h_ hx hf' hdS1 hdS2 hdG1 hdG2 h5
  go_enter Tryz.func73, Tryz.ntmps73
  go_wp2_with fail
  clear hW1 e0 ef0 e1 ef1 e2 ef2 e3 ef3 e4 ef4 e5 ef5 e6 ef6 e7 ef7 e8 ef8 e9 ef9 e10 ef10 e11 ef11 e12 ef12 e13 ef13 e14 ef14
  clear hq hq2
  have RW1 := R
  have MW1 := M
  have QW1 := RZ
  have TW1 := T0
  refine RG.region (ks := [(0, 11), (1, 12), (2, 13), (3, 14), (4, 15), (5, 16), (6, 17), (7, 18), (8, 19), (10, 5)]) (vals := fun i => match i with
        | 0 => .pointer (some ⟨b, 0, none⟩)
        | 1 => .pointer (some ⟨bm, 0, none⟩)
        | 2 => .agg #[.int .i64 x.hand, .int .i64 x.act, .int .i64 x.at_, .int .u64 x.had, .int .u64 x.put, .bool x.ok]
        | 3 => .pointer (some ⟨b, 0, none⟩)
        | 4 => .pointer (some ⟨b, 0, none⟩)
        | 5 => .pointer (some ⟨b, 0, none⟩)
        | 6 => .pointer (some ⟨b, 0, none⟩)
        | 7 => .func (.func 83) #[.pointer (some ⟨b, 0, none⟩)] #[]
        | 8 => .int .i64 0
        | 10 => .int .i64 0
        | _ => undef) (x := 2) (WI := fun L v_ w' => RG.SX b 105 15 (fun c_ g_ => gC sh hand (if g_ = true then (.func (.func 83) #[.pointer (some ⟨b, 0, none⟩)] #[]) else fn) v2 v3 t ix sl gn) bm bw n f f' x w.heap.size none W1 (L 2) (L 8) (L 9) w') (by kernel_rfl) ?gg ?bk rfl ?dd ?xx (RG.SX.start (c := false) (g := false) RW1.out (by simpa using MW1.out) QW1.out ⟨h1, h2, hn3, hn5, hn4⟩ (fun k e => by cases e)) ?does ?fin
  case gg =>
    intro i o ho
    have hi : i < 11 := by have := (Array.getElem?_eq_some_iff.1 ho).1; simpa using this
    match i, hi with
    | 0, _ | 1, _ | 2, _ | 3, _ | 4, _ | 5, _ | 6, _ | 7, _ | 8, _ | 9, _ | 10, _ => injection ho with ho; subst ho; rfl
  case bk =>
    intro i o ho
    have hi : i < 11 := by have := (Array.getElem?_eq_some_iff.1 ho).1; simpa using this
    match i, hi with
    | 0, _ | 1, _ | 2, _ | 3, _ | 4, _ | 5, _ | 6, _ | 7, _ | 8, _ | 9, _ | 10, _ => injection ho with ho; subst ho; simp [Region.binds]
  case dd =>
    intro k hk
    have hk' : k < 47 := by
      simp [RetN.D] at hk
      omega
    simpa using hk'
  case xx => simp
  case does =>
    intro i o ho
    have hi : i < 11 := by have := (Array.getElem?_eq_some_iff.1 ho).1; simpa using this
    match i, hi with
    | 0, _ => injection ho with ho; subst ho; exact RG.Does.read rfl (fun L v_ w' h => RG.SX.skip (by decide) (by decide) (by decide) h) (fun L a w' hI hd => ex_move rfl (hI.fix 0 (Reg.notD rfl) (by decide)))
    | 1, _ => injection ho with ho; subst ho; exact RG.Does.read rfl (fun L v_ w' h => RG.SX.skip (by decide) (by decide) (by decide) h) (fun L a w' hI hd => ex_move rfl (hI.fix 1 (Reg.notD rfl) (by decide)))
    | 2, _ => injection ho with ho; subst ho; exact RG.Does.call rfl (fun L a w' hI hd => call3 rfl (hI.pure 0 _ _ rfl (hd ⟨0, .data⟩ (by simp) rfl)) (hI.pure 1 _ _ rfl (hd ⟨1, .data⟩ (by simp) rfl)) rfl rfl (by simp [go_sem])) (fun L v_ w2 hI hL => by have h3 := hI; rw [hL] at h3; refine (put_any (y := 4294967295) H5.out h3.row (by simpa using h3.mem) h1 h2 HX.out HF.out).mono ?_; rintro e w3 ⟨rfl, r3, m3, t3⟩; refine ⟨rfl, ?_⟩; rw [upd_same, upd_other _ _ (show 8 ≠ 2 by decide), upd_other _ _ (show 9 ≠ 2 by decide)]; exact h3.turn (c' := true) (r3.congr (fun i hi => (fun _ _ => rfl) i hi)) (by simpa using m3) t3 (fun k e => e))
    | 3, _ => injection ho with ho; subst ho; exact RG.Does.read rfl (fun L v_ w' h => RG.SX.skip (by decide) (by decide) (by decide) h) (fun L a w' hI hd => ex_move rfl (hI.fix 0 (Reg.notD rfl) (by decide)))
    | 4, _ => injection ho with ho; subst ho; exact RG.Does.read rfl (fun L v_ w' h => RG.SX.skip (by decide) (by decide) (by decide) h) (fun L a w' hI hd => ex_nil rfl (hI.pure 3 _ _ rfl (hd ⟨3, .data⟩ (by simp) rfl)))
    | 5, _ => injection ho with ho; subst ho; exact RG.Does.read rfl (fun L v_ w' h => RG.SX.skip (by decide) (by decide) (by decide) h) (fun L a w' hI hd => ex_field rfl (hI.pure 4 _ _ rfl (hd ⟨4, .data⟩ (by simp) rfl)) (fieldG0 w' _))
    | 6, _ => injection ho with ho; subst ho; exact RG.Does.read rfl (fun L v_ w' h => RG.SX.skip (by decide) (by decide) (by decide) h) (fun L a w' hI hd => ex_move rfl (hI.fix 0 (Reg.notD rfl) (by decide)))
    | 7, _ => injection ho with ho; subst ho; exact RG.Does.read rfl (fun L v_ w' h => RG.SX.skip (by decide) (by decide) (by decide) h) (fun L a w' hI hd => ex_func rfl (hI.pure 6 _ _ rfl (hd ⟨6, .data⟩ (by simp) rfl)))
    | 8, _ => injection ho with ho; subst ho; exact RG.Does.call rfl (fun L a w' hI hd => call2 rfl (hI.pure 5 _ _ rfl (hd ⟨5, .data⟩ (by simp) rfl)) (hI.pure 7 _ _ rfl (hd ⟨7, .data⟩ (by simp) rfl)) rfl (by simp [go_sem])) (fun L v_ w2 hI hL => by have h3 := hI; rw [hL] at h3; refine (goOn_any 83 h3.row (by omega)).mono ?_; rintro e w3 ⟨rfl, r3, t3⟩; refine ⟨rfl, ?_⟩; rw [upd_same, upd_other _ _ (show 2 ≠ 8 by decide), upd_other _ _ (show 9 ≠ 8 by decide)]; exact h3.turn (g' := true) (r3.congr (fun i hi => g_fn _ _ _ _ _ _ _ _ _ _ i hi)) ⟨h3.mem.head.of_block (t3.block _ h3.mem.head.lt (fun e => h1 e.symm)), h3.mem.row.of_block (t3.block _ h3.mem.row.lt (fun e => h2 e.symm)), h3.mem.most, h3.mem.word⟩ t3 (fun k e => .inl e))
    | 9, _ => injection ho with ho; subst ho; exact RG.Does.put (ls := x.cells) rfl rfl rfl size46 (by simp [Stp.cells, Value.oneCell']) (fun L a w' hI hL hdd => ⟨(hI.pure 2 _ _ rfl (hdd ⟨2, .data⟩ (by simp) rfl)), by obtain ⟨e2, e3⟩ := RG.SX.put hI.world; exact ⟨w.heap.size, 0, hI.fix 4 (Reg.notD rfl) (by decide), e2, by show RG.SX b 105 15 (fun c_ g_ => gC sh hand (if g_ = true then (.func (.func 83) #[.pointer (some ⟨b, 0, none⟩)] #[]) else fn) v2 v3 t ix sl gn) bm bw n f f' x w.heap.size none W1 (upd L 9 true 2) (upd L 9 true 8) (upd L 9 true 9) _; rw [upd_same, upd_other _ _ (show 2 ≠ 9 by decide), upd_other _ _ (show 8 ≠ 9 by decide)]; exact e3⟩⟩)
    | 10, _ => injection ho with ho; subst ho; exact RG.Does.read rfl (fun L v_ w' h => RG.SX.skip (by decide) (by decide) (by decide) h) (fun L a w' hI hd => ex_assign rfl (hI.pure 8 _ _ rfl (hd ⟨8, .data⟩ (by simp) rfl)))
  case fin =>
    intro L a' w' hI hall
    rename_i K2 hK2
    refine hK2 _ _ ?_
    have hw := hI.world
    simp only [hall 2 (by decide), hall 8 (by decide), hall 9 (by decide)] at hw
    have rE := hw.sto rfl
    have pE : a'.eval (.tmp 4) = .pointer (some ⟨w.heap.size, 0, none⟩) := hI.fix 4 (Reg.notD rfl) (by decide)
    have pe : a'.eval (.tmp 5) = .int .i64 0 := hI.pure 10 5 _ rfl (hall 10 (by decide))
    have hdf : a'.defers = [] := hI.df
    have hS := run_loadVar_mid (P := Tryz.prog) w' w.heap.size 0 _ _ dS rE HD.out.1 HD.out.2 size46
    have hres := results_ct (Q := Tryz.prog) (fn := Tryz.f73) (tmps := a'.tmps) (t := 4) (t' := 5) (W := w') (by rfl) pE hS
    rw [show a'.tmps.getD 5 undef = .int .i64 0 from pe] at hres
    go_wp2
    exact bodyPost_ret (v := .tuple #[x.val, .int .i64 0]) hres hdf ⟨rfl, hw.row, by simpa using hw.mem, TW1.out.trans' hw.tch (fun k hk h => by rcases h with h | h | h; exact .inl h; exact .inr h; omega)⟩
end Rom
end
end Go.Proofs.YtidihnnmdmlgfaaGreat
