/-
  Lemmas: ShadeF.
-/
import Derived.Test.YtnodkeoikamonaaTw26
import Derived.Test.YtnodkeoikamonaaTw29
/-
  Shading and pulling: find.
-/
namespace Go.Proofs.Ytnodkeoikamonaa
open Go.RowKit
set_option linter.unusedVariables false
set_option linter.unusedSimpArgs false
set_option maxRecDepth 20000
namespace Shd
set_option maxHeartbeats 8000000 in
theorem find_no {w : World} {b bm bw n : Nat} {f f' : Nat → Int} {x : Stp} {hand g ix l xb : Int} {fn : Value} {t : Ans} {sh : Shp} (h_ : w.rowIs b 145 14 (pC sh hand fn g t ix l xb)) (hm : IsMem w bm bw n f) (h1 : b ≠ bm) (h2 : b ≠ bw) (h5 : Shape.R5 sh.a sh.b sh.c sh.d sh.e) (hxh : 0 ≤ x.had ∧ x.had ≤ 18446744073709551615) (ht : ¬ there sh (idx x.had))
    (hx : stepOf n f ⟨hand, 1, 2, 0, 0, true⟩ = x) (hf' : wordsOf n f ⟨hand, 1, 2, 0, 0, true⟩ = f') :
    Calls Try.prog 75 #[.pointer (some ⟨b, 0, none⟩), .pointer (some ⟨bm, 0, none⟩)] w fun e w' => e = .returned (.tuple #[x.val, .int .i64 1]) ∧
      w'.rowIs b 145 14 (pC sh hand fn x.had t (idx x.had) l xb) ∧ IsMem w' bm bw n f' ∧ Touch w w' (fun k => k = b ∨ k = bw) := by
  have hl := h_.lt
  have lw := hm.row.lt
  have lm := hm.head.lt
  have hn3 : w.heap.size ≠ b := by omega
  have hn4 : w.heap.size ≠ bw := by omega
  have hn5 : w.heap.size ≠ bm := by omega
  obtain ⟨W1, hW1⟩ : ∃ W1, w.alloc (.cells #[.int .i64 0, .int .i64 0, .int .i64 0, .int .u64 0, .int .u64 0, .bool false] 63) = W1 := ⟨_, rfl⟩
  have R := hide (show W1.rowIs b 145 14 (pC sh hand fn g t ix l xb) from by rw [← hW1]; exact h_.alloc _)
  have M := hide (show IsMem W1 bm bw n f from by rw [← hW1]; exact hm.alloc _)
  have RZ := hide (show W1.rowIs w.heap.size 63 6 zcell from by rw [← hW1]; exact row0 w)
  have T0 := hide (show Touch w W1 (fun k => k = b ∨ k = bw) from by rw [← hW1]; exact (Touch.refl w _).alloc _)
  have sz : W1.heap.size = w.heap.size + 1 := by rw [← hW1]; simp
  have lW1 : b < W1.heap.size := by omega
  obtain ⟨⟨e0, ef0⟩, ⟨e1, ef1⟩, ⟨e2, ef2⟩, ⟨e3, ef3⟩, ⟨e4, ef4⟩, ⟨e5, ef5⟩, ⟨e6, ef6⟩, ⟨e7, ef7⟩, ⟨e8, ef8⟩, ⟨e9, ef9⟩, ⟨e10, ef10⟩, ⟨e11, ef11⟩, ⟨e12, ef12⟩, e13, ef13⟩ := p_facts R.out
  obtain ⟨dS, hdS1, hdS2⟩ := row46
  have HD := hide (And.intro hdS1 hdS2)
  have HX := hide hx
  have HF := hide hf'
  have HW : Hid (0 ≤ (⟨hand, 1, 2, 0, 0, true⟩ : Stp).put ∧ (⟨hand, 1, 2, 0, 0, true⟩ : Stp).put ≤ 18446744073709551615) := ⟨by show (0 : Int) ≤ 0; omega, by show (0 : Int) ≤ 18446744073709551615; omega⟩
  have IX := hide (fun w1 : World => index_any x.had hxh.1 (by omega) w1)
  have PL := hide (fun w1 : World => places_no h5 ht w1)
  have LG := hide (loadGrey_any (hand := hand) R.out (by omega) rfl M.out h1 h2 hx hf')
  clear hm h_ hx hf' hdS1 hdS2 hxh h5 ht
  go_enter Try.func75, Try.ntmps75
  go_wp2_with fail
  clear hW1 e0 ef0 e1 ef1 e2 ef2 e3 ef3 e4 ef4 e5 ef5 e6 ef6 e7 ef7 e8 ef8 e9 ef9 e10 ef10 e11 ef11 e12 ef12 e13 ef13
  refine LG.out.mono ?_
  rintro e w1 ⟨rfl, r1, m1, t1⟩
  simp only [Stp.val]
  have lw1 := t1.size
  have l1 : b < w1.heap.size := by omega
  have l2 : w.heap.size < w1.heap.size := by omega
  have Rw1 := hide (show w1.rowIs b 145 14 (pC sh hand fn x.had t ix l xb) from r1.congr (fun i hi => p_g _ _ _ _ _ _ _ _ _ i hi))
  have Mw1 := hide m1
  have Qw1 := hide (RZ.out.of_block (t1.block w.heap.size (by omega) (by omega)))
  have Tw1 := hide (T0.out.trans' t1 (fun k _ e => e))
  clear r1 m1 t1
  have d11 := Rw1.out.cell (i := 11) (by omega)
  have df11 := Rw1.out.frozen 11
  obtain ⟨q, hq⟩ : ∃ q, w1.heap.size = q := ⟨_, rfl⟩
  obtain ⟨V, hV⟩ : ∃ V, (w1.setCell ⟨b, 11, none⟩ (.int .i64 (x.had % 4294967296))).alloc (.cells #[.int .i64 x.hand, .int .i64 x.act, .int .i64 x.at_, .int .u64 x.had, .int .u64 x.put, .bool x.ok] 63) = V := ⟨_, rfl⟩
  have RV := hide (show V.rowIs b 145 14 (pC sh hand fn x.had t (idx x.had) l xb) from by
    rw [← hV]
    exact ((Rw1.out.set 11 _).congr (fun i hi => p_i _ _ _ _ _ _ _ _ _ i hi)).alloc _)
  have MV := hide (show IsMem V bm bw n f' from by
    rw [← hV]
    exact (Mw1.out.setOther (by simp; omega) (by simp; omega) _).alloc _)
  have QV := hide (show V.rowIs w.heap.size 63 6 zcell from by
    rw [← hV]
    exact (Qw1.out.setOther (by simp; omega) _).alloc _)
  have SV := hide (show V.rangeAt q 0 x.cells from by
    rw [← hV, ← hq]
    have e1 : w1.heap.size = (w1.setCell ⟨b, 11, none⟩ (.int .i64 (x.had % 4294967296))).heap.size := by simp
    have := rowL_alloc (w1.setCell ⟨b, 11, none⟩ (.int .i64 (x.had % 4294967296))) x.cells 63 (n := 6) (by simp [Stp.cells])
    rw [← e1] at this
    exact rowIs.range this (by simp [Stp.cells]))
  have TV := hide (show Touch w V (fun k => k = b ∨ k = bw) from by
    rw [← hV]
    exact (Tw1.out.setCell ⟨b, 11, none⟩ (by simp) _).alloc _)
  have szV : V.heap.size = w1.heap.size + 1 := by rw [← hV]; simp
  have hqb : q ≠ b := by omega
  have hqr : q ≠ w.heap.size := by omega
  have hqm : q ≠ bm ∧ q ≠ bw := by have := Mw1.out.head.lt; have := Mw1.out.row.lt; omega
  have lqV : q < V.heap.size := by omega
  have HQ := hide hq
  clear hq
  go_upto_region 3 with (go_at_call 11; refine (IX.out _).mono ?_; rintro e wq ⟨rfl, hwq⟩; obtain rfl := hwq.symm)
  rw [HQ.out]
  clear hV HQ d11 df11 Rw1 Mw1 Qw1 Tw1
  obtain ⟨dG, hdG1, hdG2⟩ := rowSh
  have HDS := hide (And.intro hdG1 hdG2)
  clear hdG1 hdG2
  refine RG.region (ks := [(0, 22), (1, 23), (2, 24), (3, 25), (4, 26), (5, 27), (6, 28), (7, 29), (8, 30), (9, 21), (10, 31), (11, 32), (12, 33), (13, 7), (14, 8), (15, 9)]) (vals := fun i => match i with
      | 0 => .pointer (some ⟨b, 0, none⟩)
      | 1 => .pointer (some ⟨b, 0, none⟩)
      | 2 => .pointer (some ⟨b, 5, none⟩)
      | 3 => .agg #[.int .i64 sh.a, .int .i64 sh.b, .int .i64 sh.c, .int .i64 sh.d, .int .i64 sh.e, .int .i64 sh.f]
      | 4 => .pointer (some ⟨b, 0, none⟩)
      | 5 => .pointer (some ⟨b, 0, none⟩)
      | 6 => .pointer (some ⟨b, 11, none⟩)
      | 7 => .int .i64 (idx x.had)
      | 8 => .tuple #[.int .i64 (headAt sh (idx x.had)), .int .i64 (linkAt sh (idx x.had)), .bool false]
      | 9 => .tuple #[.int .i64 (headAt sh (idx x.had)), .int .i64 (linkAt sh (idx x.had)), .bool false]
      | 10 => .int .i64 (headAt sh (idx x.had))
      | 11 => .int .i64 (linkAt sh (idx x.had))
      | 12 => .bool false
      | 13 => .int .i64 (headAt sh (idx x.had))
      | 14 => .int .i64 (linkAt sh (idx x.had))
      | 15 => .bool false
      | _ => undef) (x := 2) (WI := fun L v_ w' => RG.SX b 145 14 (fun _ _ => pC sh hand fn x.had t (idx x.had) l xb) bm bw n f' f' x w.heap.size (some q) V true false false w') (by kernel_rfl) ?gg ?bk rfl ?dd ?xx (RG.SX.start (c := true) (g := false) RV.out (by simpa using MV.out) QV.out ⟨h1, h2, hn3, hn5, hn4⟩ (fun k e => by cases e; exact ⟨SV.out, by omega, hqb, hqm.2, hqr⟩)) ?does ?fin
  case gg =>
    intro i o ho
    have hi : i < 16 := by have := (Array.getElem?_eq_some_iff.1 ho).1; simpa using this
    match i, hi with
    | 0, _ | 1, _ | 2, _ | 3, _ | 4, _ | 5, _ | 6, _ | 7, _ | 8, _ | 9, _ | 10, _ | 11, _ | 12, _ | 13, _ | 14, _ | 15, _ => injection ho with ho; subst ho; rfl
  case bk =>
    intro i o ho
    have hi : i < 16 := by have := (Array.getElem?_eq_some_iff.1 ho).1; simpa using this
    match i, hi with
    | 0, _ | 1, _ | 2, _ | 3, _ | 4, _ | 5, _ | 6, _ | 7, _ | 8, _ | 9, _ | 10, _ | 11, _ | 12, _ | 13, _ | 14, _ | 15, _ => injection ho with ho; subst ho; simp [Region.binds]
  case dd =>
    intro k hk
    have hk' : k < 48 := by
      simp [RetN.D] at hk
      omega
    simpa using hk'
  case xx => simp
  case does =>
    intro i o ho
    have hi : i < 16 := by have := (Array.getElem?_eq_some_iff.1 ho).1; simpa using this
    match i, hi with
    | 0, _ => injection ho with ho; subst ho; exact RG.Does.read rfl (fun L v_ w' h => h) (fun L a w' hI hd => ex_move rfl (hI.fix 0 (Reg.notD rfl) (by decide)))
    | 1, _ => injection ho with ho; subst ho; exact RG.Does.read rfl (fun L v_ w' h => h) (fun L a w' hI hd => ex_nil rfl (hI.pure 0 _ _ rfl (hd ⟨0, .data⟩ (by simp) rfl)))
    | 2, _ => injection ho with ho; subst ho; exact RG.Does.read rfl (fun L v_ w' h => h) (fun L a w' hI hd => ex_field rfl (hI.pure 1 _ _ rfl (hd ⟨1, .data⟩ (by simp) rfl)) (fieldP1 w' _))
    | 3, _ => injection ho with ho; subst ho; exact RG.Does.read rfl (fun L v_ w' h => h) (fun L a w' hI hd => ex_load_row rfl (hI.pure 2 _ _ rfl (hd ⟨2, .data⟩ (by simp) rfl)) (shrow hI.world.row) HDS.out.1 HDS.out.2 sizeSh)
    | 4, _ => injection ho with ho; subst ho; exact RG.Does.read rfl (fun L v_ w' h => h) (fun L a w' hI hd => ex_move rfl (hI.fix 0 (Reg.notD rfl) (by decide)))
    | 5, _ => injection ho with ho; subst ho; exact RG.Does.read rfl (fun L v_ w' h => h) (fun L a w' hI hd => ex_nil rfl (hI.pure 4 _ _ rfl (hd ⟨4, .data⟩ (by simp) rfl)))
    | 6, _ => injection ho with ho; subst ho; exact RG.Does.read rfl (fun L v_ w' h => h) (fun L a w' hI hd => ex_field rfl (hI.pure 5 _ _ rfl (hd ⟨5, .data⟩ (by simp) rfl)) (fieldP2 w' _))
    | 7, _ => injection ho with ho; subst ho; exact RG.Does.read rfl (fun L v_ w' h => h) (fun L a w' hI hd => ex_load rfl (hI.pure 6 _ _ rfl (hd ⟨6, .data⟩ (by simp) rfl)) (aggI w') (hI.world.row.cell (i := 11) (by omega)))
    | 8, _ => injection ho with ho; subst ho; exact RG.Does.call rfl (fun L a w' hI hd => call2 rfl (hI.pure 3 _ _ rfl (hd ⟨3, .data⟩ (by simp) rfl)) (hI.pure 7 _ _ rfl (hd ⟨7, .data⟩ (by simp) rfl)) rfl (by simp [go_sem])) (fun L v_ w2 hI hL => (PL.out w2).mono (by rintro e w3 ⟨rfl, hb⟩; exact ⟨rfl, hI.turn (S := fun _ => False) (hI.row.of_block (hb.block _ hI.row.lt)) ⟨hI.mem.head.of_block (hb.block _ hI.mem.head.lt), hI.mem.row.of_block (hb.block _ hI.mem.row.lt), hI.mem.most, hI.mem.word⟩ ⟨hb.os, hb.tape, hb.output, hb.size, fun k hk _ => hb.block k hk⟩ (fun k e => e.elim)⟩))
    | 9, _ => injection ho with ho; subst ho; exact RG.Does.read rfl (fun L v_ w' h => h) (fun L a w' hI hd => ex_move rfl (hI.pure 8 _ _ rfl (hd ⟨8, .data⟩ (by simp) rfl)))
    | 10, _ => injection ho with ho; subst ho; exact RG.Does.read rfl (fun L v_ w' h => h) (fun L a w' hI hd => ex_extract rfl (hI.pure 9 _ _ rfl (hd ⟨9, .data⟩ (by simp) rfl)) rfl)
    | 11, _ => injection ho with ho; subst ho; exact RG.Does.read rfl (fun L v_ w' h => h) (fun L a w' hI hd => ex_extract rfl (hI.pure 9 _ _ rfl (hd ⟨9, .data⟩ (by simp) rfl)) rfl)
    | 12, _ => injection ho with ho; subst ho; exact RG.Does.read rfl (fun L v_ w' h => h) (fun L a w' hI hd => ex_extract rfl (hI.pure 9 _ _ rfl (hd ⟨9, .data⟩ (by simp) rfl)) rfl)
    | 13, _ => injection ho with ho; subst ho; exact RG.Does.read rfl (fun L v_ w' h => h) (fun L a w' hI hd => ex_assign rfl (hI.pure 10 _ _ rfl (hd ⟨10, .data⟩ (by simp) rfl)))
    | 14, _ => injection ho with ho; subst ho; exact RG.Does.read rfl (fun L v_ w' h => h) (fun L a w' hI hd => ex_assign rfl (hI.pure 11 _ _ rfl (hd ⟨11, .data⟩ (by simp) rfl)))
    | 15, _ => injection ho with ho; subst ho; exact RG.Does.read rfl (fun L v_ w' h => h) (fun L a w' hI hd => ex_assign rfl (hI.pure 12 _ _ rfl (hd ⟨12, .data⟩ (by simp) rfl)))
  case fin =>
    intro L a' w4 hI hall
    have hw := hI.world
    have ea := act_all a' 48 (by rw [hI.sz]; rfl) hI.df
    simp only [List.range, List.range.loop, List.map] at ea
    rw [hI.fix 0 (Reg.notD rfl) (by decide), hI.fix 1 (Reg.notD rfl) (by decide), hI.fix 3 (Reg.notD rfl) (by decide), hI.fix 4 (Reg.notD rfl) (by decide), hI.fix 5 (Reg.notD rfl) (by decide), hI.fix 6 (Reg.notD rfl) (by decide), hI.fix 10 (Reg.notD rfl) (by decide), hI.fix 11 (Reg.notD rfl) (by decide), hI.fix 12 (Reg.notD rfl) (by decide), hI.fix 13 (Reg.notD rfl) (by decide), hI.fix 14 (Reg.notD rfl) (by decide), hI.fix 15 (Reg.notD rfl) (by decide), hI.fix 16 (Reg.notD rfl) (by decide), hI.fix 17 (Reg.notD rfl) (by decide), hI.fix 18 (Reg.notD rfl) (by decide), hI.fix 19 (Reg.notD rfl) (by decide), hI.fix 20 (Reg.notD rfl) (by decide), hI.fix 34 (Reg.notD rfl) (by decide), hI.fix 35 (Reg.notD rfl) (by decide), hI.fix 36 (Reg.notD rfl) (by decide), hI.fix 37 (Reg.notD rfl) (by decide), hI.fix 38 (Reg.notD rfl) (by decide), hI.fix 39 (Reg.notD rfl) (by decide), hI.fix 40 (Reg.notD rfl) (by decide), hI.fix 41 (Reg.notD rfl) (by decide), hI.fix 42 (Reg.notD rfl) (by decide), hI.fix 43 (Reg.notD rfl) (by decide), hI.fix 44 (Reg.notD rfl) (by decide), hI.fix 45 (Reg.notD rfl) (by decide), hI.fix 46 (Reg.notD rfl) (by decide), hI.fix 47 (Reg.notD rfl) (by decide)] at ea
    have kv7 := hI.pure 13 7 _ rfl (hall 13 (by decide))
    have kv8 := hI.pure 14 8 _ rfl (hall 14 (by decide))
    have kv9 := hI.pure 15 9 _ rfl (hall 15 (by decide))
    clear hI hall
    generalize a'.eval (.tmp 2) = u2 at ea
    generalize a'.eval (.tmp 7) = u7 at ea kv7
    generalize a'.eval (.tmp 8) = u8 at ea kv8
    generalize a'.eval (.tmp 9) = u9 at ea kv9
    generalize a'.eval (.tmp 21) = u21 at ea
    generalize a'.eval (.tmp 22) = u22 at ea
    generalize a'.eval (.tmp 23) = u23 at ea
    generalize a'.eval (.tmp 24) = u24 at ea
    generalize a'.eval (.tmp 25) = u25 at ea
    generalize a'.eval (.tmp 26) = u26 at ea
    generalize a'.eval (.tmp 27) = u27 at ea
    generalize a'.eval (.tmp 28) = u28 at ea
    generalize a'.eval (.tmp 29) = u29 at ea
    generalize a'.eval (.tmp 30) = u30 at ea
    generalize a'.eval (.tmp 31) = u31 at ea
    generalize a'.eval (.tmp 32) = u32 at ea
    generalize a'.eval (.tmp 33) = u33 at ea
    simp only [show ∀ (ts : Array Value) (ds) (i : Nat), (Act.mk ts ds).eval (.tmp i) = ts.getD i undef from fun _ _ _ => rfl] at ea
    simp at ea
    subst ea
    subst kv7
    subst kv8
    subst kv9
    have RN := hide hw.row
    have MN := hide (show IsMem w4 bm bw n f' from by simpa using hw.mem)
    have QN := hide (hw.res rfl)
    have SN := hide (hw.var q rfl).1
    have szN := hw.tch.size
    have TN := hide (TV.out.trans' hw.tch (fun k hk h => by rcases h with h | h | h; exact .inl h; exact .inr h; omega))
    have lb4 : b < w4.heap.size := by omega
    have lr4 : w.heap.size < w4.heap.size := by omega
    have lq4 : q < w4.heap.size := by omega
    clear hw
    obtain ⟨⟨r0, rf0⟩, ⟨r1, rf1⟩, ⟨r2, rf2⟩, ⟨r3, rf3⟩, ⟨r4, rf4⟩, r5, rf5⟩ := res_facts QN.out
    have s0 : w4.cell? ⟨q, 0, none⟩ = some (.int .i64 x.hand) := by have := SN.out 0 _ rfl; simpa using this
    have s1 : w4.cell? ⟨q, 1, none⟩ = some (.int .i64 x.act) := by have := SN.out 1 _ rfl; simpa using this
    have s2 : w4.cell? ⟨q, 2, none⟩ = some (.int .i64 x.at_) := by have := SN.out 2 _ rfl; simpa using this
    have s3 : w4.cell? ⟨q, 3, none⟩ = some (.int .u64 x.had) := by have := SN.out 3 _ rfl; simpa using this
    have s4 : w4.cell? ⟨q, 4, none⟩ = some (.int .u64 x.put) := by have := SN.out 4 _ rfl; simpa using this
    have s5 : w4.cell? ⟨q, 5, none⟩ = some (.bool x.ok) := by have := SN.out 5 _ rfl; simpa using this
    go_wp2_with fail
    go_light
    refine bodyPost_ret (v := .tuple #[x.val, .int .i64 1]) ?res rfl ⟨rfl, ?row, ?mem, ?tch⟩
    case row =>
      repeat (first | (with_reducible apply World.rowIs.alloc) | (with_reducible apply World.rowIs.drew) | (with_reducible refine World.rowIs.setOther ?_ ?side _; case side => (simp; omega)))
      with_reducible exact RN.out
    case mem =>
      repeat (first | (with_reducible apply IsMem.alloc) | (with_reducible apply IsMem.drew) | ((with_reducible refine IsMem.setOther ?_ ?_ ?_ _); rotate_left; (simp; omega); (simp; omega)))
      with_reducible exact MN.out
    case tch =>
      repeat (first | (with_reducible apply Touch.alloc) | (with_reducible apply Touch.drew) | (with_reducible refine Touch.setCell ?_ _ ?side _; case side => (first | (simp; done) | (simp; omega))))
      with_reducible exact TN.out
    case res => simp [results, Try.results75, go_sem, Stp.val, *]
set_option maxHeartbeats 8000000 in
theorem find_yes {w : World} {b bm bw n : Nat} {f f' : Nat → Int} {x : Stp} {hand g ix l xb : Int} {fn : Value} {t : Ans} {sh : Shp} (h_ : w.rowIs b 145 14 (pC sh hand fn g t ix l xb)) (hm : IsMem w bm bw n f) (h1 : b ≠ bm) (h2 : b ≠ bw) (h5 : Shape.R5 sh.a sh.b sh.c sh.d sh.e) (hxh : 0 ≤ x.had ∧ x.had ≤ 18446744073709551615) (ht : there sh (idx x.had))
    (hx : stepOf n f ⟨hand, 1, 2, 0, 0, true⟩ = x) (hf' : wordsOf n f ⟨hand, 1, 2, 0, 0, true⟩ = f') :
    Calls Try.prog 75 #[.pointer (some ⟨b, 0, none⟩), .pointer (some ⟨bm, 0, none⟩)] w fun e w' => e = .returned (.tuple #[x.val, .int .i64 0]) ∧
      w'.rowIs b 145 14 (pC sh hand (.func (.func 104) #[.pointer (some ⟨b, 0, none⟩)] #[]) x.had t (idx x.had) (linkAt sh (idx x.had)) xb) ∧ IsMem w' bm bw n f' ∧ Touch w w' (fun k => k = b ∨ k = bw) := by
  have hl := h_.lt
  have lw := hm.row.lt
  have lm := hm.head.lt
  have hn3 : w.heap.size ≠ b := by omega
  have hn4 : w.heap.size ≠ bw := by omega
  have hn5 : w.heap.size ≠ bm := by omega
  obtain ⟨W1, hW1⟩ : ∃ W1, w.alloc (.cells #[.int .i64 0, .int .i64 0, .int .i64 0, .int .u64 0, .int .u64 0, .bool false] 63) = W1 := ⟨_, rfl⟩
  have R := hide (show W1.rowIs b 145 14 (pC sh hand fn g t ix l xb) from by rw [← hW1]; exact h_.alloc _)
  have M := hide (show IsMem W1 bm bw n f from by rw [← hW1]; exact hm.alloc _)
  have RZ := hide (show W1.rowIs w.heap.size 63 6 zcell from by rw [← hW1]; exact row0 w)
  have T0 := hide (show Touch w W1 (fun k => k = b ∨ k = bw) from by rw [← hW1]; exact (Touch.refl w _).alloc _)
  have sz : W1.heap.size = w.heap.size + 1 := by rw [← hW1]; simp
  have lW1 : b < W1.heap.size := by omega
  obtain ⟨⟨e0, ef0⟩, ⟨e1, ef1⟩, ⟨e2, ef2⟩, ⟨e3, ef3⟩, ⟨e4, ef4⟩, ⟨e5, ef5⟩, ⟨e6, ef6⟩, ⟨e7, ef7⟩, ⟨e8, ef8⟩, ⟨e9, ef9⟩, ⟨e10, ef10⟩, ⟨e11, ef11⟩, ⟨e12, ef12⟩, e13, ef13⟩ := p_facts R.out
  obtain ⟨dS, hdS1, hdS2⟩ := row46
  have HD := hide (And.intro hdS1 hdS2)
  have HX := hide hx
  have HF := hide hf'
  have HW : Hid (0 ≤ (⟨hand, 1, 2, 0, 0, true⟩ : Stp).put ∧ (⟨hand, 1, 2, 0, 0, true⟩ : Stp).put ≤ 18446744073709551615) := ⟨by show (0 : Int) ≤ 0; omega, by show (0 : Int) ≤ 18446744073709551615; omega⟩
  have IX := hide (fun w1 : World => index_any x.had hxh.1 (by omega) w1)
  have PL := hide (fun w1 : World => places_yes h5 ht w1)
  have LG := hide (loadGrey_any (hand := hand) R.out (by omega) rfl M.out h1 h2 hx hf')
  clear hm h_ hx hf' hdS1 hdS2 hxh h5 ht
  go_enter Try.func75, Try.ntmps75
  go_wp2_with fail
  clear hW1 e0 ef0 e1 ef1 e2 ef2 e3 ef3 e4 ef4 e5 ef5 e6 ef6 e7 ef7 e8 ef8 e9 ef9 e10 ef10 e11 ef11 e12 ef12 e13 ef13
  refine LG.out.mono ?_
  rintro e w1 ⟨rfl, r1, m1, t1⟩
  simp only [Stp.val]
  have lw1 := t1.size
  have l1 : b < w1.heap.size := by omega
  have l2 : w.heap.size < w1.heap.size := by omega
  have Rw1 := hide (show w1.rowIs b 145 14 (pC sh hand fn x.had t ix l xb) from r1.congr (fun i hi => p_g _ _ _ _ _ _ _ _ _ i hi))
  have Mw1 := hide m1
  have Qw1 := hide (RZ.out.of_block (t1.block w.heap.size (by omega) (by omega)))
  have Tw1 := hide (T0.out.trans' t1 (fun k _ e => e))
  clear r1 m1 t1
  have d11 := Rw1.out.cell (i := 11) (by omega)
  have df11 := Rw1.out.frozen 11
  obtain ⟨q, hq⟩ : ∃ q, w1.heap.size = q := ⟨_, rfl⟩
  obtain ⟨V, hV⟩ : ∃ V, (w1.setCell ⟨b, 11, none⟩ (.int .i64 (x.had % 4294967296))).alloc (.cells #[.int .i64 x.hand, .int .i64 x.act, .int .i64 x.at_, .int .u64 x.had, .int .u64 x.put, .bool x.ok] 63) = V := ⟨_, rfl⟩
  have RV := hide (show V.rowIs b 145 14 (pC sh hand fn x.had t (idx x.had) l xb) from by
    rw [← hV]
    exact ((Rw1.out.set 11 _).congr (fun i hi => p_i _ _ _ _ _ _ _ _ _ i hi)).alloc _)
  have MV := hide (show IsMem V bm bw n f' from by
    rw [← hV]
    exact (Mw1.out.setOther (by simp; omega) (by simp; omega) _).alloc _)
  have QV := hide (show V.rowIs w.heap.size 63 6 zcell from by
    rw [← hV]
    exact (Qw1.out.setOther (by simp; omega) _).alloc _)
  have SV := hide (show V.rangeAt q 0 x.cells from by
    rw [← hV, ← hq]
    have e1 : w1.heap.size = (w1.setCell ⟨b, 11, none⟩ (.int .i64 (x.had % 4294967296))).heap.size := by simp
    have := rowL_alloc (w1.setCell ⟨b, 11, none⟩ (.int .i64 (x.had % 4294967296))) x.cells 63 (n := 6) (by simp [Stp.cells])
    rw [← e1] at this
    exact rowIs.range this (by simp [Stp.cells]))
  have TV := hide (show Touch w V (fun k => k = b ∨ k = bw) from by
    rw [← hV]
    exact (Tw1.out.setCell ⟨b, 11, none⟩ (by simp) _).alloc _)
  have szV : V.heap.size = w1.heap.size + 1 := by rw [← hV]; simp
  have hqb : q ≠ b := by omega
  have hqr : q ≠ w.heap.size := by omega
  have hqm : q ≠ bm ∧ q ≠ bw := by have := Mw1.out.head.lt; have := Mw1.out.row.lt; omega
  have lqV : q < V.heap.size := by omega
  have HQ := hide hq
  clear hq
  go_upto_region 3 with (go_at_call 11; refine (IX.out _).mono ?_; rintro e wq ⟨rfl, hwq⟩; obtain rfl := hwq.symm)
  rw [HQ.out]
  clear hV HQ d11 df11 Rw1 Mw1 Qw1 Tw1
  obtain ⟨dG, hdG1, hdG2⟩ := rowSh
  have HDS := hide (And.intro hdG1 hdG2)
  clear hdG1 hdG2
  refine RG.region (ks := [(0, 22), (1, 23), (2, 24), (3, 25), (4, 26), (5, 27), (6, 28), (7, 29), (8, 30), (9, 21), (10, 31), (11, 32), (12, 33), (13, 7), (14, 8), (15, 9)]) (vals := fun i => match i with
      | 0 => .pointer (some ⟨b, 0, none⟩)
      | 1 => .pointer (some ⟨b, 0, none⟩)
      | 2 => .pointer (some ⟨b, 5, none⟩)
      | 3 => .agg #[.int .i64 sh.a, .int .i64 sh.b, .int .i64 sh.c, .int .i64 sh.d, .int .i64 sh.e, .int .i64 sh.f]
      | 4 => .pointer (some ⟨b, 0, none⟩)
      | 5 => .pointer (some ⟨b, 0, none⟩)
      | 6 => .pointer (some ⟨b, 11, none⟩)
      | 7 => .int .i64 (idx x.had)
      | 8 => .tuple #[.int .i64 (headAt sh (idx x.had)), .int .i64 (linkAt sh (idx x.had)), .bool true]
      | 9 => .tuple #[.int .i64 (headAt sh (idx x.had)), .int .i64 (linkAt sh (idx x.had)), .bool true]
      | 10 => .int .i64 (headAt sh (idx x.had))
      | 11 => .int .i64 (linkAt sh (idx x.had))
      | 12 => .bool true
      | 13 => .int .i64 (headAt sh (idx x.had))
      | 14 => .int .i64 (linkAt sh (idx x.had))
      | 15 => .bool true
      | _ => undef) (x := 2) (WI := fun L v_ w' => RG.SX b 145 14 (fun _ _ => pC sh hand fn x.had t (idx x.had) l xb) bm bw n f' f' x w.heap.size (some q) V true false false w') (by kernel_rfl) ?gg ?bk rfl ?dd ?xx (RG.SX.start (c := true) (g := false) RV.out (by simpa using MV.out) QV.out ⟨h1, h2, hn3, hn5, hn4⟩ (fun k e => by cases e; exact ⟨SV.out, by omega, hqb, hqm.2, hqr⟩)) ?does ?fin
  case gg =>
    intro i o ho
    have hi : i < 16 := by have := (Array.getElem?_eq_some_iff.1 ho).1; simpa using this
    match i, hi with
    | 0, _ | 1, _ | 2, _ | 3, _ | 4, _ | 5, _ | 6, _ | 7, _ | 8, _ | 9, _ | 10, _ | 11, _ | 12, _ | 13, _ | 14, _ | 15, _ => injection ho with ho; subst ho; rfl
  case bk =>
    intro i o ho
    have hi : i < 16 := by have := (Array.getElem?_eq_some_iff.1 ho).1; simpa using this
    match i, hi with
    | 0, _ | 1, _ | 2, _ | 3, _ | 4, _ | 5, _ | 6, _ | 7, _ | 8, _ | 9, _ | 10, _ | 11, _ | 12, _ | 13, _ | 14, _ | 15, _ => injection ho with ho; subst ho; simp [Region.binds]
  case dd =>
    intro k hk
    have hk' : k < 48 := by
      simp [RetN.D] at hk
      omega
    simpa using hk'
  case xx => simp
  case does =>
    intro i o ho
    have hi : i < 16 := by have := (Array.getElem?_eq_some_iff.1 ho).1; simpa using this
    match i, hi with
    | 0, _ => injection ho with ho; subst ho; exact RG.Does.read rfl (fun L v_ w' h => h) (fun L a w' hI hd => ex_move rfl (hI.fix 0 (Reg.notD rfl) (by decide)))
    | 1, _ => injection ho with ho; subst ho; exact RG.Does.read rfl (fun L v_ w' h => h) (fun L a w' hI hd => ex_nil rfl (hI.pure 0 _ _ rfl (hd ⟨0, .data⟩ (by simp) rfl)))
    | 2, _ => injection ho with ho; subst ho; exact RG.Does.read rfl (fun L v_ w' h => h) (fun L a w' hI hd => ex_field rfl (hI.pure 1 _ _ rfl (hd ⟨1, .data⟩ (by simp) rfl)) (fieldP1 w' _))
    | 3, _ => injection ho with ho; subst ho; exact RG.Does.read rfl (fun L v_ w' h => h) (fun L a w' hI hd => ex_load_row rfl (hI.pure 2 _ _ rfl (hd ⟨2, .data⟩ (by simp) rfl)) (shrow hI.world.row) HDS.out.1 HDS.out.2 sizeSh)
    | 4, _ => injection ho with ho; subst ho; exact RG.Does.read rfl (fun L v_ w' h => h) (fun L a w' hI hd => ex_move rfl (hI.fix 0 (Reg.notD rfl) (by decide)))
    | 5, _ => injection ho with ho; subst ho; exact RG.Does.read rfl (fun L v_ w' h => h) (fun L a w' hI hd => ex_nil rfl (hI.pure 4 _ _ rfl (hd ⟨4, .data⟩ (by simp) rfl)))
    | 6, _ => injection ho with ho; subst ho; exact RG.Does.read rfl (fun L v_ w' h => h) (fun L a w' hI hd => ex_field rfl (hI.pure 5 _ _ rfl (hd ⟨5, .data⟩ (by simp) rfl)) (fieldP2 w' _))
    | 7, _ => injection ho with ho; subst ho; exact RG.Does.read rfl (fun L v_ w' h => h) (fun L a w' hI hd => ex_load rfl (hI.pure 6 _ _ rfl (hd ⟨6, .data⟩ (by simp) rfl)) (aggI w') (hI.world.row.cell (i := 11) (by omega)))
    | 8, _ => injection ho with ho; subst ho; exact RG.Does.call rfl (fun L a w' hI hd => call2 rfl (hI.pure 3 _ _ rfl (hd ⟨3, .data⟩ (by simp) rfl)) (hI.pure 7 _ _ rfl (hd ⟨7, .data⟩ (by simp) rfl)) rfl (by simp [go_sem])) (fun L v_ w2 hI hL => (PL.out w2).mono (by rintro e w3 ⟨rfl, hb⟩; exact ⟨rfl, hI.turn (S := fun _ => False) (hI.row.of_block (hb.block _ hI.row.lt)) ⟨hI.mem.head.of_block (hb.block _ hI.mem.head.lt), hI.mem.row.of_block (hb.block _ hI.mem.row.lt), hI.mem.most, hI.mem.word⟩ ⟨hb.os, hb.tape, hb.output, hb.size, fun k hk _ => hb.block k hk⟩ (fun k e => e.elim)⟩))
    | 9, _ => injection ho with ho; subst ho; exact RG.Does.read rfl (fun L v_ w' h => h) (fun L a w' hI hd => ex_move rfl (hI.pure 8 _ _ rfl (hd ⟨8, .data⟩ (by simp) rfl)))
    | 10, _ => injection ho with ho; subst ho; exact RG.Does.read rfl (fun L v_ w' h => h) (fun L a w' hI hd => ex_extract rfl (hI.pure 9 _ _ rfl (hd ⟨9, .data⟩ (by simp) rfl)) rfl)
    | 11, _ => injection ho with ho; subst ho; exact RG.Does.read rfl (fun L v_ w' h => h) (fun L a w' hI hd => ex_extract rfl (hI.pure 9 _ _ rfl (hd ⟨9, .data⟩ (by simp) rfl)) rfl)
    | 12, _ => injection ho with ho; subst ho; exact RG.Does.read rfl (fun L v_ w' h => h) (fun L a w' hI hd => ex_extract rfl (hI.pure 9 _ _ rfl (hd ⟨9, .data⟩ (by simp) rfl)) rfl)
    | 13, _ => injection ho with ho; subst ho; exact RG.Does.read rfl (fun L v_ w' h => h) (fun L a w' hI hd => ex_assign rfl (hI.pure 10 _ _ rfl (hd ⟨10, .data⟩ (by simp) rfl)))
    | 14, _ => injection ho with ho; subst ho; exact RG.Does.read rfl (fun L v_ w' h => h) (fun L a w' hI hd => ex_assign rfl (hI.pure 11 _ _ rfl (hd ⟨11, .data⟩ (by simp) rfl)))
    | 15, _ => injection ho with ho; subst ho; exact RG.Does.read rfl (fun L v_ w' h => h) (fun L a w' hI hd => ex_assign rfl (hI.pure 12 _ _ rfl (hd ⟨12, .data⟩ (by simp) rfl)))
  case fin =>
    intro L a' w4 hI hall
    have hw := hI.world
    have ea := act_all a' 48 (by rw [hI.sz]; rfl) hI.df
    simp only [List.range, List.range.loop, List.map] at ea
    rw [hI.fix 0 (Reg.notD rfl) (by decide), hI.fix 1 (Reg.notD rfl) (by decide), hI.fix 3 (Reg.notD rfl) (by decide), hI.fix 4 (Reg.notD rfl) (by decide), hI.fix 5 (Reg.notD rfl) (by decide), hI.fix 6 (Reg.notD rfl) (by decide), hI.fix 10 (Reg.notD rfl) (by decide), hI.fix 11 (Reg.notD rfl) (by decide), hI.fix 12 (Reg.notD rfl) (by decide), hI.fix 13 (Reg.notD rfl) (by decide), hI.fix 14 (Reg.notD rfl) (by decide), hI.fix 15 (Reg.notD rfl) (by decide), hI.fix 16 (Reg.notD rfl) (by decide), hI.fix 17 (Reg.notD rfl) (by decide), hI.fix 18 (Reg.notD rfl) (by decide), hI.fix 19 (Reg.notD rfl) (by decide), hI.fix 20 (Reg.notD rfl) (by decide), hI.fix 34 (Reg.notD rfl) (by decide), hI.fix 35 (Reg.notD rfl) (by decide), hI.fix 36 (Reg.notD rfl) (by decide), hI.fix 37 (Reg.notD rfl) (by decide), hI.fix 38 (Reg.notD rfl) (by decide), hI.fix 39 (Reg.notD rfl) (by decide), hI.fix 40 (Reg.notD rfl) (by decide), hI.fix 41 (Reg.notD rfl) (by decide), hI.fix 42 (Reg.notD rfl) (by decide), hI.fix 43 (Reg.notD rfl) (by decide), hI.fix 44 (Reg.notD rfl) (by decide), hI.fix 45 (Reg.notD rfl) (by decide), hI.fix 46 (Reg.notD rfl) (by decide), hI.fix 47 (Reg.notD rfl) (by decide)] at ea
    have kv7 := hI.pure 13 7 _ rfl (hall 13 (by decide))
    have kv8 := hI.pure 14 8 _ rfl (hall 14 (by decide))
    have kv9 := hI.pure 15 9 _ rfl (hall 15 (by decide))
    clear hI hall
    generalize a'.eval (.tmp 2) = u2 at ea
    generalize a'.eval (.tmp 7) = u7 at ea kv7
    generalize a'.eval (.tmp 8) = u8 at ea kv8
    generalize a'.eval (.tmp 9) = u9 at ea kv9
    generalize a'.eval (.tmp 21) = u21 at ea
    generalize a'.eval (.tmp 22) = u22 at ea
    generalize a'.eval (.tmp 23) = u23 at ea
    generalize a'.eval (.tmp 24) = u24 at ea
    generalize a'.eval (.tmp 25) = u25 at ea
    generalize a'.eval (.tmp 26) = u26 at ea
    generalize a'.eval (.tmp 27) = u27 at ea
    generalize a'.eval (.tmp 28) = u28 at ea
    generalize a'.eval (.tmp 29) = u29 at ea
    generalize a'.eval (.tmp 30) = u30 at ea
    generalize a'.eval (.tmp 31) = u31 at ea
    generalize a'.eval (.tmp 32) = u32 at ea
    generalize a'.eval (.tmp 33) = u33 at ea
    simp only [show ∀ (ts : Array Value) (ds) (i : Nat), (Act.mk ts ds).eval (.tmp i) = ts.getD i undef from fun _ _ _ => rfl] at ea
    simp at ea
    subst ea
    subst kv7
    subst kv8
    subst kv9
    have RN := hide hw.row
    have MN := hide (show IsMem w4 bm bw n f' from by simpa using hw.mem)
    have QN := hide (hw.res rfl)
    have SN := hide (hw.var q rfl).1
    have szN := hw.tch.size
    have TN := hide (TV.out.trans' hw.tch (fun k hk h => by rcases h with h | h | h; exact .inl h; exact .inr h; omega))
    have lb4 : b < w4.heap.size := by omega
    have lr4 : w.heap.size < w4.heap.size := by omega
    have lq4 : q < w4.heap.size := by omega
    clear hw
    obtain ⟨⟨r0, rf0⟩, ⟨r1, rf1⟩, ⟨r2, rf2⟩, ⟨r3, rf3⟩, ⟨r4, rf4⟩, r5, rf5⟩ := res_facts QN.out
    have s0 : w4.cell? ⟨q, 0, none⟩ = some (.int .i64 x.hand) := by have := SN.out 0 _ rfl; simpa using this
    have s1 : w4.cell? ⟨q, 1, none⟩ = some (.int .i64 x.act) := by have := SN.out 1 _ rfl; simpa using this
    have s2 : w4.cell? ⟨q, 2, none⟩ = some (.int .i64 x.at_) := by have := SN.out 2 _ rfl; simpa using this
    have s3 : w4.cell? ⟨q, 3, none⟩ = some (.int .u64 x.had) := by have := SN.out 3 _ rfl; simpa using this
    have s4 : w4.cell? ⟨q, 4, none⟩ = some (.int .u64 x.put) := by have := SN.out 4 _ rfl; simpa using this
    have s5 : w4.cell? ⟨q, 5, none⟩ = some (.bool x.ok) := by have := SN.out 5 _ rfl; simpa using this
    have d12 := RN.out.cell (i := 12) (by omega)
    have df12 := RN.out.frozen 12
    have Rw4 := RN
    have Mw4 := MN
    have Qw4 := QN
    have Sw4 := SN
    have Tw4 := TN
    obtain ⟨U, hU⟩ : ∃ W', w4.setCell ⟨b, 12, none⟩ (.int .i64 (linkAt sh (idx x.had))) = W' := ⟨_, rfl⟩
    have tU : Touch w4 U (fun k => k = b) := by
      rw [← hU]
      exact Touch.trans' (S' := fun k => k = b) (⟨rfl, rfl, rfl, Nat.le_refl _, fun _ _ _ => rfl⟩ : Touch w4 w4 (fun k => k = b)) ((Touch.refl w4 _).setCell (S := fun k => k = b) ⟨b, 12, none⟩ (.inl rfl) _) (fun k _ h => h)
    have RU := hide (show U.rowIs b 145 14 (pC sh hand fn x.had t (idx x.had) (linkAt sh (idx x.had)) xb) from by
      rw [← hU]
      exact World.rowIs.congr (World.rowIs.set (show World.rowIs w4 b 145 14 _ from Rw4.out.of_block rfl) 12 _) (fun i hi => p_l _ _ _ _ _ _ _ _ _ i hi))
    have QU := hide (Qw4.out.of_block (tU.block _ (by omega) (by omega)))
    have MU := hide (show IsMem U bm bw n f' from ⟨Mw4.out.head.of_block (tU.block _ Mw4.out.head.lt (by omega)), Mw4.out.row.of_block (tU.block _ Mw4.out.row.lt (by omega)), Mw4.out.most, Mw4.out.word⟩)
    have TU := hide (show Touch w U (fun k => k = b ∨ k = bw) from Tw4.out.trans' tU (fun k _ h => .inl h))
    have SU := hide (rangeAt_block Sw4.out (tU.block q (by omega) (by omega)))
    have szU : U.heap.size = w4.heap.size := by rw [← hU] <;> first | (simp; done) | rfl | (simp; rfl)
    clear tU
    go_wp2_with fail
    clear hU
    refine RG.region (ks := [(0, 41), (1, 42), (2, 43), (3, 44), (4, 45), (5, 46), (6, 47), (8, 5)]) (vals := fun i => match i with
          | 0 => .agg #[.int .i64 x.hand, .int .i64 x.act, .int .i64 x.at_, .int .u64 x.had, .int .u64 x.put, .bool x.ok]
          | 1 => .pointer (some ⟨b, 0, none⟩)
          | 2 => .pointer (some ⟨b, 0, none⟩)
          | 3 => .pointer (some ⟨b, 0, none⟩)
          | 4 => .pointer (some ⟨b, 0, none⟩)
          | 5 => .func (.func 104) #[.pointer (some ⟨b, 0, none⟩)] #[]
          | 6 => .int .i64 0
          | 8 => .int .i64 0
          | _ => undef) (x := 2) (WI := fun L v_ w' => RG.SX b 145 14 (fun c_ g_ => pC sh hand (if g_ = true then (.func (.func 104) #[.pointer (some ⟨b, 0, none⟩)] #[]) else fn) x.had t (idx x.had) (linkAt sh (idx x.had)) xb) bm bw n f' f' x w.heap.size (some q) U true (L 6) (L 7) w') (by kernel_rfl) ?gg ?bk rfl ?dd ?xx (RG.SX.start (c := true) (g := false) RU.out (by simpa using MU.out) QU.out ⟨h1, h2, hn3, hn5, hn4⟩ (fun k e => by cases e; exact ⟨SU.out, by omega, hqb, hqm.2, hqr⟩)) ?does ?fin
    case gg =>
      intro i o ho
      have hi : i < 9 := by have := (Array.getElem?_eq_some_iff.1 ho).1; simpa using this
      match i, hi with
      | 0, _ | 1, _ | 2, _ | 3, _ | 4, _ | 5, _ | 6, _ | 7, _ | 8, _ => injection ho with ho; subst ho; rfl
    case bk =>
      intro i o ho
      have hi : i < 9 := by have := (Array.getElem?_eq_some_iff.1 ho).1; simpa using this
      match i, hi with
      | 0, _ | 1, _ | 2, _ | 3, _ | 4, _ | 5, _ | 6, _ | 7, _ | 8, _ => injection ho with ho; subst ho; simp [Region.binds]
    case dd =>
      intro k hk
      have hk' : k < 48 := by
        simp [RetN.D] at hk
        omega
      simpa using hk'
    case xx => simp
    case does =>
      intro i o ho
      have hi : i < 9 := by have := (Array.getElem?_eq_some_iff.1 ho).1; simpa using this
      match i, hi with
      | 0, _ => injection ho with ho; subst ho; exact RG.Does.read rfl (fun L v_ w' h => RG.SX.skip2 (by decide) (by decide) h) (fun L a w' hI hd => ex_load_row rfl (hI.fix 6 (Reg.notD rfl) (by decide)) (hI.world.var _ rfl).1 HD.out.1 HD.out.2 size46)
      | 1, _ => injection ho with ho; subst ho; exact RG.Does.read rfl (fun L v_ w' h => RG.SX.skip2 (by decide) (by decide) h) (fun L a w' hI hd => ex_move rfl (hI.fix 0 (Reg.notD rfl) (by decide)))
      | 2, _ => injection ho with ho; subst ho; exact RG.Does.read rfl (fun L v_ w' h => RG.SX.skip2 (by decide) (by decide) h) (fun L a w' hI hd => ex_nil rfl (hI.pure 1 _ _ rfl (hd ⟨1, .data⟩ (by simp) rfl)))
      | 3, _ => injection ho with ho; subst ho; exact RG.Does.read rfl (fun L v_ w' h => RG.SX.skip2 (by decide) (by decide) h) (fun L a w' hI hd => ex_field rfl (hI.pure 2 _ _ rfl (hd ⟨2, .data⟩ (by simp) rfl)) (fieldP0 w' _))
      | 4, _ => injection ho with ho; subst ho; exact RG.Does.read rfl (fun L v_ w' h => RG.SX.skip2 (by decide) (by decide) h) (fun L a w' hI hd => ex_move rfl (hI.fix 0 (Reg.notD rfl) (by decide)))
      | 5, _ => injection ho with ho; subst ho; exact RG.Does.read rfl (fun L v_ w' h => RG.SX.skip2 (by decide) (by decide) h) (fun L a w' hI hd => ex_func rfl (hI.pure 4 _ _ rfl (hd ⟨4, .data⟩ (by simp) rfl)))
      | 6, _ => injection ho with ho; subst ho; exact RG.Does.call rfl (fun L a w' hI hd => call2 rfl (hI.pure 3 _ _ rfl (hd ⟨3, .data⟩ (by simp) rfl)) (hI.pure 5 _ _ rfl (hd ⟨5, .data⟩ (by simp) rfl)) rfl (by simp [go_sem])) (fun L v_ w2 hI hL => by have h3 := hI; rw [hL] at h3; refine (goOn_any 104 h3.row (by omega)).mono ?_; rintro e w3 ⟨rfl, r3, t3⟩; refine ⟨rfl, ?_⟩; rw [upd_same, upd_other _ _ (show 7 ≠ 6 by decide)]; exact h3.turn (g' := true) (r3.congr (fun i hi => p_fn _ _ _ _ _ _ _ _ _ i hi)) ⟨h3.mem.head.of_block (t3.block _ h3.mem.head.lt (fun e => h1 e.symm)), h3.mem.row.of_block (t3.block _ h3.mem.row.lt (fun e => h2 e.symm)), h3.mem.most, h3.mem.word⟩ t3 (fun k e => .inl e))
      | 7, _ => injection ho with ho; subst ho; exact RG.Does.put (ls := x.cells) rfl rfl rfl size46 (by simp [Stp.cells, Value.oneCell']) (fun L a w' hI hL hd => ⟨(hI.pure 0 _ _ rfl (hd ⟨0, .data⟩ (by simp) rfl)), by obtain ⟨e2, e3⟩ := RG.SX.put hI.world; exact ⟨w.heap.size, 0, hI.fix 4 (Reg.notD rfl) (by decide), e2, by show RG.SX b 145 14 (fun c_ g_ => pC sh hand (if g_ = true then (.func (.func 104) #[.pointer (some ⟨b, 0, none⟩)] #[]) else fn) x.had t (idx x.had) (linkAt sh (idx x.had)) xb) bm bw n f' f' x w.heap.size (some q) U true (upd L 7 true 6) (upd L 7 true 7) _; rw [upd_same, upd_other _ _ (show 6 ≠ 7 by decide)]; exact e3⟩⟩)
      | 8, _ => injection ho with ho; subst ho; exact RG.Does.read rfl (fun L v_ w' h => RG.SX.skip2 (by decide) (by decide) h) (fun L a w' hI hd => ex_assign rfl (hI.pure 6 _ _ rfl (hd ⟨6, .data⟩ (by simp) rfl)))
    case fin =>
      intro L a' w' hI hall
      rename_i K2 hK2
      refine hK2 _ _ ?_
      have hw := hI.world
      simp only [hall 6 (by decide), hall 7 (by decide)] at hw
      have rE := hw.sto rfl
      have pE : a'.eval (.tmp 4) = .pointer (some ⟨w.heap.size, 0, none⟩) := hI.fix 4 (Reg.notD rfl) (by decide)
      have pe : a'.eval (.tmp 5) = .int .i64 0 := hI.pure 8 5 _ rfl (hall 8 (by decide))
      have hdf : a'.defers = [] := hI.df
      have hS := run_loadVar_mid (P := Try.prog) w' w.heap.size 0 _ _ dS rE HD.out.1 HD.out.2 size46
      have hres := results_ct (Q := Try.prog) (fn := Try.f75) (tmps := a'.tmps) (t := 4) (t' := 5) (W := w') (by rfl) pE hS
      rw [show a'.tmps.getD 5 undef = .int .i64 0 from pe] at hres
      go_wp2
      exact bodyPost_ret (v := .tuple #[x.val, .int .i64 0]) hres hdf ⟨rfl, hw.row, by simpa using hw.mem, TU.out.trans' hw.tch (fun k hk h => by rcases h with h | h | h; exact .inl h; exact .inr h; omega)⟩
end Shd
end Go.Proofs.Ytnodkeoikamonaa
