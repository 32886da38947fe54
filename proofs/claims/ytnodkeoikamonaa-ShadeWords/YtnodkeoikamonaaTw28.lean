/-
  Lemmas: ShadeE.
-/
import Derived.Test.YtnodkeoikamonaaTw26
/-
  Shading and pulling: peek and take.
-/
namespace Go.Proofs.Ytnodkeoikamonaa
open Go.RowKit
set_option linter.unusedVariables false
set_option linter.unusedSimpArgs false
set_option maxRecDepth 20000
namespace Shd
set_option maxHeartbeats 8000000 in
theorem take_yes {w : World} {b bm bw n : Nat} {f f' : Nat → Int} {x : Stp} {hand g ix l xb : Int} {fn : Value} {t : Ans} {sh : Shp} (h_ : w.rowIs b 145 14 (pC sh hand fn g t ix l xb)) (hm : IsMem w bm bw n f) (h1 : b ≠ bm) (h2 : b ≠ bw) (hg : 0 ≤ g ∧ g ≤ 18446744073709551615) (hi : 0 ≤ ix ∧ ix < 4294967296) (hok : x.ok = true)
    (hx : stepOf n f ⟨hand, 5, 2, g, bmp g xb, true⟩ = x) (hf' : wordsOf n f ⟨hand, 5, 2, g, bmp g xb, true⟩ = f') :
    Calls Try.prog 123 #[.pointer (some ⟨b, 0, none⟩), .pointer (some ⟨bm, 0, none⟩)] w fun e w' => e = .returned (.tuple #[x.val, .int .i64 1]) ∧
      w'.rowIs b 145 14 (pC sh hand fn g ⟨true, ix⟩ ix l xb) ∧ IsMem w' bm bw n f' ∧ Touch w w' (fun k => k = b ∨ k = bw) := by
  have hl := h_.lt
  have lw := hm.row.lt
  have lm := hm.head.lt
  have hn3 : w.heap.size ≠ b := by omega
  have hn4 : w.heap.size ≠ bw := by omega
  have hn5 : w.heap.size ≠ bm := by omega
  obtain ⟨W1, hW1⟩ : ∃ W1, w.alloc (.cells #[.int .i64 0, .int .i64 0, .int .i64 0, .int .u64 0, .int .u64 0, .bool false] 63) = W1 := ⟨_, rfl⟩
  have R := hide (show W1.rowIs b 145 14 (pC sh hand fn g t ix l xb) from by rw [← hW1]; exact h_.alloc _)
  have M := hide (show IsMem W1 bm bw n f from by rw [← hW1]; exact hm.alloc _)
  have RZ := hide (show W1.rowIs w.heap.size 63 6 zcell from by rw [← hW1]; exact row0 w)
  have T0 := hide (show Touch w W1 (fun k => k = b ∨ k = bw) from by rw [← hW1]; exact (Touch.refl w _).alloc _)
  have sz : W1.heap.size = w.heap.size + 1 := by rw [← hW1]; simp
  have lW1 : b < W1.heap.size := by omega
  obtain ⟨⟨e0, ef0⟩, ⟨e1, ef1⟩, ⟨e2, ef2⟩, ⟨e3, ef3⟩, ⟨e4, ef4⟩, ⟨e5, ef5⟩, ⟨e6, ef6⟩, ⟨e7, ef7⟩, ⟨e8, ef8⟩, ⟨e9, ef9⟩, ⟨e10, ef10⟩, ⟨e11, ef11⟩, ⟨e12, ef12⟩, e13, ef13⟩ := p_facts R.out
  obtain ⟨dS, hdS1, hdS2⟩ := row46
  have HD := hide (And.intro hdS1 hdS2)
  have HX := hide hx
  have HF := hide hf'
  have HW : Hid (0 ≤ (⟨hand, 5, 2, g, bmp g xb, true⟩ : Stp).put ∧ (⟨hand, 5, 2, g, bmp g xb, true⟩ : Stp).put ≤ 18446744073709551615) := ⟨bmp_lo _ _, bmp_hi _ _⟩
  have HOK := hide hok
  have HG := hide hg
  have HI := hide hi
  clear hm h_ hx hf' hdS1 hdS2 hok hg hi
  go_enter Try.func123, Try.ntmps123
  go_wp2_with fail
  clear hW1 e0 ef0 e1 ef1 e2 ef2 e3 ef3 e4 ef4 e5 ef5 e6 ef6 e7 ef7 e8 ef8 e9 ef9 e10 ef10 e11 ef11 e12 ef12 e13 ef13
  refine RG.region (ks := [(0, 7), (1, 8), (2, 9), (3, 10), (4, 11), (5, 12), (6, 13), (7, 14), (8, 15)]) (vals := fun i => match i with
      | 0 => .pointer (some ⟨b, 0, none⟩)
      | 1 => .pointer (some ⟨b, 0, none⟩)
      | 2 => .pointer (some ⟨b, 0, none⟩)
      | 3 => .pointer (some ⟨bm, 0, none⟩)
      | 4 => .pointer (some ⟨b, 0, none⟩)
      | 5 => .pointer (some ⟨b, 0, none⟩)
      | 6 => .pointer (some ⟨b, 13, none⟩)
      | 7 => .int .i64 xb
      | 8 => .agg #[.int .i64 x.hand, .int .i64 x.act, .int .i64 x.at_, .int .u64 x.had, .int .u64 x.put, .bool x.ok]
      | _ => undef) (x := 6) (WI := fun L v_ w' => RG.SW b 145 14 (pC sh hand fn g t ix l xb) bm bw n f f' x w.heap.size W1 (L 8) (L 9) (L 10) v_ w') (by kernel_rfl) ?gg ?bk rfl ?dd ?xx (RG.SW.start R.out M.out RZ.out) ?does ?fin
  case gg =>
    intro i o ho
    have hi : i < 11 := by have := (Array.getElem?_eq_some_iff.1 ho).1; simpa using this
    match i, hi with
    | 0, _ | 1, _ | 2, _ | 3, _ | 4, _ | 5, _ | 6, _ | 7, _ | 8, _ | 9, _ | 10, _ => injection ho with ho; subst ho; rfl
  case bk =>
    intro i o ho
    have hi : i < 11 := by have := (Array.getElem?_eq_some_iff.1 ho).1; simpa using this
    match i, hi with
    | 0, _ | 1, _ | 2, _ | 3, _ | 4, _ | 5, _ | 6, _ | 7, _ | 8, _ | 9, _ | 10, _ => injection ho with ho; subst ho; simp [Region.binds]
  case dd =>
    intro k hk
    have hk' : k < 35 := by
      simp [RetN.D] at hk
      omega
    simpa using hk'
  case xx => simp
  case does =>
    intro i o ho
    have hi : i < 11 := by have := (Array.getElem?_eq_some_iff.1 ho).1; simpa using this
    match i, hi with
    | 0, _ => injection ho with ho; subst ho; exact RG.Does.read rfl (fun L v_ w' h => RG.SW.skip (by decide) (by decide) (by decide) h) (fun L a w' hI hd => ex_move rfl (hI.fix 0 (Reg.notD rfl) (by decide)))
    | 1, _ => injection ho with ho; subst ho; exact RG.Does.read rfl (fun L v_ w' h => RG.SW.skip (by decide) (by decide) (by decide) h) (fun L a w' hI hd => ex_nil rfl (hI.pure 0 _ _ rfl (hd ⟨0, .data⟩ (by simp) rfl)))
    | 2, _ => injection ho with ho; subst ho; exact RG.Does.read rfl (fun L v_ w' h => RG.SW.skip (by decide) (by decide) (by decide) h) (fun L a w' hI hd => ex_field rfl (hI.pure 1 _ _ rfl (hd ⟨1, .data⟩ (by simp) rfl)) (fieldP0 w' _))
    | 3, _ => injection ho with ho; subst ho; exact RG.Does.read rfl (fun L v_ w' h => RG.SW.skip (by decide) (by decide) (by decide) h) (fun L a w' hI hd => ex_move rfl (hI.fix 1 (Reg.notD rfl) (by decide)))
    | 4, _ => injection ho with ho; subst ho; exact RG.Does.read rfl (fun L v_ w' h => RG.SW.skip (by decide) (by decide) (by decide) h) (fun L a w' hI hd => ex_move rfl (hI.fix 0 (Reg.notD rfl) (by decide)))
    | 5, _ => injection ho with ho; subst ho; exact RG.Does.read rfl (fun L v_ w' h => RG.SW.skip (by decide) (by decide) (by decide) h) (fun L a w' hI hd => ex_nil rfl (hI.pure 4 _ _ rfl (hd ⟨4, .data⟩ (by simp) rfl)))
    | 6, _ => injection ho with ho; subst ho; exact RG.Does.read rfl (fun L v_ w' h => RG.SW.skip (by decide) (by decide) (by decide) h) (fun L a w' hI hd => ex_field rfl (hI.pure 5 _ _ rfl (hd ⟨5, .data⟩ (by simp) rfl)) (fieldP4 w' _))
    | 7, _ => injection ho with ho; subst ho; exact RG.Does.read rfl (fun L v_ w' h => RG.SW.skip (by decide) (by decide) (by decide) h) (fun L a w' hI hd => ex_load rfl (hI.pure 6 _ _ rfl (hd ⟨6, .data⟩ (by simp) rfl)) (aggI w') (hI.world.row.cell (i := 13) (by omega)))
    | 8, _ => injection ho with ho; subst ho; exact RG.Does.call rfl (fun L a w' hI hd => call3 rfl (hI.pure 2 _ _ rfl (hd ⟨2, .data⟩ (by simp) rfl)) (hI.pure 3 _ _ rfl (hd ⟨3, .data⟩ (by simp) rfl)) (hI.pure 7 _ _ rfl (hd ⟨7, .data⟩ (by simp) rfl)) rfl (by simp [go_sem])) (SWcalls h2 hn4 (by decide) (by decide) (fun w2 R2 M2 => turnGrey_any (R2.cell (i := 0) (by omega)) (R2.cell (i := 2) (by omega)) R2.lt h2 HG.out M2 HX.out HF.out))
    | 9, _ => injection ho with ho; subst ho; exact RG.Does.make (u := fun w' => .pointer (some ⟨w'.heap.size, 0, none⟩)) rfl rfl (fun ev w' => alloc46 rfl) (fun L v_ w' h hL => by have := RG.SW.make h hL; rw [← upd_same L 9 true] at this; simpa only [upd_other _ _ (show 8 ≠ 9 by decide), upd_other _ _ (show 10 ≠ 9 by decide)] using this)
    | 10, _ => injection ho with ho; subst ho; exact RG.Does.put (ls := x.cells) rfl rfl rfl size46 (by simp [Stp.cells, Value.oneCell']) (fun L a w' hI hL hd => ⟨(hI.pure 8 _ _ rfl (hd ⟨8, .data⟩ (by simp) rfl)), by obtain ⟨q, e1, e2, e3⟩ := RG.SW.put hI.world (hd ⟨8, .data⟩ (by simp) rfl) (hd ⟨9, .data⟩ (by simp) rfl) hL; exact ⟨q, 0, e1, e2, by rw [← upd_same L 10 true] at e3; simpa only [upd_other _ _ (show 8 ≠ 10 by decide), upd_other _ _ (show 9 ≠ 10 by decide)] using e3⟩⟩)
  case fin =>
    intro L a' w1 hI hall
    have hw := hI.world
    simp only [hall 8 (by decide), hall 9 (by decide), hall 10 (by decide), if_true] at hw
    obtain ⟨q, hq, hq1, hq2, _, hr⟩ := hw.own rfl
    replace hr := hr rfl
    have ea := act_all a' 35 (by rw [hI.sz]; rfl) hI.df
    simp only [List.range, List.range.loop, List.map] at ea
    rw [hI.fix 0 (Reg.notD rfl) (by decide), hI.fix 1 (Reg.notD rfl) (by decide), hI.fix 2 (Reg.notD rfl) (by decide), hI.fix 3 (Reg.notD rfl) (by decide), hI.fix 4 (Reg.notD rfl) (by decide), hI.fix 5 (Reg.notD rfl) (by decide), hI.fix 16 (Reg.notD rfl) (by decide), hI.fix 17 (Reg.notD rfl) (by decide), hI.fix 18 (Reg.notD rfl) (by decide), hI.fix 19 (Reg.notD rfl) (by decide), hI.fix 20 (Reg.notD rfl) (by decide), hI.fix 21 (Reg.notD rfl) (by decide), hI.fix 22 (Reg.notD rfl) (by decide), hI.fix 23 (Reg.notD rfl) (by decide), hI.fix 24 (Reg.notD rfl) (by decide), hI.fix 25 (Reg.notD rfl) (by decide), hI.fix 26 (Reg.notD rfl) (by decide), hI.fix 27 (Reg.notD rfl) (by decide), hI.fix 28 (Reg.notD rfl) (by decide), hI.fix 29 (Reg.notD rfl) (by decide), hI.fix 30 (Reg.notD rfl) (by decide), hI.fix 31 (Reg.notD rfl) (by decide), hI.fix 32 (Reg.notD rfl) (by decide), hI.fix 33 (Reg.notD rfl) (by decide), hI.fix 34 (Reg.notD rfl) (by decide), hq] at ea
    clear hI hall
    generalize a'.eval (.tmp 7) = u7 at ea
    generalize a'.eval (.tmp 8) = u8 at ea
    generalize a'.eval (.tmp 9) = u9 at ea
    generalize a'.eval (.tmp 10) = u10 at ea
    generalize a'.eval (.tmp 11) = u11 at ea
    generalize a'.eval (.tmp 12) = u12 at ea
    generalize a'.eval (.tmp 13) = u13 at ea
    generalize a'.eval (.tmp 14) = u14 at ea
    generalize a'.eval (.tmp 15) = u15 at ea
    simp only [show ∀ (ts : Array Value) (ds) (i : Nat), (Act.mk ts ds).eval (.tmp i) = ts.getD i undef from fun _ _ _ => rfl] at ea
    simp at ea
    subst ea
    have M1 := hide (show IsMem w1 bm bw n f' from by simpa using hw.mem)
    have R1 := hide hw.row
    have RR := hide hw.res
    have T1 := hide (T0.out.trans' hw.tch (fun k _ h => .inr h))
    have RQ := hide hr
    have hqb : q ≠ b := by omega
    have hqr : q ≠ w.heap.size := by omega
    have hqm : q ≠ bm ∧ q ≠ bw := by omega
    have lw1 := hw.tch.size
    have l1 : b < w1.heap.size := by omega
    have l2 : w.heap.size < w1.heap.size := by omega
    have l3 : q < w1.heap.size := by omega
    clear hw hr hq
    have s0 : w1.cell? ⟨q, 0, none⟩ = some (.int .i64 x.hand) := by have := RQ.out 0 _ rfl; simpa using this
    have s1 : w1.cell? ⟨q, 1, none⟩ = some (.int .i64 x.act) := by have := RQ.out 1 _ rfl; simpa using this
    have s2 : w1.cell? ⟨q, 2, none⟩ = some (.int .i64 x.at_) := by have := RQ.out 2 _ rfl; simpa using this
    have s3 : w1.cell? ⟨q, 3, none⟩ = some (.int .u64 x.had) := by have := RQ.out 3 _ rfl; simpa using this
    have s4 : w1.cell? ⟨q, 4, none⟩ = some (.int .u64 x.put) := by have := RQ.out 4 _ rfl; simpa using this
    have s5 : w1.cell? ⟨q, 5, none⟩ = some (.bool x.ok) := by have := RQ.out 5 _ rfl; simpa using this
    have Rw1 := R1
    have Mw1 := M1
    have Qw1 := RR
    have Sw1 := RQ
    have Tw1 := T1
    have hok := HOK.out
    have s5' : w1.cell? ⟨q, 5, none⟩ = some (.bool true) := by rw [s5, hok]
    clear s5 hok
    go_wp2_with fail
    clear s0 s1 s2 s3 s4 s5'
    refine RG.region (ks := [(0, 26), (1, 27), (2, 28), (3, 29), (4, 30), (5, 31), (6, 32), (7, 33), (8, 34), (10, 5)]) (vals := fun i => match i with
          | 0 => .agg #[.int .i64 x.hand, .int .i64 x.act, .int .i64 x.at_, .int .u64 x.had, .int .u64 x.put, .bool x.ok]
          | 1 => .pointer (some ⟨b, 0, none⟩)
          | 2 => .pointer (some ⟨b, 0, none⟩)
          | 3 => .pointer (some ⟨b, 0, none⟩)
          | 4 => .pointer (some ⟨b, 0, none⟩)
          | 5 => .pointer (some ⟨b, 0, none⟩)
          | 6 => .pointer (some ⟨b, 11, none⟩)
          | 7 => .int .i64 ix
          | 8 => .int .i64 1
          | 10 => .int .i64 1
          | _ => undef) (x := 2) (WI := fun L v_ w' => RG.SX b 145 14 (fun c_ g_ => pC sh hand fn g (if g_ = true then ⟨true, ix⟩ else t) ix l xb) bm bw n f' f' x w.heap.size (some q) w1 true (L 8) (L 9) w') (by kernel_rfl) ?gg ?bk rfl ?dd ?xx (RG.SX.start (c := true) (g := false) Rw1.out (by simpa using Mw1.out) Qw1.out ⟨h1, h2, hn3, hn5, hn4⟩ (fun k e => by cases e; exact ⟨Sw1.out, by omega, hqb, hqm.2, hqr⟩)) ?does ?fin
    case gg =>
      intro i o ho
      have hi : i < 11 := by have := (Array.getElem?_eq_some_iff.1 ho).1; simpa using this
      match i, hi with
      | 0, _ | 1, _ | 2, _ | 3, _ | 4, _ | 5, _ | 6, _ | 7, _ | 8, _ | 9, _ | 10, _ => injection ho with ho; subst ho; rfl
    case bk =>
      intro i o ho
      have hi : i < 11 := by have := (Array.getElem?_eq_some_iff.1 ho).1; simpa using this
      match i, hi with
      | 0, _ | 1, _ | 2, _ | 3, _ | 4, _ | 5, _ | 6, _ | 7, _ | 8, _ | 9, _ | 10, _ => injection ho with ho; subst ho; simp [Region.binds]
    case dd =>
      intro k hk
      have hk' : k < 35 := by
        simp [RetN.D] at hk
        omega
      simpa using hk'
    case xx => simp
    case does =>
      intro i o ho
      have hi : i < 11 := by have := (Array.getElem?_eq_some_iff.1 ho).1; simpa using this
      match i, hi with
      | 0, _ => injection ho with ho; subst ho; exact RG.Does.read rfl (fun L v_ w' h => RG.SX.skip2 (by decide) (by decide) h) (fun L a w' hI hd => ex_load_row rfl (hI.fix 6 (Reg.notD rfl) (by decide)) (hI.world.var _ rfl).1 HD.out.1 HD.out.2 size46)
      | 1, _ => injection ho with ho; subst ho; exact RG.Does.read rfl (fun L v_ w' h => RG.SX.skip2 (by decide) (by decide) h) (fun L a w' hI hd => ex_move rfl (hI.fix 0 (Reg.notD rfl) (by decide)))
      | 2, _ => injection ho with ho; subst ho; exact RG.Does.read rfl (fun L v_ w' h => RG.SX.skip2 (by decide) (by decide) h) (fun L a w' hI hd => ex_nil rfl (hI.pure 1 _ _ rfl (hd ⟨1, .data⟩ (by simp) rfl)))
      | 3, _ => injection ho with ho; subst ho; exact RG.Does.read rfl (fun L v_ w' h => RG.SX.skip2 (by decide) (by decide) h) (fun L a w' hI hd => ex_field rfl (hI.pure 2 _ _ rfl (hd ⟨2, .data⟩ (by simp) rfl)) (fieldP0 w' _))
      | 4, _ => injection ho with ho; subst ho; exact RG.Does.read rfl (fun L v_ w' h => RG.SX.skip2 (by decide) (by decide) h) (fun L a w' hI hd => ex_move rfl (hI.fix 0 (Reg.notD rfl) (by decide)))
      | 5, _ => injection ho with ho; subst ho; exact RG.Does.read rfl (fun L v_ w' h => RG.SX.skip2 (by decide) (by decide) h) (fun L a w' hI hd => ex_nil rfl (hI.pure 4 _ _ rfl (hd ⟨4, .data⟩ (by simp) rfl)))
      | 6, _ => injection ho with ho; subst ho; exact RG.Does.read rfl (fun L v_ w' h => RG.SX.skip2 (by decide) (by decide) h) (fun L a w' hI hd => ex_field rfl (hI.pure 5 _ _ rfl (hd ⟨5, .data⟩ (by simp) rfl)) (fieldP2 w' _))
      | 7, _ => injection ho with ho; subst ho; exact RG.Does.read rfl (fun L v_ w' h => RG.SX.skip2 (by decide) (by decide) h) (fun L a w' hI hd => ex_load rfl (hI.pure 6 _ _ rfl (hd ⟨6, .data⟩ (by simp) rfl)) (aggI w') (hI.world.row.cell (i := 11) (by omega)))
      | 8, _ => injection ho with ho; subst ho; exact RG.Does.call rfl (fun L a w' hI hd => call2 rfl (hI.pure 3 _ _ rfl (hd ⟨3, .data⟩ (by simp) rfl)) (hI.pure 7 _ _ rfl (hd ⟨7, .data⟩ (by simp) rfl)) rfl (by simp [go_sem])) (fun L v_ w2 hI hL => by have h3 := hI; rw [hL] at h3; refine (end_any (show 0 ≤ ix ∧ ix ≤ 18446744073709551615 by have := HI.out; omega) h3.row (by omega)).mono ?_; rintro e w3 ⟨rfl, r3, t3⟩; refine ⟨rfl, ?_⟩; rw [upd_same, upd_other _ _ (show 9 ≠ 8 by decide)]; exact h3.turn (g' := true) (r3.congr (fun i hi => p_told _ _ _ _ _ _ _ _ _ i hi)) ⟨h3.mem.head.of_block (t3.block _ h3.mem.head.lt (fun e => h1 e.symm)), h3.mem.row.of_block (t3.block _ h3.mem.row.lt (fun e => h2 e.symm)), h3.mem.most, h3.mem.word⟩ t3 (fun k e => .inl e))
      | 9, _ => injection ho with ho; subst ho; exact RG.Does.put (ls := x.cells) rfl rfl rfl size46 (by simp [Stp.cells, Value.oneCell']) (fun L a w' hI hL hd => ⟨(hI.pure 0 _ _ rfl (hd ⟨0, .data⟩ (by simp) rfl)), by obtain ⟨e2, e3⟩ := RG.SX.put hI.world; exact ⟨w.heap.size, 0, hI.fix 4 (Reg.notD rfl) (by decide), e2, by show RG.SX b 145 14 (fun c_ g_ => pC sh hand fn g (if g_ = true then ⟨true, ix⟩ else t) ix l xb) bm bw n f' f' x w.heap.size (some q) w1 true (upd L 9 true 8) (upd L 9 true 9) _; rw [upd_same, upd_other _ _ (show 8 ≠ 9 by decide)]; exact e3⟩⟩)
      | 10, _ => injection ho with ho; subst ho; exact RG.Does.read rfl (fun L v_ w' h => RG.SX.skip2 (by decide) (by decide) h) (fun L a w' hI hd => ex_assign rfl (hI.pure 8 _ _ rfl (hd ⟨8, .data⟩ (by simp) rfl)))
    case fin =>
      intro L a' w' hI hall
      rename_i K2 hK2
      refine hK2 _ _ ?_
      have hw := hI.world
      simp only [hall 8 (by decide), hall 9 (by decide)] at hw
      have rE := hw.sto rfl
      have pE : a'.eval (.tmp 4) = .pointer (some ⟨w.heap.size, 0, none⟩) := hI.fix 4 (Reg.notD rfl) (by decide)
      have pe : a'.eval (.tmp 5) = .int .i64 1 := hI.pure 10 5 _ rfl (hall 10 (by decide))
      have hdf : a'.defers = [] := hI.df
      have hS := run_loadVar_mid (P := Try.prog) w' w.heap.size 0 _ _ dS rE HD.out.1 HD.out.2 size46
      have hres := results_ct (Q := Try.prog) (fn := Try.f123) (tmps := a'.tmps) (t := 4) (t' := 5) (W := w') (by rfl) pE hS
      rw [show a'.tmps.getD 5 undef = .int .i64 1 from pe] at hres
      go_wp2
      exact bodyPost_ret (v := .tuple #[x.val, .int .i64 1]) hres hdf ⟨rfl, hw.row, by simpa using hw.mem, Tw1.out.trans' hw.tch (fun k hk h => by rcases h with h | h | h; exact .inl h; exact .inr h; omega)⟩
set_option maxHeartbeats 8000000 in
theorem take_no {w : World} {b bm bw n : Nat} {f f' : Nat → Int} {x : Stp} {hand g ix l xb : Int} {fn : Value} {t : Ans} {sh : Shp} (h_ : w.rowIs b 145 14 (pC sh hand fn g t ix l xb)) (hm : IsMem w bm bw n f) (h1 : b ≠ bm) (h2 : b ≠ bw) (hg : 0 ≤ g ∧ g ≤ 18446744073709551615) (hi : 0 ≤ ix ∧ ix < 4294967296) (hok : x.ok = false)
    (hx : stepOf n f ⟨hand, 5, 2, g, bmp g xb, true⟩ = x) (hf' : wordsOf n f ⟨hand, 5, 2, g, bmp g xb, true⟩ = f') :
    Calls Try.prog 123 #[.pointer (some ⟨b, 0, none⟩), .pointer (some ⟨bm, 0, none⟩)] w fun e w' => e = .returned (.tuple #[x.val, .int .i64 0]) ∧
      w'.rowIs b 145 14 (pC sh hand (.func (.func 75) #[.pointer (some ⟨b, 0, none⟩)] #[]) g t ix l xb) ∧ IsMem w' bm bw n f' ∧ Touch w w' (fun k => k = b ∨ k = bw) := by
  have hl := h_.lt
  have lw := hm.row.lt
  have lm := hm.head.lt
  have hn3 : w.heap.size ≠ b := by omega
  have hn4 : w.heap.size ≠ bw := by omega
  have hn5 : w.heap.size ≠ bm := by omega
  obtain ⟨W1, hW1⟩ : ∃ W1, w.alloc (.cells #[.int .i64 0, .int .i64 0, .int .i64 0, .int .u64 0, .int .u64 0, .bool false] 63) = W1 := ⟨_, rfl⟩
  have R := hide (show W1.rowIs b 145 14 (pC sh hand fn g t ix l xb) from by rw [← hW1]; exact h_.alloc _)
  have M := hide (show IsMem W1 bm bw n f from by rw [← hW1]; exact hm.alloc _)
  have RZ := hide (show W1.rowIs w.heap.size 63 6 zcell from by rw [← hW1]; exact row0 w)
  have T0 := hide (show Touch w W1 (fun k => k = b ∨ k = bw) from by rw [← hW1]; exact (Touch.refl w _).alloc _)
  have sz : W1.heap.size = w.heap.size + 1 := by rw [← hW1]; simp
  have lW1 : b < W1.heap.size := by omega
  obtain ⟨⟨e0, ef0⟩, ⟨e1, ef1⟩, ⟨e2, ef2⟩, ⟨e3, ef3⟩, ⟨e4, ef4⟩, ⟨e5, ef5⟩, ⟨e6, ef6⟩, ⟨e7, ef7⟩, ⟨e8, ef8⟩, ⟨e9, ef9⟩, ⟨e10, ef10⟩, ⟨e11, ef11⟩, ⟨e12, ef12⟩, e13, ef13⟩ := p_facts R.out
  obtain ⟨dS, hdS1, hdS2⟩ := row46
  have HD := hide (And.intro hdS1 hdS2)
  have HX := hide hx
  have HF := hide hf'
  have HW : Hid (0 ≤ (⟨hand, 5, 2, g, bmp g xb, true⟩ : Stp).put ∧ (⟨hand, 5, 2, g, bmp g xb, true⟩ : Stp).put ≤ 18446744073709551615) := ⟨bmp_lo _ _, bmp_hi _ _⟩
  have HOK := hide hok
  have HG := hide hg
  have HI := hide hi
  clear hm h_ hx hf' hdS1 hdS2 hok hg hi
  go_enter Try.func123, Try.ntmps123
  go_wp2_with fail
  clear hW1 e0 ef0 e1 ef1 e2 ef2 e3 ef3 e4 ef4 e5 ef5 e6 ef6 e7 ef7 e8 ef8 e9 ef9 e10 ef10 e11 ef11 e12 ef12 e13 ef13
  refine RG.region (ks := [(0, 7), (1, 8), (2, 9), (3, 10), (4, 11), (5, 12), (6, 13), (7, 14), (8, 15)]) (vals := fun i => match i with
      | 0 => .pointer (some ⟨b, 0, none⟩)
      | 1 => .pointer (some ⟨b, 0, none⟩)
      | 2 => .pointer (some ⟨b, 0, none⟩)
      | 3 => .pointer (some ⟨bm, 0, none⟩)
      | 4 => .pointer (some ⟨b, 0, none⟩)
      | 5 => .pointer (some ⟨b, 0, none⟩)
      | 6 => .pointer (some ⟨b, 13, none⟩)
      | 7 => .int .i64 xb
      | 8 => .agg #[.int .i64 x.hand, .int .i64 x.act, .int .i64 x.at_, .int .u64 x.had, .int .u64 x.put, .bool x.ok]
      | _ => undef) (x := 6) (WI := fun L v_ w' => RG.SW b 145 14 (pC sh hand fn g t ix l xb) bm bw n f f' x w.heap.size W1 (L 8) (L 9) (L 10) v_ w') (by kernel_rfl) ?gg ?bk rfl ?dd ?xx (RG.SW.start R.out M.out RZ.out) ?does ?fin
  case gg =>
    intro i o ho
    have hi : i < 11 := by have := (Array.getElem?_eq_some_iff.1 ho).1; simpa using this
    match i, hi with
    | 0, _ | 1, _ | 2, _ | 3, _ | 4, _ | 5, _ | 6, _ | 7, _ | 8, _ | 9, _ | 10, _ => injection ho with ho; subst ho; rfl
  case bk =>
    intro i o ho
    have hi : i < 11 := by have := (Array.getElem?_eq_some_iff.1 ho).1; simpa using this
    match i, hi with
    | 0, _ | 1, _ | 2, _ | 3, _ | 4, _ | 5, _ | 6, _ | 7, _ | 8, _ | 9, _ | 10, _ => injection ho with ho; subst ho; simp [Region.binds]
  case dd =>
    intro k hk
    have hk' : k < 35 := by
      simp [RetN.D] at hk
      omega
    simpa using hk'
  case xx => simp
  case does =>
    intro i o ho
    have hi : i < 11 := by have := (Array.getElem?_eq_some_iff.1 ho).1; simpa using this
    match i, hi with
    | 0, _ => injection ho with ho; subst ho; exact RG.Does.read rfl (fun L v_ w' h => RG.SW.skip (by decide) (by decide) (by decide) h) (fun L a w' hI hd => ex_move rfl (hI.fix 0 (Reg.notD rfl) (by decide)))
    | 1, _ => injection ho with ho; subst ho; exact RG.Does.read rfl (fun L v_ w' h => RG.SW.skip (by decide) (by decide) (by decide) h) (fun L a w' hI hd => ex_nil rfl (hI.pure 0 _ _ rfl (hd ⟨0, .data⟩ (by simp) rfl)))
    | 2, _ => injection ho with ho; subst ho; exact RG.Does.read rfl (fun L v_ w' h => RG.SW.skip (by decide) (by decide) (by decide) h) (fun L a w' hI hd => ex_field rfl (hI.pure 1 _ _ rfl (hd ⟨1, .data⟩ (by simp) rfl)) (fieldP0 w' _))
    | 3, _ => injection ho with ho; subst ho; exact RG.Does.read rfl (fun L v_ w' h => RG.SW.skip (by decide) (by decide) (by decide) h) (fun L a w' hI hd => ex_move rfl (hI.fix 1 (Reg.notD rfl) (by decide)))
    | 4, _ => injection ho with ho; subst ho; exact RG.Does.read rfl (fun L v_ w' h => RG.SW.skip (by decide) (by decide) (by decide) h) (fun L a w' hI hd => ex_move rfl (hI.fix 0 (Reg.notD rfl) (by decide)))
    | 5, _ => injection ho with ho; subst ho; exact RG.Does.read rfl (fun L v_ w' h => RG.SW.skip (by decide) (by decide) (by decide) h) (fun L a w' hI hd => ex_nil rfl (hI.pure 4 _ _ rfl (hd ⟨4, .data⟩ (by simp) rfl)))
    | 6, _ => injection ho with ho; subst ho; exact RG.Does.read rfl (fun L v_ w' h => RG.SW.skip (by decide) (by decide) (by decide) h) (fun L a w' hI hd => ex_field rfl (hI.pure 5 _ _ rfl (hd ⟨5, .data⟩ (by simp) rfl)) (fieldP4 w' _))
    | 7, _ => injection ho with ho; subst ho; exact RG.Does.read rfl (fun L v_ w' h => RG.SW.skip (by decide) (by decide) (by decide) h) (fun L a w' hI hd => ex_load rfl (hI.pure 6 _ _ rfl (hd ⟨6, .data⟩ (by simp) rfl)) (aggI w') (hI.world.row.cell (i := 13) (by omega)))
    | 8, _ => injection ho with ho; subst ho; exact RG.Does.call rfl (fun L a w' hI hd => call3 rfl (hI.pure 2 _ _ rfl (hd ⟨2, .data⟩ (by simp) rfl)) (hI.pure 3 _ _ rfl (hd ⟨3, .data⟩ (by simp) rfl)) (hI.pure 7 _ _ rfl (hd ⟨7, .data⟩ (by simp) rfl)) rfl (by simp [go_sem])) (SWcalls h2 hn4 (by decide) (by decide) (fun w2 R2 M2 => turnGrey_any (R2.cell (i := 0) (by omega)) (R2.cell (i := 2) (by omega)) R2.lt h2 HG.out M2 HX.out HF.out))
    | 9, _ => injection ho with ho; subst ho; exact RG.Does.make (u := fun w' => .pointer (some ⟨w'.heap.size, 0, none⟩)) rfl rfl (fun ev w' => alloc46 rfl) (fun L v_ w' h hL => by have := RG.SW.make h hL; rw [← upd_same L 9 true] at this; simpa only [upd_other _ _ (show 8 ≠ 9 by decide), upd_other _ _ (show 10 ≠ 9 by decide)] using this)
    | 10, _ => injection ho with ho; subst ho; exact RG.Does.put (ls := x.cells) rfl rfl rfl size46 (by simp [Stp.cells, Value.oneCell']) (fun L a w' hI hL hd => ⟨(hI.pure 8 _ _ rfl (hd ⟨8, .data⟩ (by simp) rfl)), by obtain ⟨q, e1, e2, e3⟩ := RG.SW.put hI.world (hd ⟨8, .data⟩ (by simp) rfl) (hd ⟨9, .data⟩ (by simp) rfl) hL; exact ⟨q, 0, e1, e2, by rw [← upd_same L 10 true] at e3; simpa only [upd_other _ _ (show 8 ≠ 10 by decide), upd_other _ _ (show 9 ≠ 10 by decide)] using e3⟩⟩)
  case fin =>
    intro L a' w1 hI hall
    have hw := hI.world
    simp only [hall 8 (by decide), hall 9 (by decide), hall 10 (by decide), if_true] at hw
    obtain ⟨q, hq, hq1, hq2, _, hr⟩ := hw.own rfl
    replace hr := hr rfl
    have ea := act_all a' 35 (by rw [hI.sz]; rfl) hI.df
    simp only [List.range, List.range.loop, List.map] at ea
    rw [hI.fix 0 (Reg.notD rfl) (by decide), hI.fix 1 (Reg.notD rfl) (by decide), hI.fix 2 (Reg.notD rfl) (by decide), hI.fix 3 (Reg.notD rfl) (by decide), hI.fix 4 (Reg.notD rfl) (by decide), hI.fix 5 (Reg.notD rfl) (by decide), hI.fix 16 (Reg.notD rfl) (by decide), hI.fix 17 (Reg.notD rfl) (by decide), hI.fix 18 (Reg.notD rfl) (by decide), hI.fix 19 (Reg.notD rfl) (by decide), hI.fix 20 (Reg.notD rfl) (by decide), hI.fix 21 (Reg.notD rfl) (by decide), hI.fix 22 (Reg.notD rfl) (by decide), hI.fix 23 (Reg.notD rfl) (by decide), hI.fix 24 (Reg.notD rfl) (by decide), hI.fix 25 (Reg.notD rfl) (by decide), hI.fix 26 (Reg.notD rfl) (by decide), hI.fix 27 (Reg.notD rfl) (by decide), hI.fix 28 (Reg.notD rfl) (by decide), hI.fix 29 (Reg.notD rfl) (by decide), hI.fix 30 (Reg.notD rfl) (by decide), hI.fix 31 (Reg.notD rfl) (by decide), hI.fix 32 (Reg.notD rfl) (by decide), hI.fix 33 (Reg.notD rfl) (by decide), hI.fix 34 (Reg.notD rfl) (by decide), hq] at ea
    clear hI hall
    generalize a'.eval (.tmp 7) = u7 at ea
    generalize a'.eval (.tmp 8) = u8 at ea
    generalize a'.eval (.tmp 9) = u9 at ea
    generalize a'.eval (.tmp 10) = u10 at ea
    generalize a'.eval (.tmp 11) = u11 at ea
    generalize a'.eval (.tmp 12) = u12 at ea
    generalize a'.eval (.tmp 13) = u13 at ea
    generalize a'.eval (.tmp 14) = u14 at ea
    generalize a'.eval (.tmp 15) = u15 at ea
    simp only [show ∀ (ts : Array Value) (ds) (i : Nat), (Act.mk ts ds).eval (.tmp i) = ts.getD i undef from fun _ _ _ => rfl] at ea
    simp at ea
    subst ea
    have M1 := hide (show IsMem w1 bm bw n f' from by simpa using hw.mem)
    have R1 := hide hw.row
    have RR := hide hw.res
    have T1 := hide (T0.out.trans' hw.tch (fun k _ h => .inr h))
    have RQ := hide hr
    have hqb : q ≠ b := by omega
    have hqr : q ≠ w.heap.size := by omega
    have hqm : q ≠ bm ∧ q ≠ bw := by omega
    have lw1 := hw.tch.size
    have l1 : b < w1.heap.size := by omega
    have l2 : w.heap.size < w1.heap.size := by omega
    have l3 : q < w1.heap.size := by omega
    clear hw hr hq
    have s0 : w1.cell? ⟨q, 0, none⟩ = some (.int .i64 x.hand) := by have := RQ.out 0 _ rfl; simpa using this
    have s1 : w1.cell? ⟨q, 1, none⟩ = some (.int .i64 x.act) := by have := RQ.out 1 _ rfl; simpa using this
    have s2 : w1.cell? ⟨q, 2, none⟩ = some (.int .i64 x.at_) := by have := RQ.out 2 _ rfl; simpa using this
    have s3 : w1.cell? ⟨q, 3, none⟩ = some (.int .u64 x.had) := by have := RQ.out 3 _ rfl; simpa using this
    have s4 : w1.cell? ⟨q, 4, none⟩ = some (.int .u64 x.put) := by have := RQ.out 4 _ rfl; simpa using this
    have s5 : w1.cell? ⟨q, 5, none⟩ = some (.bool x.ok) := by have := RQ.out 5 _ rfl; simpa using this
    have Rw1 := R1
    have Mw1 := M1
    have Qw1 := RR
    have Sw1 := RQ
    have Tw1 := T1
    have hok := HOK.out
    have s5' : w1.cell? ⟨q, 5, none⟩ = some (.bool false) := by rw [s5, hok]
    clear s5 hok
    go_wp2_with fail
    clear s0 s1 s2 s3 s4 s5'
    refine RG.region (ks := [(0, 19), (1, 20), (2, 21), (3, 22), (4, 23), (5, 24), (6, 25), (8, 5)]) (vals := fun i => match i with
          | 0 => .agg #[.int .i64 x.hand, .int .i64 x.act, .int .i64 x.at_, .int .u64 x.had, .int .u64 x.put, .bool x.ok]
          | 1 => .pointer (some ⟨b, 0, none⟩)
          | 2 => .pointer (some ⟨b, 0, none⟩)
          | 3 => .pointer (some ⟨b, 0, none⟩)
          | 4 => .pointer (some ⟨b, 0, none⟩)
          | 5 => .func (.func 75) #[.pointer (some ⟨b, 0, none⟩)] #[]
          | 6 => .int .i64 0
          | 8 => .int .i64 0
          | _ => undef) (x := 2) (WI := fun L v_ w' => RG.SX b 145 14 (fun c_ g_ => pC sh hand (if g_ = true then (.func (.func 75) #[.pointer (some ⟨b, 0, none⟩)] #[]) else fn) g t ix l xb) bm bw n f' f' x w.heap.size (some q) w1 true (L 6) (L 7) w') (by kernel_rfl) ?gg ?bk rfl ?dd ?xx (RG.SX.start (c := true) (g := false) Rw1.out (by simpa using Mw1.out) Qw1.out ⟨h1, h2, hn3, hn5, hn4⟩ (fun k e => by cases e; exact ⟨Sw1.out, by omega, hqb, hqm.2, hqr⟩)) ?does ?fin
    case gg =>
      intro i o ho
      have hi : i < 9 := by have := (Array.getElem?_eq_some_iff.1 ho).1; simpa using this
      match i, hi with
      | 0, _ | 1, _ | 2, _ | 3, _ | 4, _ | 5, _ | 6, _ | 7, _ | 8, _ => injection ho with ho; subst ho; rfl
    case bk =>
      intro i o ho
      have hi : i < 9 := by have := (Array.getElem?_eq_some_iff.1 ho).1; simpa using this
      match i, hi with
      | 0, _ | 1, _ | 2, _ | 3, _ | 4, _ | 5, _ | 6, _ | 7, _ | 8, _ => injection ho with ho; subst ho; simp [Region.binds]
    case dd =>
      intro k hk
      have hk' : k < 35 := by
        simp [RetN.D] at hk
        omega
      simpa using hk'
    case xx => simp
    case does =>
      intro i o ho
      have hi : i < 9 := by have := (Array.getElem?_eq_some_iff.1 ho).1; simpa using this
      match i, hi with
      | 0, _ => injection ho with ho; subst ho; exact RG.Does.read rfl (fun L v_ w' h => RG.SX.skip2 (by decide) (by decide) h) (fun L a w' hI hd => ex_load_row rfl (hI.fix 6 (Reg.notD rfl) (by decide)) (hI.world.var _ rfl).1 HD.out.1 HD.out.2 size46)
      | 1, _ => injection ho with ho; subst ho; exact RG.Does.read rfl (fun L v_ w' h => RG.SX.skip2 (by decide) (by decide) h) (fun L a w' hI hd => ex_move rfl (hI.fix 0 (Reg.notD rfl) (by decide)))
      | 2, _ => injection ho with ho; subst ho; exact RG.Does.read rfl (fun L v_ w' h => RG.SX.skip2 (by decide) (by decide) h) (fun L a w' hI hd => ex_nil rfl (hI.pure 1 _ _ rfl (hd ⟨1, .data⟩ (by simp) rfl)))
      | 3, _ => injection ho with ho; subst ho; exact RG.Does.read rfl (fun L v_ w' h => RG.SX.skip2 (by decide) (by decide) h) (fun L a w' hI hd => ex_field rfl (hI.pure 2 _ _ rfl (hd ⟨2, .data⟩ (by simp) rfl)) (fieldP0 w' _))
      | 4, _ => injection ho with ho; subst ho; exact RG.Does.read rfl (fun L v_ w' h => RG.SX.skip2 (by decide) (by decide) h) (fun L a w' hI hd => ex_move rfl (hI.fix 0 (Reg.notD rfl) (by decide)))
      | 5, _ => injection ho with ho; subst ho; exact RG.Does.read rfl (fun L v_ w' h => RG.SX.skip2 (by decide) (by decide) h) (fun L a w' hI hd => ex_func rfl (hI.pure 4 _ _ rfl (hd ⟨4, .data⟩ (by simp) rfl)))
      | 6, _ => injection ho with ho; subst ho; exact RG.Does.call rfl (fun L a w' hI hd => call2 rfl (hI.pure 3 _ _ rfl (hd ⟨3, .data⟩ (by simp) rfl)) (hI.pure 5 _ _ rfl (hd ⟨5, .data⟩ (by simp) rfl)) rfl (by simp [go_sem])) (fun L v_ w2 hI hL => by have h3 := hI; rw [hL] at h3; refine (goOn_any 75 h3.row (by omega)).mono ?_; rintro e w3 ⟨rfl, r3, t3⟩; refine ⟨rfl, ?_⟩; rw [upd_same, upd_other _ _ (show 7 ≠ 6 by decide)]; exact h3.turn (g' := true) (r3.congr (fun i hi => p_fn _ _ _ _ _ _ _ _ _ i hi)) ⟨h3.mem.head.of_block (t3.block _ h3.mem.head.lt (fun e => h1 e.symm)), h3.mem.row.of_block (t3.block _ h3.mem.row.lt (fun e => h2 e.symm)), h3.mem.most, h3.mem.word⟩ t3 (fun k e => .inl e))
      | 7, _ => injection ho with ho; subst ho; exact RG.Does.put (ls := x.cells) rfl rfl rfl size46 (by simp [Stp.cells, Value.oneCell']) (fun L a w' hI hL hd => ⟨(hI.pure 0 _ _ rfl (hd ⟨0, .data⟩ (by simp) rfl)), by obtain ⟨e2, e3⟩ := RG.SX.put hI.world; exact ⟨w.heap.size, 0, hI.fix 4 (Reg.notD rfl) (by decide), e2, by show RG.SX b 145 14 (fun c_ g_ => pC sh hand (if g_ = true then (.func (.func 75) #[.pointer (some ⟨b, 0, none⟩)] #[]) else fn) g t ix l xb) bm bw n f' f' x w.heap.size (some q) w1 true (upd L 7 true 6) (upd L 7 true 7) _; rw [upd_same, upd_other _ _ (show 6 ≠ 7 by decide)]; exact e3⟩⟩)
      | 8, _ => injection ho with ho; subst ho; exact RG.Does.read rfl (fun L v_ w' h => RG.SX.skip2 (by decide) (by decide) h) (fun L a w' hI hd => ex_assign rfl (hI.pure 6 _ _ rfl (hd ⟨6, .data⟩ (by simp) rfl)))
    case fin =>
      intro L a' w' hI hall
      rename_i K2 hK2
      refine hK2 _ _ ?_
      have hw := hI.world
      simp only [hall 6 (by decide), hall 7 (by decide)] at hw
      have rE := hw.sto rfl
      have pE : a'.eval (.tmp 4) = .pointer (some ⟨w.heap.size, 0, none⟩) := hI.fix 4 (Reg.notD rfl) (by decide)
      have pe : a'.eval (.tmp 5) = .int .i64 0 := hI.pure 8 5 _ rfl (hall 8 (by decide))
      have hdf : a'.defers = [] := hI.df
      have hS := run_loadVar_mid (P := Try.prog) w' w.heap.size 0 _ _ dS rE HD.out.1 HD.out.2 size46
      have hres := results_ct (Q := Try.prog) (fn := Try.f123) (tmps := a'.tmps) (t := 4) (t' := 5) (W := w') (by rfl) pE hS
      rw [show a'.tmps.getD 5 undef = .int .i64 0 from pe] at hres
      go_wp2
      exact bodyPost_ret (v := .tuple #[x.val, .int .i64 0]) hres hdf ⟨rfl, hw.row, by simpa using hw.mem, Tw1.out.trans' hw.tch (fun k hk h => by rcases h with h | h | h; exact .inl h; exact .inr h; omega)⟩
set_option maxHeartbeats 8000000 in
theorem peek_any {w : World} {b bm bw n : Nat} {f f' : Nat → Int} {x : Stp} {hand g ix l xb : Int} {fn : Value} {t : Ans} {sh : Shp} (h_ : w.rowIs b 145 14 (pC sh hand fn g t ix l xb)) (hm : IsMem w bm bw n f) (h1 : b ≠ bm) (h2 : b ≠ bw) (hxh : 0 ≤ x.had ∧ x.had ≤ 18446744073709551615)
    (hx : stepOf n f ⟨hand, 1, l, 0, 0, true⟩ = x) (hf' : wordsOf n f ⟨hand, 1, l, 0, 0, true⟩ = f') :
    Calls Try.prog 104 #[.pointer (some ⟨b, 0, none⟩), .pointer (some ⟨bm, 0, none⟩)] w fun e w' => e = .returned (.tuple #[x.val, .int .i64 0]) ∧
      w'.rowIs b 145 14 (pC sh hand (.func (.func 123) #[.pointer (some ⟨b, 0, none⟩)] #[]) g t ix l (idx x.had)) ∧ IsMem w' bm bw n f' ∧ Touch w w' (fun k => k = b ∨ k = bw) := by
  have hl := h_.lt
  have lw := hm.row.lt
  have lm := hm.head.lt
  have hn3 : w.heap.size ≠ b := by omega
  have hn4 : w.heap.size ≠ bw := by omega
  have hn5 : w.heap.size ≠ bm := by omega
  obtain ⟨W1, hW1⟩ : ∃ W1, w.alloc (.cells #[.int .i64 0, .int .i64 0, .int .i64 0, .int .u64 0, .int .u64 0, .bool false] 63) = W1 := ⟨_, rfl⟩
  have R := hide (show W1.rowIs b 145 14 (pC sh hand fn g t ix l xb) from by rw [← hW1]; exact h_.alloc _)
  have M := hide (show IsMem W1 bm bw n f from by rw [← hW1]; exact hm.alloc _)
  have RZ := hide (show W1.rowIs w.heap.size 63 6 zcell from by rw [← hW1]; exact row0 w)
  have T0 := hide (show Touch w W1 (fun k => k = b ∨ k = bw) from by rw [← hW1]; exact (Touch.refl w _).alloc _)
  have sz : W1.heap.size = w.heap.size + 1 := by rw [← hW1]; simp
  have lW1 : b < W1.heap.size := by omega
  obtain ⟨⟨e0, ef0⟩, ⟨e1, ef1⟩, ⟨e2, ef2⟩, ⟨e3, ef3⟩, ⟨e4, ef4⟩, ⟨e5, ef5⟩, ⟨e6, ef6⟩, ⟨e7, ef7⟩, ⟨e8, ef8⟩, ⟨e9, ef9⟩, ⟨e10, ef10⟩, ⟨e11, ef11⟩, ⟨e12, ef12⟩, e13, ef13⟩ := p_facts R.out
  obtain ⟨dS, hdS1, hdS2⟩ := row46
  have HD := hide (And.intro hdS1 hdS2)
  have HX := hide hx
  have HF := hide hf'
  have HW : Hid (0 ≤ (⟨hand, 1, l, 0, 0, true⟩ : Stp).put ∧ (⟨hand, 1, l, 0, 0, true⟩ : Stp).put ≤ 18446744073709551615) := ⟨by show (0 : Int) ≤ 0; omega, by show (0 : Int) ≤ 18446744073709551615; omega⟩
  have IX := hide (fun w1 : World => index_any x.had hxh.1 (by omega) w1)
  clear hm h_ hx hf' hdS1 hdS2 hxh
  go_enter Try.func104, Try.ntmps104
  go_wp2_with fail
  clear hW1 e0 ef0 e1 ef1 e2 ef2 e3 ef3 e4 ef4 e5 ef5 e6 ef6 e7 ef7 e8 ef8 e9 ef9 e10 ef10 e11 ef11 e12 ef12 e13 ef13
  refine RG.region (ks := [(0, 7), (1, 8), (2, 9), (3, 10), (4, 11), (5, 12), (6, 13), (7, 14), (8, 15)]) (vals := fun i => match i with
      | 0 => .pointer (some ⟨b, 0, none⟩)
      | 1 => .pointer (some ⟨b, 0, none⟩)
      | 2 => .pointer (some ⟨b, 0, none⟩)
      | 3 => .pointer (some ⟨bm, 0, none⟩)
      | 4 => .pointer (some ⟨b, 0, none⟩)
      | 5 => .pointer (some ⟨b, 0, none⟩)
      | 6 => .pointer (some ⟨b, 12, none⟩)
      | 7 => .int .i64 l
      | 8 => .agg #[.int .i64 x.hand, .int .i64 x.act, .int .i64 x.at_, .int .u64 x.had, .int .u64 x.put, .bool x.ok]
      | _ => undef) (x := 6) (WI := fun L v_ w' => RG.SW b 145 14 (pC sh hand fn g t ix l xb) bm bw n f f' x w.heap.size W1 (L 8) (L 9) (L 10) v_ w') (by kernel_rfl) ?gg ?bk rfl ?dd ?xx (RG.SW.start R.out M.out RZ.out) ?does ?fin
  case gg =>
    intro i o ho
    have hi : i < 11 := by have := (Array.getElem?_eq_some_iff.1 ho).1; simpa using this
    match i, hi with
    | 0, _ | 1, _ | 2, _ | 3, _ | 4, _ | 5, _ | 6, _ | 7, _ | 8, _ | 9, _ | 10, _ => injection ho with ho; subst ho; rfl
  case bk =>
    intro i o ho
    have hi : i < 11 := by have := (Array.getElem?_eq_some_iff.1 ho).1; simpa using this
    match i, hi with
    | 0, _ | 1, _ | 2, _ | 3, _ | 4, _ | 5, _ | 6, _ | 7, _ | 8, _ | 9, _ | 10, _ => injection ho with ho; subst ho; simp [Region.binds]
  case dd =>
    intro k hk
    have hk' : k < 29 := by
      simp [RetN.D] at hk
      omega
    simpa using hk'
  case xx => simp
  case does =>
    intro i o ho
    have hi : i < 11 := by have := (Array.getElem?_eq_some_iff.1 ho).1; simpa using this
    match i, hi with
    | 0, _ => injection ho with ho; subst ho; exact RG.Does.read rfl (fun L v_ w' h => RG.SW.skip (by decide) (by decide) (by decide) h) (fun L a w' hI hd => ex_move rfl (hI.fix 0 (Reg.notD rfl) (by decide)))
    | 1, _ => injection ho with ho; subst ho; exact RG.Does.read rfl (fun L v_ w' h => RG.SW.skip (by decide) (by decide) (by decide) h) (fun L a w' hI hd => ex_nil rfl (hI.pure 0 _ _ rfl (hd ⟨0, .data⟩ (by simp) rfl)))
    | 2, _ => injection ho with ho; subst ho; exact RG.Does.read rfl (fun L v_ w' h => RG.SW.skip (by decide) (by decide) (by decide) h) (fun L a w' hI hd => ex_field rfl (hI.pure 1 _ _ rfl (hd ⟨1, .data⟩ (by simp) rfl)) (fieldP0 w' _))
    | 3, _ => injection ho with ho; subst ho; exact RG.Does.read rfl (fun L v_ w' h => RG.SW.skip (by decide) (by decide) (by decide) h) (fun L a w' hI hd => ex_move rfl (hI.fix 1 (Reg.notD rfl) (by decide)))
    | 4, _ => injection ho with ho; subst ho; exact RG.Does.read rfl (fun L v_ w' h => RG.SW.skip (by decide) (by decide) (by decide) h) (fun L a w' hI hd => ex_move rfl (hI.fix 0 (Reg.notD rfl) (by decide)))
    | 5, _ => injection ho with ho; subst ho; exact RG.Does.read rfl (fun L v_ w' h => RG.SW.skip (by decide) (by decide) (by decide) h) (fun L a w' hI hd => ex_nil rfl (hI.pure 4 _ _ rfl (hd ⟨4, .data⟩ (by simp) rfl)))
    | 6, _ => injection ho with ho; subst ho; exact RG.Does.read rfl (fun L v_ w' h => RG.SW.skip (by decide) (by decide) (by decide) h) (fun L a w' hI hd => ex_field rfl (hI.pure 5 _ _ rfl (hd ⟨5, .data⟩ (by simp) rfl)) (fieldP3 w' _))
    | 7, _ => injection ho with ho; subst ho; exact RG.Does.read rfl (fun L v_ w' h => RG.SW.skip (by decide) (by decide) (by decide) h) (fun L a w' hI hd => ex_load rfl (hI.pure 6 _ _ rfl (hd ⟨6, .data⟩ (by simp) rfl)) (aggI w') (hI.world.row.cell (i := 12) (by omega)))
    | 8, _ => injection ho with ho; subst ho; exact RG.Does.call rfl (fun L a w' hI hd => call3 rfl (hI.pure 2 _ _ rfl (hd ⟨2, .data⟩ (by simp) rfl)) (hI.pure 3 _ _ rfl (hd ⟨3, .data⟩ (by simp) rfl)) (hI.pure 7 _ _ rfl (hd ⟨7, .data⟩ (by simp) rfl)) rfl (by simp [go_sem])) (SWcalls h2 hn4 (by decide) (by decide) (fun w2 R2 M2 => load_any (R2.cell (i := 0) (by omega)) R2.lt M2 HW.out HX.out HF.out))
    | 9, _ => injection ho with ho; subst ho; exact RG.Does.make (u := fun w' => .pointer (some ⟨w'.heap.size, 0, none⟩)) rfl rfl (fun ev w' => alloc46 rfl) (fun L v_ w' h hL => by have := RG.SW.make h hL; rw [← upd_same L 9 true] at this; simpa only [upd_other _ _ (show 8 ≠ 9 by decide), upd_other _ _ (show 10 ≠ 9 by decide)] using this)
    | 10, _ => injection ho with ho; subst ho; exact RG.Does.put (ls := x.cells) rfl rfl rfl size46 (by simp [Stp.cells, Value.oneCell']) (fun L a w' hI hL hd => ⟨(hI.pure 8 _ _ rfl (hd ⟨8, .data⟩ (by simp) rfl)), by obtain ⟨q, e1, e2, e3⟩ := RG.SW.put hI.world (hd ⟨8, .data⟩ (by simp) rfl) (hd ⟨9, .data⟩ (by simp) rfl) hL; exact ⟨q, 0, e1, e2, by rw [← upd_same L 10 true] at e3; simpa only [upd_other _ _ (show 8 ≠ 10 by decide), upd_other _ _ (show 9 ≠ 10 by decide)] using e3⟩⟩)
  case fin =>
    intro L a' w1 hI hall
    have hw := hI.world
    simp only [hall 8 (by decide), hall 9 (by decide), hall 10 (by decide), if_true] at hw
    obtain ⟨q, hq, hq1, hq2, _, hr⟩ := hw.own rfl
    replace hr := hr rfl
    have ea := act_all a' 29 (by rw [hI.sz]; rfl) hI.df
    simp only [List.range, List.range.loop, List.map] at ea
    rw [hI.fix 0 (Reg.notD rfl) (by decide), hI.fix 1 (Reg.notD rfl) (by decide), hI.fix 2 (Reg.notD rfl) (by decide), hI.fix 3 (Reg.notD rfl) (by decide), hI.fix 4 (Reg.notD rfl) (by decide), hI.fix 5 (Reg.notD rfl) (by decide), hI.fix 16 (Reg.notD rfl) (by decide), hI.fix 17 (Reg.notD rfl) (by decide), hI.fix 18 (Reg.notD rfl) (by decide), hI.fix 19 (Reg.notD rfl) (by decide), hI.fix 20 (Reg.notD rfl) (by decide), hI.fix 21 (Reg.notD rfl) (by decide), hI.fix 22 (Reg.notD rfl) (by decide), hI.fix 23 (Reg.notD rfl) (by decide), hI.fix 24 (Reg.notD rfl) (by decide), hI.fix 25 (Reg.notD rfl) (by decide), hI.fix 26 (Reg.notD rfl) (by decide), hI.fix 27 (Reg.notD rfl) (by decide), hI.fix 28 (Reg.notD rfl) (by decide), hq] at ea
    clear hI hall
    generalize a'.eval (.tmp 7) = u7 at ea
    generalize a'.eval (.tmp 8) = u8 at ea
    generalize a'.eval (.tmp 9) = u9 at ea
    generalize a'.eval (.tmp 10) = u10 at ea
    generalize a'.eval (.tmp 11) = u11 at ea
    generalize a'.eval (.tmp 12) = u12 at ea
    generalize a'.eval (.tmp 13) = u13 at ea
    generalize a'.eval (.tmp 14) = u14 at ea
    generalize a'.eval (.tmp 15) = u15 at ea
    simp only [show ∀ (ts : Array Value) (ds) (i : Nat), (Act.mk ts ds).eval (.tmp i) = ts.getD i undef from fun _ _ _ => rfl] at ea
    simp at ea
    subst ea
    have M1 := hide (show IsMem w1 bm bw n f' from by simpa using hw.mem)
    have R1 := hide hw.row
    have RR := hide hw.res
    have T1 := hide (T0.out.trans' hw.tch (fun k _ h => .inr h))
    have RQ := hide hr
    have hqb : q ≠ b := by omega
    have hqr : q ≠ w.heap.size := by omega
    have hqm : q ≠ bm ∧ q ≠ bw := by omega
    have lw1 := hw.tch.size
    have l1 : b < w1.heap.size := by omega
    have l2 : w.heap.size < w1.heap.size := by omega
    have l3 : q < w1.heap.size := by omega
    clear hw hr hq
    have s0 : w1.cell? ⟨q, 0, none⟩ = some (.int .i64 x.hand) := by have := RQ.out 0 _ rfl; simpa using this
    have s1 : w1.cell? ⟨q, 1, none⟩ = some (.int .i64 x.act) := by have := RQ.out 1 _ rfl; simpa using this
    have s2 : w1.cell? ⟨q, 2, none⟩ = some (.int .i64 x.at_) := by have := RQ.out 2 _ rfl; simpa using this
    have s3 : w1.cell? ⟨q, 3, none⟩ = some (.int .u64 x.had) := by have := RQ.out 3 _ rfl; simpa using this
    have s4 : w1.cell? ⟨q, 4, none⟩ = some (.int .u64 x.put) := by have := RQ.out 4 _ rfl; simpa using this
    have s5 : w1.cell? ⟨q, 5, none⟩ = some (.bool x.ok) := by have := RQ.out 5 _ rfl; simpa using this
    have Rw1 := R1
    have Mw1 := M1
    have Qw1 := RR
    have Sw1 := RQ
    have Tw1 := T1
    have db := R1.out.cell (i := 13) (by omega)
    have dfb := R1.out.frozen 13
    obtain ⟨V, hV⟩ : ∃ W', w1.setCell ⟨b, 13, none⟩ (.int .i64 (x.had % 4294967296)) = W' := ⟨_, rfl⟩
    have tV : Touch w1 V (fun k => k = b) := by
      rw [← hV]
      exact Touch.trans' (S' := fun k => k = b) (⟨rfl, rfl, rfl, Nat.le_refl _, fun _ _ _ => rfl⟩ : Touch w1 w1 (fun k => k = b)) ((Touch.refl w1 _).setCell (S := fun k => k = b) ⟨b, 13, none⟩ (.inl rfl) _) (fun k _ h => h)
    have RV := hide (show V.rowIs b 145 14 (pC sh hand fn g t ix l (idx x.had)) from by
      rw [← hV]
      exact World.rowIs.congr (World.rowIs.set (show World.rowIs w1 b 145 14 _ from Rw1.out.of_block rfl) 13 _) (fun i hi => p_b _ _ _ _ _ _ _ _ _ i hi))
    have QV := hide (Qw1.out.of_block (tV.block _ (by omega) (by omega)))
    have MV := hide (show IsMem V bm bw n f' from ⟨Mw1.out.head.of_block (tV.block _ Mw1.out.head.lt (by omega)), Mw1.out.row.of_block (tV.block _ Mw1.out.row.lt (by omega)), Mw1.out.most, Mw1.out.word⟩)
    have TV := hide (show Touch w V (fun k => k = b ∨ k = bw) from Tw1.out.trans' tV (fun k _ h => .inl h))
    have SV := hide (rangeAt_block Sw1.out (tV.block q (by omega) (by omega)))
    have szV : V.heap.size = w1.heap.size := by rw [← hV] <;> first | (simp; done) | rfl | (simp; rfl)
    clear tV
    go_wp2_with (go_at_call 11; refine (IX.out _).mono ?_; rintro e wq ⟨rfl, hwq⟩; obtain rfl := hwq.symm)
    clear hV s0 s1 s2 s3 s4 s5 db dfb
    refine RG.region (ks := [(0, 22), (1, 23), (2, 24), (3, 25), (4, 26), (5, 27), (6, 28), (8, 5)]) (vals := fun i => match i with
          | 0 => .agg #[.int .i64 x.hand, .int .i64 x.act, .int .i64 x.at_, .int .u64 x.had, .int .u64 x.put, .bool x.ok]
          | 1 => .pointer (some ⟨b, 0, none⟩)
          | 2 => .pointer (some ⟨b, 0, none⟩)
          | 3 => .pointer (some ⟨b, 0, none⟩)
          | 4 => .pointer (some ⟨b, 0, none⟩)
          | 5 => .func (.func 123) #[.pointer (some ⟨b, 0, none⟩)] #[]
          | 6 => .int .i64 0
          | 8 => .int .i64 0
          | _ => undef) (x := 2) (WI := fun L v_ w' => RG.SX b 145 14 (fun c_ g_ => pC sh hand (if g_ = true then (.func (.func 123) #[.pointer (some ⟨b, 0, none⟩)] #[]) else fn) g t ix l (idx x.had)) bm bw n f' f' x w.heap.size (some q) V true (L 6) (L 7) w') (by kernel_rfl) ?gg ?bk rfl ?dd ?xx (RG.SX.start (c := true) (g := false) RV.out (by simpa using MV.out) QV.out ⟨h1, h2, hn3, hn5, hn4⟩ (fun k e => by cases e; exact ⟨SV.out, by omega, hqb, hqm.2, hqr⟩)) ?does ?fin
    case gg =>
      intro i o ho
      have hi : i < 9 := by have := (Array.getElem?_eq_some_iff.1 ho).1; simpa using this
      match i, hi with
      | 0, _ | 1, _ | 2, _ | 3, _ | 4, _ | 5, _ | 6, _ | 7, _ | 8, _ => injection ho with ho; subst ho; rfl
    case bk =>
      intro i o ho
      have hi : i < 9 := by have := (Array.getElem?_eq_some_iff.1 ho).1; simpa using this
      match i, hi with
      | 0, _ | 1, _ | 2, _ | 3, _ | 4, _ | 5, _ | 6, _ | 7, _ | 8, _ => injection ho with ho; subst ho; simp [Region.binds]
    case dd =>
      intro k hk
      have hk' : k < 29 := by
        simp [RetN.D] at hk
        omega
      simpa using hk'
    case xx => simp
    case does =>
      intro i o ho
      have hi : i < 9 := by have := (Array.getElem?_eq_some_iff.1 ho).1; simpa using this
      match i, hi with
      | 0, _ => injection ho with ho; subst ho; exact RG.Does.read rfl (fun L v_ w' h => RG.SX.skip2 (by decide) (by decide) h) (fun L a w' hI hd => ex_load_row rfl (hI.fix 6 (Reg.notD rfl) (by decide)) (hI.world.var _ rfl).1 HD.out.1 HD.out.2 size46)
      | 1, _ => injection ho with ho; subst ho; exact RG.Does.read rfl (fun L v_ w' h => RG.SX.skip2 (by decide) (by decide) h) (fun L a w' hI hd => ex_move rfl (hI.fix 0 (Reg.notD rfl) (by decide)))
      | 2, _ => injection ho with ho; subst ho; exact RG.Does.read rfl (fun L v_ w' h => RG.SX.skip2 (by decide) (by decide) h) (fun L a w' hI hd => ex_nil rfl (hI.pure 1 _ _ rfl (hd ⟨1, .data⟩ (by simp) rfl)))
      | 3, _ => injection ho with ho; subst ho; exact RG.Does.read rfl (fun L v_ w' h => RG.SX.skip2 (by decide) (by decide) h) (fun L a w' hI hd => ex_field rfl (hI.pure 2 _ _ rfl (hd ⟨2, .data⟩ (by simp) rfl)) (fieldP0 w' _))
      | 4, _ => injection ho with ho; subst ho; exact RG.Does.read rfl (fun L v_ w' h => RG.SX.skip2 (by decide) (by decide) h) (fun L a w' hI hd => ex_move rfl (hI.fix 0 (Reg.notD rfl) (by decide)))
      | 5, _ => injection ho with ho; subst ho; exact RG.Does.read rfl (fun L v_ w' h => RG.SX.skip2 (by decide) (by decide) h) (fun L a w' hI hd => ex_func rfl (hI.pure 4 _ _ rfl (hd ⟨4, .data⟩ (by simp) rfl)))
      | 6, _ => injection ho with ho; subst ho; exact RG.Does.call rfl (fun L a w' hI hd => call2 rfl (hI.pure 3 _ _ rfl (hd ⟨3, .data⟩ (by simp) rfl)) (hI.pure 5 _ _ rfl (hd ⟨5, .data⟩ (by simp) rfl)) rfl (by simp [go_sem])) (fun L v_ w2 hI hL => by have h3 := hI; rw [hL] at h3; refine (goOn_any 123 h3.row (by omega)).mono ?_; rintro e w3 ⟨rfl, r3, t3⟩; refine ⟨rfl, ?_⟩; rw [upd_same, upd_other _ _ (show 7 ≠ 6 by decide)]; exact h3.turn (g' := true) (r3.congr (fun i hi => p_fn _ _ _ _ _ _ _ _ _ i hi)) ⟨h3.mem.head.of_block (t3.block _ h3.mem.head.lt (fun e => h1 e.symm)), h3.mem.row.of_block (t3.block _ h3.mem.row.lt (fun e => h2 e.symm)), h3.mem.most, h3.mem.word⟩ t3 (fun k e => .inl e))
      | 7, _ => injection ho with ho; subst ho; exact RG.Does.put (ls := x.cells) rfl rfl rfl size46 (by simp [Stp.cells, Value.oneCell']) (fun L a w' hI hL hd => ⟨(hI.pure 0 _ _ rfl (hd ⟨0, .data⟩ (by simp) rfl)), by obtain ⟨e2, e3⟩ := RG.SX.put hI.world; exact ⟨w.heap.size, 0, hI.fix 4 (Reg.notD rfl) (by decide), e2, by show RG.SX b 145 14 (fun c_ g_ => pC sh hand (if g_ = true then (.func (.func 123) #[.pointer (some ⟨b, 0, none⟩)] #[]) else fn) g t ix l (idx x.had)) bm bw n f' f' x w.heap.size (some q) V true (upd L 7 true 6) (upd L 7 true 7) _; rw [upd_same, upd_other _ _ (show 6 ≠ 7 by decide)]; exact e3⟩⟩)
      | 8, _ => injection ho with ho; subst ho; exact RG.Does.read rfl (fun L v_ w' h => RG.SX.skip2 (by decide) (by decide) h) (fun L a w' hI hd => ex_assign rfl (hI.pure 6 _ _ rfl (hd ⟨6, .data⟩ (by simp) rfl)))
    case fin =>
      intro L a' w' hI hall
      rename_i K2 hK2
      refine hK2 _ _ ?_
      have hw := hI.world
      simp only [hall 6 (by decide), hall 7 (by decide)] at hw
      have rE := hw.sto rfl
      have pE : a'.eval (.tmp 4) = .pointer (some ⟨w.heap.size, 0, none⟩) := hI.fix 4 (Reg.notD rfl) (by decide)
      have pe : a'.eval (.tmp 5) = .int .i64 0 := hI.pure 8 5 _ rfl (hall 8 (by decide))
      have hdf : a'.defers = [] := hI.df
      have hS := run_loadVar_mid (P := Try.prog) w' w.heap.size 0 _ _ dS rE HD.out.1 HD.out.2 size46
      have hres := results_ct (Q := Try.prog) (fn := Try.f104) (tmps := a'.tmps) (t := 4) (t' := 5) (W := w') (by rfl) pE hS
      rw [show a'.tmps.getD 5 undef = .int .i64 0 from pe] at hres
      go_wp2
      exact bodyPost_ret (v := .tuple #[x.val, .int .i64 0]) hres hdf ⟨rfl, hw.row, by simpa using hw.mem, TV.out.trans' hw.tch (fun k hk h => by rcases h with h | h | h; exact .inl h; exact .inr h; omega)⟩
end Shd
end Go.Proofs.Ytnodkeoikamonaa
