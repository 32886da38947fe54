/-
  Lemmas: ShadeB.
-/
import Derived.Test.YtnodkeoikamonaaTw25
/-
  Shading and pulling: paint, meet, tie and lay.
-/
namespace Go.Proofs.Ytnodkeoikamonaa
open Go.RowKit
set_option linter.unusedVariables false
set_option linter.unusedSimpArgs false
set_option maxRecDepth 20000
namespace Shd
theorem do_row {w : World} {b T nc bm bw n : Nat} {C : Nat → Value} {f f' : Nat → Int} {x : Stp} (h : w.rowIs b T nc C) (h2 : b ≠ bw) (hm : IsMem w bm bw n f) (s : Stp) (hv : 0 ≤ s.put ∧ s.put ≤ 18446744073709551615) (hx : stepOf n f s = x) (hf' : wordsOf n f s = f') :
    Calls Try.prog 125 #[.pointer (some ⟨bm, 0, none⟩), .int .i64 s.hand, .int .i64 s.act, .int .i64 s.at_, .int .u64 s.had, .int .u64 s.put] w
      fun e w' => e = .returned x.val ∧ w'.rowIs b T nc C ∧ IsMem w' bm bw n f' ∧ Touch w w' (fun k => k = b ∨ k = bw) := by
  refine (do_mem hm s hv).mono ?_
  rintro e w' ⟨rfl, a1, a2⟩
  rw [hx]
  rw [hf'] at a1
  exact ⟨rfl, h.of_block (a2.block b h.lt (by simpa using h2)), a1, (Touch.refl w _).trans' (Touch.of_grown a2) (fun k _ e => .inr (by simpa using e))⟩
theorem m_fn (hand g i gn c h l v : Int) (fn fn' : Value) (t : Ans) (k : Nat) (hk : k < 11) : (fun k => if k = 1 then fn' else mC hand fn g t i gn c h l v k) k = mC hand fn' g t i gn c h l v k := by
  match k, hk with
  | 0, _ | 1, _ | 2, _ | 3, _ | 4, _ | 5, _ | 6, _ | 7, _ | 8, _ | 9, _ | 10, _ => rfl
theorem m_told (hand g i gn c h l v y : Int) (fn : Value) (t : Ans) (k : Nat) (hk : k < 11) : (fun k => if k = 4 then Value.int .u64 y else if k = 3 then .bool true else mC hand fn g t i gn c h l v k) k = mC hand fn g ⟨true, y⟩ i gn c h l v k := by
  match k, hk with
  | 0, _ | 1, _ | 2, _ | 3, _ | 4, _ | 5, _ | 6, _ | 7, _ | 8, _ | 9, _ | 10, _ => rfl
theorem m_g (hand g i gn c h l v y : Int) (fn : Value) (t : Ans) (k : Nat) (hk : k < 11) : (fun k => if k = 2 then Value.int .u64 y else mC hand fn g t i gn c h l v k) k = mC hand fn y t i gn c h l v k := by
  match k, hk with
  | 0, _ | 1, _ | 2, _ | 3, _ | 4, _ | 5, _ | 6, _ | 7, _ | 8, _ | 9, _ | 10, _ => rfl
theorem m_v (hand g i gn c h l v y : Int) (fn : Value) (t : Ans) (k : Nat) (hk : k < 11) : (fun k => if k = 10 then Value.int .u64 y else mC hand fn g t i gn c h l v k) k = mC hand fn g t i gn c h l y k := by
  match k, hk with
  | 0, _ | 1, _ | 2, _ | 3, _ | 4, _ | 5, _ | 6, _ | 7, _ | 8, _ | 9, _ | 10, _ => rfl
theorem p_fn (sh : Shp) (hand g i l xb : Int) (fn fn' : Value) (t : Ans) (k : Nat) (hk : k < 14) : (fun k => if k = 1 then fn' else pC sh hand fn g t i l xb k) k = pC sh hand fn' g t i l xb k := by
  match k, hk with
  | 0, _ | 1, _ | 2, _ | 3, _ | 4, _ | 5, _ | 6, _ | 7, _ | 8, _ | 9, _ | 10, _ | 11, _ | 12, _ | 13, _ => rfl
theorem p_told (sh : Shp) (hand g i l xb y : Int) (fn : Value) (t : Ans) (k : Nat) (hk : k < 14) : (fun k => if k = 4 then Value.int .u64 y else if k = 3 then .bool true else pC sh hand fn g t i l xb k) k = pC sh hand fn g ⟨true, y⟩ i l xb k := by
  match k, hk with
  | 0, _ | 1, _ | 2, _ | 3, _ | 4, _ | 5, _ | 6, _ | 7, _ | 8, _ | 9, _ | 10, _ | 11, _ | 12, _ | 13, _ => rfl
theorem p_g (sh : Shp) (hand g i l xb y : Int) (fn : Value) (t : Ans) (k : Nat) (hk : k < 14) : (fun k => if k = 2 then Value.int .u64 y else pC sh hand fn g t i l xb k) k = pC sh hand fn y t i l xb k := by
  match k, hk with
  | 0, _ | 1, _ | 2, _ | 3, _ | 4, _ | 5, _ | 6, _ | 7, _ | 8, _ | 9, _ | 10, _ | 11, _ | 12, _ | 13, _ => rfl
theorem p_i (sh : Shp) (hand g i l xb y : Int) (fn : Value) (t : Ans) (k : Nat) (hk : k < 14) : (fun k => if k = 11 then Value.int .i64 y else pC sh hand fn g t i l xb k) k = pC sh hand fn g t y l xb k := by
  match k, hk with
  | 0, _ | 1, _ | 2, _ | 3, _ | 4, _ | 5, _ | 6, _ | 7, _ | 8, _ | 9, _ | 10, _ | 11, _ | 12, _ | 13, _ => rfl
theorem p_l (sh : Shp) (hand g i l xb y : Int) (fn : Value) (t : Ans) (k : Nat) (hk : k < 14) : (fun k => if k = 12 then Value.int .i64 y else pC sh hand fn g t i l xb k) k = pC sh hand fn g t i y xb k := by
  match k, hk with
  | 0, _ | 1, _ | 2, _ | 3, _ | 4, _ | 5, _ | 6, _ | 7, _ | 8, _ | 9, _ | 10, _ | 11, _ | 12, _ | 13, _ => rfl
theorem p_b (sh : Shp) (hand g i l xb y : Int) (fn : Value) (t : Ans) (k : Nat) (hk : k < 14) : (fun k => if k = 13 then Value.int .i64 y else pC sh hand fn g t i l xb k) k = pC sh hand fn g t i l y k := by
  match k, hk with
  | 0, _ | 1, _ | 2, _ | 3, _ | 4, _ | 5, _ | 6, _ | 7, _ | 8, _ | 9, _ | 10, _ | 11, _ | 12, _ | 13, _ => rfl
set_option maxHeartbeats 8000000 in
theorem paint_yes {w : World} {b bm bw n : Nat} {f f' : Nat → Int} {x : Stp} {hand g ix gn c h l v : Int} {fn : Value} {t : Ans} (h_ : w.rowIs b 148 11 (mC hand fn g t ix gn c h l v)) (hm : IsMem w bm bw n f) (h1 : b ≠ bm) (h2 : b ≠ bw) (hv : 0 ≤ v ∧ v ≤ 18446744073709551615) (hok : x.ok = true)
    (hx : stepOf n f ⟨hand, 5, h, v, xr v, true⟩ = x) (hf' : wordsOf n f ⟨hand, 5, h, v, xr v, true⟩ = f') :
    Calls Try.prog 108 #[.pointer (some ⟨b, 0, none⟩), .pointer (some ⟨bm, 0, none⟩)] w fun e w' => e = .returned (.tuple #[x.val, .int .i64 0]) ∧
      w'.rowIs b 148 11 (mC hand (.func (.func 127) #[.pointer (some ⟨b, 0, none⟩)] #[]) g t ix gn c h l v) ∧ IsMem w' bm bw n f' ∧ Touch w w' (fun k => k = b ∨ k = bw) := by
  have hl := h_.lt
  have lw := hm.row.lt
  have lm := hm.head.lt
  have hn3 : w.heap.size ≠ b := by omega
  have hn4 : w.heap.size ≠ bw := by omega
  have hn5 : w.heap.size ≠ bm := by omega
  obtain ⟨W1, hW1⟩ : ∃ W1, w.alloc (.cells #[.int .i64 0, .int .i64 0, .int .i64 0, .int .u64 0, .int .u64 0, .bool false] 63) = W1 := ⟨_, rfl⟩
  have R := hide (show W1.rowIs b 148 11 (mC hand fn g t ix gn c h l v) from by rw [← hW1]; exact h_.alloc _)
  have M := hide (show IsMem W1 bm bw n f from by rw [← hW1]; exact hm.alloc _)
  have RZ := hide (show W1.rowIs w.heap.size 63 6 zcell from by rw [← hW1]; exact row0 w)
  have T0 := hide (show Touch w W1 (fun k => k = b ∨ k = bw) from by rw [← hW1]; exact (Touch.refl w _).alloc _)
  have sz : W1.heap.size = w.heap.size + 1 := by rw [← hW1]; simp
  have lW1 : b < W1.heap.size := by omega
  obtain ⟨⟨e0, ef0⟩, ⟨e1, ef1⟩, ⟨e2, ef2⟩, ⟨e3, ef3⟩, ⟨e4, ef4⟩, ⟨e5, ef5⟩, ⟨e6, ef6⟩, ⟨e7, ef7⟩, ⟨e8, ef8⟩, ⟨e9, ef9⟩, e10, ef10⟩ := m_facts R.out
  obtain ⟨dS, hdS1, hdS2⟩ := row46
  have HD := hide (And.intro hdS1 hdS2)
  have HX := hide hx
  have HF := hide hf'
  have HW : Hid (0 ≤ (⟨hand, 5, h, v, xr v, true⟩ : Stp).put ∧ (⟨hand, 5, h, v, xr v, true⟩ : Stp).put ≤ 18446744073709551615) := xr_wf hv
  have HOK := hide hok
  clear hm h_ hx hf' hdS1 hdS2 hok
  go_enter Try.func108, Try.ntmps108
  go_wp2_with fail
  clear hW1 e0 ef0 e1 ef1 e2 ef2 e3 ef3 e4 ef4 e5 ef5 e6 ef6 e7 ef7 e8 ef8 e9 ef9 e10 ef10
  refine RG.region (ks := [(0, 7), (1, 8), (2, 9), (3, 10), (4, 11), (5, 12), (6, 13), (7, 14), (8, 15), (9, 16), (10, 17), (11, 18), (12, 19), (13, 20), (14, 21), (15, 22), (16, 23), (17, 24)]) (vals := fun i => match i with
      | 0 => .pointer (some ⟨b, 0, none⟩)
      | 1 => .pointer (some ⟨b, 0, none⟩)
      | 2 => .pointer (some ⟨b, 0, none⟩)
      | 3 => .pointer (some ⟨bm, 0, none⟩)
      | 4 => .pointer (some ⟨b, 0, none⟩)
      | 5 => .pointer (some ⟨b, 0, none⟩)
      | 6 => .pointer (some ⟨b, 8, none⟩)
      | 7 => .int .i64 h
      | 8 => .pointer (some ⟨b, 0, none⟩)
      | 9 => .pointer (some ⟨b, 0, none⟩)
      | 10 => .pointer (some ⟨b, 10, none⟩)
      | 11 => .int .u64 v
      | 12 => .pointer (some ⟨b, 0, none⟩)
      | 13 => .pointer (some ⟨b, 0, none⟩)
      | 14 => .pointer (some ⟨b, 10, none⟩)
      | 15 => .int .u64 v
      | 16 => .int .u64 (xr v)
      | 17 => .agg #[.int .i64 x.hand, .int .i64 x.act, .int .i64 x.at_, .int .u64 x.had, .int .u64 x.put, .bool x.ok]
      | _ => undef) (x := 6) (WI := fun L v_ w' => RG.SW b 148 11 (mC hand fn g t ix gn c h l v) bm bw n f f' x w.heap.size W1 (L 17) (L 18) (L 19) v_ w') (by kernel_rfl) ?gg ?bk rfl ?dd ?xx (RG.SW.start R.out M.out RZ.out) ?does ?fin
  case gg =>
    intro i o ho
    have hi : i < 20 := by have := (Array.getElem?_eq_some_iff.1 ho).1; simpa using this
    match i, hi with
    | 0, _ | 1, _ | 2, _ | 3, _ | 4, _ | 5, _ | 6, _ | 7, _ | 8, _ | 9, _ | 10, _ | 11, _ | 12, _ | 13, _ | 14, _ | 15, _ | 16, _ | 17, _ | 18, _ | 19, _ => injection ho with ho; subst ho; rfl
  case bk =>
    intro i o ho
    have hi : i < 20 := by have := (Array.getElem?_eq_some_iff.1 ho).1; simpa using this
    match i, hi with
    | 0, _ | 1, _ | 2, _ | 3, _ | 4, _ | 5, _ | 6, _ | 7, _ | 8, _ | 9, _ | 10, _ | 11, _ | 12, _ | 13, _ | 14, _ | 15, _ | 16, _ | 17, _ | 18, _ | 19, _ => injection ho with ho; subst ho; simp [Region.binds]
  case dd =>
    intro k hk
    have hk' : k < 42 := by
      simp [RetN.D] at hk
      omega
    simpa using hk'
  case xx => simp
  case does =>
    intro i o ho
    have hi : i < 20 := by have := (Array.getElem?_eq_some_iff.1 ho).1; simpa using this
    match i, hi with
    | 0, _ => injection ho with ho; subst ho; exact RG.Does.read rfl (fun L v_ w' h => RG.SW.skip (by decide) (by decide) (by decide) h) (fun L a w' hI hd => ex_move rfl (hI.fix 0 (Reg.notD rfl) (by decide)))
    | 1, _ => injection ho with ho; subst ho; exact RG.Does.read rfl (fun L v_ w' h => RG.SW.skip (by decide) (by decide) (by decide) h) (fun L a w' hI hd => ex_nil rfl (hI.pure 0 _ _ rfl (hd ⟨0, .data⟩ (by simp) rfl)))
    | 2, _ => injection ho with ho; subst ho; exact RG.Does.read rfl (fun L v_ w' h => RG.SW.skip (by decide) (by decide) (by decide) h) (fun L a w' hI hd => ex_field rfl (hI.pure 1 _ _ rfl (hd ⟨1, .data⟩ (by simp) rfl)) (fieldM0 w' _))
    | 3, _ => injection ho with ho; subst ho; exact RG.Does.read rfl (fun L v_ w' h => RG.SW.skip (by decide) (by decide) (by decide) h) (fun L a w' hI hd => ex_move rfl (hI.fix 1 (Reg.notD rfl) (by decide)))
    | 4, _ => injection ho with ho; subst ho; exact RG.Does.read rfl (fun L v_ w' h => RG.SW.skip (by decide) (by decide) (by decide) h) (fun L a w' hI hd => ex_move rfl (hI.fix 0 (Reg.notD rfl) (by decide)))
    | 5, _ => injection ho with ho; subst ho; exact RG.Does.read rfl (fun L v_ w' h => RG.SW.skip (by decide) (by decide) (by decide) h) (fun L a w' hI hd => ex_nil rfl (hI.pure 4 _ _ rfl (hd ⟨4, .data⟩ (by simp) rfl)))
    | 6, _ => injection ho with ho; subst ho; exact RG.Does.read rfl (fun L v_ w' h => RG.SW.skip (by decide) (by decide) (by decide) h) (fun L a w' hI hd => ex_field rfl (hI.pure 5 _ _ rfl (hd ⟨5, .data⟩ (by simp) rfl)) (fieldM4 w' _))
    | 7, _ => injection ho with ho; subst ho; exact RG.Does.read rfl (fun L v_ w' h => RG.SW.skip (by decide) (by decide) (by decide) h) (fun L a w' hI hd => ex_load rfl (hI.pure 6 _ _ rfl (hd ⟨6, .data⟩ (by simp) rfl)) (aggI w') (hI.world.row.cell (i := 8) (by omega)))
    | 8, _ => injection ho with ho; subst ho; exact RG.Does.read rfl (fun L v_ w' h => RG.SW.skip (by decide) (by decide) (by decide) h) (fun L a w' hI hd => ex_move rfl (hI.fix 0 (Reg.notD rfl) (by decide)))
    | 9, _ => injection ho with ho; subst ho; exact RG.Does.read rfl (fun L v_ w' h => RG.SW.skip (by decide) (by decide) (by decide) h) (fun L a w' hI hd => ex_nil rfl (hI.pure 8 _ _ rfl (hd ⟨8, .data⟩ (by simp) rfl)))
    | 10, _ => injection ho with ho; subst ho; exact RG.Does.read rfl (fun L v_ w' h => RG.SW.skip (by decide) (by decide) (by decide) h) (fun L a w' hI hd => ex_field rfl (hI.pure 9 _ _ rfl (hd ⟨9, .data⟩ (by simp) rfl)) (fieldM6 w' _))
    | 11, _ => injection ho with ho; subst ho; exact RG.Does.read rfl (fun L v_ w' h => RG.SW.skip (by decide) (by decide) (by decide) h) (fun L a w' hI hd => ex_load rfl (hI.pure 10 _ _ rfl (hd ⟨10, .data⟩ (by simp) rfl)) (aggU w') (hI.world.row.cell (i := 10) (by omega)))
    | 12, _ => injection ho with ho; subst ho; exact RG.Does.read rfl (fun L v_ w' h => RG.SW.skip (by decide) (by decide) (by decide) h) (fun L a w' hI hd => ex_move rfl (hI.fix 0 (Reg.notD rfl) (by decide)))
    | 13, _ => injection ho with ho; subst ho; exact RG.Does.read rfl (fun L v_ w' h => RG.SW.skip (by decide) (by decide) (by decide) h) (fun L a w' hI hd => ex_nil rfl (hI.pure 12 _ _ rfl (hd ⟨12, .data⟩ (by simp) rfl)))
    | 14, _ => injection ho with ho; subst ho; exact RG.Does.read rfl (fun L v_ w' h => RG.SW.skip (by decide) (by decide) (by decide) h) (fun L a w' hI hd => ex_field rfl (hI.pure 13 _ _ rfl (hd ⟨13, .data⟩ (by simp) rfl)) (fieldM6 w' _))
    | 15, _ => injection ho with ho; subst ho; exact RG.Does.read rfl (fun L v_ w' h => RG.SW.skip (by decide) (by decide) (by decide) h) (fun L a w' hI hd => ex_load rfl (hI.pure 14 _ _ rfl (hd ⟨14, .data⟩ (by simp) rfl)) (aggU w') (hI.world.row.cell (i := 10) (by omega)))
    | 16, _ => injection ho with ho; subst ho; exact RG.Does.read rfl (fun L v_ w' h => RG.SW.skip (by decide) (by decide) (by decide) h) (fun L a w' hI hd => ex_xor rfl (hI.pure 15 _ _ rfl (hd ⟨15, .data⟩ (by simp) rfl)) rfl)
    | 17, _ => injection ho with ho; subst ho; exact RG.Does.call rfl (fun L a w' hI hd => call5 rfl (hI.pure 2 _ _ rfl (hd ⟨2, .data⟩ (by simp) rfl)) (hI.pure 3 _ _ rfl (hd ⟨3, .data⟩ (by simp) rfl)) (hI.pure 7 _ _ rfl (hd ⟨7, .data⟩ (by simp) rfl)) (hI.pure 11 _ _ rfl (hd ⟨11, .data⟩ (by simp) rfl)) (hI.pure 16 _ _ rfl (hd ⟨16, .data⟩ (by simp) rfl)) rfl (by simp [go_sem])) (SWcalls h2 hn4 (by decide) (by decide) (fun w2 R2 M2 => cas_any (R2.cell (i := 0) (by omega)) R2.lt M2 HW.out HX.out HF.out))
    | 18, _ => injection ho with ho; subst ho; exact RG.Does.make (u := fun w' => .pointer (some ⟨w'.heap.size, 0, none⟩)) rfl rfl (fun ev w' => alloc46 rfl) (fun L v_ w' h hL => by have := RG.SW.make h hL; rw [← upd_same L 18 true] at this; simpa only [upd_other _ _ (show 17 ≠ 18 by decide), upd_other _ _ (show 19 ≠ 18 by decide)] using this)
    | 19, _ => injection ho with ho; subst ho; exact RG.Does.put (ls := x.cells) rfl rfl rfl size46 (by simp [Stp.cells, Value.oneCell']) (fun L a w' hI hL hd => ⟨(hI.pure 17 _ _ rfl (hd ⟨17, .data⟩ (by simp) rfl)), by obtain ⟨q, e1, e2, e3⟩ := RG.SW.put hI.world (hd ⟨17, .data⟩ (by simp) rfl) (hd ⟨18, .data⟩ (by simp) rfl) hL; exact ⟨q, 0, e1, e2, by rw [← upd_same L 19 true] at e3; simpa only [upd_other _ _ (show 17 ≠ 19 by decide), upd_other _ _ (show 18 ≠ 19 by decide)] using e3⟩⟩)
  case fin =>
    intro L a' w1 hI hall
    have hw := hI.world
    simp only [hall 17 (by decide), hall 18 (by decide), hall 19 (by decide), if_true] at hw
    obtain ⟨q, hq, hq1, hq2, _, hr⟩ := hw.own rfl
    replace hr := hr rfl
    have ea := act_all a' 42 (by rw [hI.sz]; rfl) hI.df
    simp only [List.range, List.range.loop, List.map] at ea
    rw [hI.fix 0 (Reg.notD rfl) (by decide), hI.fix 1 (Reg.notD rfl) (by decide), hI.fix 2 (Reg.notD rfl) (by decide), hI.fix 3 (Reg.notD rfl) (by decide), hI.fix 4 (Reg.notD rfl) (by decide), hI.fix 5 (Reg.notD rfl) (by decide), hI.fix 25 (Reg.notD rfl) (by decide), hI.fix 26 (Reg.notD rfl) (by decide), hI.fix 27 (Reg.notD rfl) (by decide), hI.fix 28 (Reg.notD rfl) (by decide), hI.fix 29 (Reg.notD rfl) (by decide), hI.fix 30 (Reg.notD rfl) (by decide), hI.fix 31 (Reg.notD rfl) (by decide), hI.fix 32 (Reg.notD rfl) (by decide), hI.fix 33 (Reg.notD rfl) (by decide), hI.fix 34 (Reg.notD rfl) (by decide), hI.fix 35 (Reg.notD rfl) (by decide), hI.fix 36 (Reg.notD rfl) (by decide), hI.fix 37 (Reg.notD rfl) (by decide), hI.fix 38 (Reg.notD rfl) (by decide), hI.fix 39 (Reg.notD rfl) (by decide), hI.fix 40 (Reg.notD rfl) (by decide), hI.fix 41 (Reg.notD rfl) (by decide), hq] at ea
    clear hI hall
    generalize a'.eval (.tmp 7) = u7 at ea
    generalize a'.eval (.tmp 8) = u8 at ea
    generalize a'.eval (.tmp 9) = u9 at ea
    generalize a'.eval (.tmp 10) = u10 at ea
    generalize a'.eval (.tmp 11) = u11 at ea
    generalize a'.eval (.tmp 12) = u12 at ea
    generalize a'.eval (.tmp 13) = u13 at ea
    generalize a'.eval (.tmp 14) = u14 at ea
    generalize a'.eval (.tmp 15) = u15 at ea
    generalize a'.eval (.tmp 16) = u16 at ea
    generalize a'.eval (.tmp 17) = u17 at ea
    generalize a'.eval (.tmp 18) = u18 at ea
    generalize a'.eval (.tmp 19) = u19 at ea
    generalize a'.eval (.tmp 20) = u20 at ea
    generalize a'.eval (.tmp 21) = u21 at ea
    generalize a'.eval (.tmp 22) = u22 at ea
    generalize a'.eval (.tmp 23) = u23 at ea
    generalize a'.eval (.tmp 24) = u24 at ea
    simp only [show ∀ (ts : Array Value) (ds) (i : Nat), (Act.mk ts ds).eval (.tmp i) = ts.getD i undef from fun _ _ _ => rfl] at ea
    simp at ea
    subst ea
    have M1 := hide (show IsMem w1 bm bw n f' from by simpa using hw.mem)
    have R1 := hide hw.row
    have RR := hide hw.res
    have T1 := hide (T0.out.trans' hw.tch (fun k _ h => .inr h))
    have RQ := hide hr
    have hqb : q ≠ b := by omega
    have hqr : q ≠ w.heap.size := by omega
    have hqm : q ≠ bm ∧ q ≠ bw := by omega
    have lw1 := hw.tch.size
    have l1 : b < w1.heap.size := by omega
    have l2 : w.heap.size < w1.heap.size := by omega
    have l3 : q < w1.heap.size := by omega
    clear hw hr hq
    have s0 : w1.cell? ⟨q, 0, none⟩ = some (.int .i64 x.hand) := by have := RQ.out 0 _ rfl; simpa using this
    have s1 : w1.cell? ⟨q, 1, none⟩ = some (.int .i64 x.act) := by have := RQ.out 1 _ rfl; simpa using this
    have s2 : w1.cell? ⟨q, 2, none⟩ = some (.int .i64 x.at_) := by have := RQ.out 2 _ rfl; simpa using this
    have s3 : w1.cell? ⟨q, 3, none⟩ = some (.int .u64 x.had) := by have := RQ.out 3 _ rfl; simpa using this
    have s4 : w1.cell? ⟨q, 4, none⟩ = some (.int .u64 x.put) := by have := RQ.out 4 _ rfl; simpa using this
    have s5 : w1.cell? ⟨q, 5, none⟩ = some (.bool x.ok) := by have := RQ.out 5 _ rfl; simpa using this
    have Rw1 := R1
    have Mw1 := M1
    have Qw1 := RR
    have Sw1 := RQ
    have Tw1 := T1
    have hok := HOK.out
    have s5' : w1.cell? ⟨q, 5, none⟩ = some (.bool true) := by rw [s5, hok]
    clear s5 hok
    go_wp2_with fail
    clear s0 s1 s2 s3 s4 s5'
    refine RG.region (ks := [(0, 35), (1, 36), (2, 37), (3, 38), (4, 39), (5, 40), (6, 41), (8, 5)]) (vals := fun i => match i with
          | 0 => .agg #[.int .i64 x.hand, .int .i64 x.act, .int .i64 x.at_, .int .u64 x.had, .int .u64 x.put, .bool x.ok]
          | 1 => .pointer (some ⟨b, 0, none⟩)
          | 2 => .pointer (some ⟨b, 0, none⟩)
          | 3 => .pointer (some ⟨b, 0, none⟩)
          | 4 => .pointer (some ⟨b, 0, none⟩)
          | 5 => .func (.func 127) #[.pointer (some ⟨b, 0, none⟩)] #[]
          | 6 => .int .i64 0
          | 8 => .int .i64 0
          | _ => undef) (x := 2) (WI := fun L v_ w' => RG.SX b 148 11 (fun c_ g_ => mC hand (if g_ = true then (.func (.func 127) #[.pointer (some ⟨b, 0, none⟩)] #[]) else fn) g t ix gn c h l v) bm bw n f' f' x w.heap.size (some q) w1 true (L 6) (L 7) w') (by kernel_rfl) ?gg ?bk rfl ?dd ?xx (RG.SX.start (c := true) (g := false) Rw1.out (by simpa using Mw1.out) Qw1.out ⟨h1, h2, hn3, hn5, hn4⟩ (fun k e => by cases e; exact ⟨Sw1.out, by omega, hqb, hqm.2, hqr⟩)) ?does ?fin
    case gg =>
      intro i o ho
      have hi : i < 9 := by have := (Array.getElem?_eq_some_iff.1 ho).1; simpa using this
      match i, hi with
      | 0, _ | 1, _ | 2, _ | 3, _ | 4, _ | 5, _ | 6, _ | 7, _ | 8, _ => injection ho with ho; subst ho; rfl
    case bk =>
      intro i o ho
      have hi : i < 9 := by have := (Array.getElem?_eq_some_iff.1 ho).1; simpa using this
      match i, hi with
      | 0, _ | 1, _ | 2, _ | 3, _ | 4, _ | 5, _ | 6, _ | 7, _ | 8, _ => injection ho with ho; subst ho; simp [Region.binds]
    case dd =>
      intro k hk
      have hk' : k < 42 := by
        simp [RetN.D] at hk
        omega
      simpa using hk'
    case xx => simp
    case does =>
      intro i o ho
      have hi : i < 9 := by have := (Array.getElem?_eq_some_iff.1 ho).1; simpa using this
      match i, hi with
      | 0, _ => injection ho with ho; subst ho; exact RG.Does.read rfl (fun L v_ w' h => RG.SX.skip2 (by decide) (by decide) h) (fun L a w' hI hd => ex_load_row rfl (hI.fix 6 (Reg.notD rfl) (by decide)) (hI.world.var _ rfl).1 HD.out.1 HD.out.2 size46)
      | 1, _ => injection ho with ho; subst ho; exact RG.Does.read rfl (fun L v_ w' h => RG.SX.skip2 (by decide) (by decide) h) (fun L a w' hI hd => ex_move rfl (hI.fix 0 (Reg.notD rfl) (by decide)))
      | 2, _ => injection ho with ho; subst ho; exact RG.Does.read rfl (fun L v_ w' h => RG.SX.skip2 (by decide) (by decide) h) (fun L a w' hI hd => ex_nil rfl (hI.pure 1 _ _ rfl (hd ⟨1, .data⟩ (by simp) rfl)))
      | 3, _ => injection ho with ho; subst ho; exact RG.Does.read rfl (fun L v_ w' h => RG.SX.skip2 (by decide) (by decide) h) (fun L a w' hI hd => ex_field rfl (hI.pure 2 _ _ rfl (hd ⟨2, .data⟩ (by simp) rfl)) (fieldM0 w' _))
      | 4, _ => injection ho with ho; subst ho; exact RG.Does.read rfl (fun L v_ w' h => RG.SX.skip2 (by decide) (by decide) h) (fun L a w' hI hd => ex_move rfl (hI.fix 0 (Reg.notD rfl) (by decide)))
      | 5, _ => injection ho with ho; subst ho; exact RG.Does.read rfl (fun L v_ w' h => RG.SX.skip2 (by decide) (by decide) h) (fun L a w' hI hd => ex_func rfl (hI.pure 4 _ _ rfl (hd ⟨4, .data⟩ (by simp) rfl)))
      | 6, _ => injection ho with ho; subst ho; exact RG.Does.call rfl (fun L a w' hI hd => call2 rfl (hI.pure 3 _ _ rfl (hd ⟨3, .data⟩ (by simp) rfl)) (hI.pure 5 _ _ rfl (hd ⟨5, .data⟩ (by simp) rfl)) rfl (by simp [go_sem])) (fun L v_ w2 hI hL => by have h3 := hI; rw [hL] at h3; refine (goOn_any 127 h3.row (by omega)).mono ?_; rintro e w3 ⟨rfl, r3, t3⟩; refine ⟨rfl, ?_⟩; rw [upd_same, upd_other _ _ (show 7 ≠ 6 by decide)]; exact h3.turn (g' := true) (r3.congr (fun i hi => m_fn _ _ _ _ _ _ _ _ _ _ _ i hi)) ⟨h3.mem.head.of_block (t3.block _ h3.mem.head.lt (fun e => h1 e.symm)), h3.mem.row.of_block (t3.block _ h3.mem.row.lt (fun e => h2 e.symm)), h3.mem.most, h3.mem.word⟩ t3 (fun k e => .inl e))
      | 7, _ => injection ho with ho; subst ho; exact RG.Does.put (ls := x.cells) rfl rfl rfl size46 (by simp [Stp.cells, Value.oneCell']) (fun L a w' hI hL hd => ⟨(hI.pure 0 _ _ rfl (hd ⟨0, .data⟩ (by simp) rfl)), by obtain ⟨e2, e3⟩ := RG.SX.put hI.world; exact ⟨w.heap.size, 0, hI.fix 4 (Reg.notD rfl) (by decide), e2, by show RG.SX b 148 11 (fun c_ g_ => mC hand (if g_ = true then (.func (.func 127) #[.pointer (some ⟨b, 0, none⟩)] #[]) else fn) g t ix gn c h l v) bm bw n f' f' x w.heap.size (some q) w1 true (upd L 7 true 6) (upd L 7 true 7) _; rw [upd_same, upd_other _ _ (show 6 ≠ 7 by decide)]; exact e3⟩⟩)
      | 8, _ => injection ho with ho; subst ho; exact RG.Does.read rfl (fun L v_ w' h => RG.SX.skip2 (by decide) (by decide) h) (fun L a w' hI hd => ex_assign rfl (hI.pure 6 _ _ rfl (hd ⟨6, .data⟩ (by simp) rfl)))
    case fin =>
      intro L a' w' hI hall
      rename_i K2 hK2
      refine hK2 _ _ ?_
      have hw := hI.world
      simp only [hall 6 (by decide), hall 7 (by decide)] at hw
      have rE := hw.sto rfl
      have pE : a'.eval (.tmp 4) = .pointer (some ⟨w.heap.size, 0, none⟩) := hI.fix 4 (Reg.notD rfl) (by decide)
      have pe : a'.eval (.tmp 5) = .int .i64 0 := hI.pure 8 5 _ rfl (hall 8 (by decide))
      have hdf : a'.defers = [] := hI.df
      have hS := run_loadVar_mid (P := Try.prog) w' w.heap.size 0 _ _ dS rE HD.out.1 HD.out.2 size46
      have hres := results_ct (Q := Try.prog) (fn := Try.f108) (tmps := a'.tmps) (t := 4) (t' := 5) (W := w') (by rfl) pE hS
      rw [show a'.tmps.getD 5 undef = .int .i64 0 from pe] at hres
      go_wp2
      exact bodyPost_ret (v := .tuple #[x.val, .int .i64 0]) hres hdf ⟨rfl, hw.row, by simpa using hw.mem, Tw1.out.trans' hw.tch (fun k hk h => by rcases h with h | h | h; exact .inl h; exact .inr h; omega)⟩
set_option maxHeartbeats 8000000 in
theorem paint_no {w : World} {b bm bw n : Nat} {f f' : Nat → Int} {x : Stp} {hand g ix gn c h l v : Int} {fn : Value} {t : Ans} (h_ : w.rowIs b 148 11 (mC hand fn g t ix gn c h l v)) (hm : IsMem w bm bw n f) (h1 : b ≠ bm) (h2 : b ≠ bw) (hv : 0 ≤ v ∧ v ≤ 18446744073709551615) (hok : x.ok = false)
    (hx : stepOf n f ⟨hand, 5, h, v, xr v, true⟩ = x) (hf' : wordsOf n f ⟨hand, 5, h, v, xr v, true⟩ = f') :
    Calls Try.prog 108 #[.pointer (some ⟨b, 0, none⟩), .pointer (some ⟨bm, 0, none⟩)] w fun e w' => e = .returned (.tuple #[x.val, .int .i64 0]) ∧
      w'.rowIs b 148 11 (mC hand (.func (.func 78) #[.pointer (some ⟨b, 0, none⟩)] #[]) g t ix gn c h l v) ∧ IsMem w' bm bw n f' ∧ Touch w w' (fun k => k = b ∨ k = bw) := by
  have hl := h_.lt
  have lw := hm.row.lt
  have lm := hm.head.lt
  have hn3 : w.heap.size ≠ b := by omega
  have hn4 : w.heap.size ≠ bw := by omega
  have hn5 : w.heap.size ≠ bm := by omega
  obtain ⟨W1, hW1⟩ : ∃ W1, w.alloc (.cells #[.int .i64 0, .int .i64 0, .int .i64 0, .int .u64 0, .int .u64 0, .bool false] 63) = W1 := ⟨_, rfl⟩
  have R := hide (show W1.rowIs b 148 11 (mC hand fn g t ix gn c h l v) from by rw [← hW1]; exact h_.alloc _)
  have M := hide (show IsMem W1 bm bw n f from by rw [← hW1]; exact hm.alloc _)
  have RZ := hide (show W1.rowIs w.heap.size 63 6 zcell from by rw [← hW1]; exact row0 w)
  have T0 := hide (show Touch w W1 (fun k => k = b ∨ k = bw) from by rw [← hW1]; exact (Touch.refl w _).alloc _)
  have sz : W1.heap.size = w.heap.size + 1 := by rw [← hW1]; simp
  have lW1 : b < W1.heap.size := by omega
  obtain ⟨⟨e0, ef0⟩, ⟨e1, ef1⟩, ⟨e2, ef2⟩, ⟨e3, ef3⟩, ⟨e4, ef4⟩, ⟨e5, ef5⟩, ⟨e6, ef6⟩, ⟨e7, ef7⟩, ⟨e8, ef8⟩, ⟨e9, ef9⟩, e10, ef10⟩ := m_facts R.out
  obtain ⟨dS, hdS1, hdS2⟩ := row46
  have HD := hide (And.intro hdS1 hdS2)
  have HX := hide hx
  have HF := hide hf'
  have HW : Hid (0 ≤ (⟨hand, 5, h, v, xr v, true⟩ : Stp).put ∧ (⟨hand, 5, h, v, xr v, true⟩ : Stp).put ≤ 18446744073709551615) := xr_wf hv
  have HOK := hide hok
  clear hm h_ hx hf' hdS1 hdS2 hok
  go_enter Try.func108, Try.ntmps108
  go_wp2_with fail
  clear hW1 e0 ef0 e1 ef1 e2 ef2 e3 ef3 e4 ef4 e5 ef5 e6 ef6 e7 ef7 e8 ef8 e9 ef9 e10 ef10
  refine RG.region (ks := [(0, 7), (1, 8), (2, 9), (3, 10), (4, 11), (5, 12), (6, 13), (7, 14), (8, 15), (9, 16), (10, 17), (11, 18), (12, 19), (13, 20), (14, 21), (15, 22), (16, 23), (17, 24)]) (vals := fun i => match i with
      | 0 => .pointer (some ⟨b, 0, none⟩)
      | 1 => .pointer (some ⟨b, 0, none⟩)
      | 2 => .pointer (some ⟨b, 0, none⟩)
      | 3 => .pointer (some ⟨bm, 0, none⟩)
      | 4 => .pointer (some ⟨b, 0, none⟩)
      | 5 => .pointer (some ⟨b, 0, none⟩)
      | 6 => .pointer (some ⟨b, 8, none⟩)
      | 7 => .int .i64 h
      | 8 => .pointer (some ⟨b, 0, none⟩)
      | 9 => .pointer (some ⟨b, 0, none⟩)
      | 10 => .pointer (some ⟨b, 10, none⟩)
      | 11 => .int .u64 v
      | 12 => .pointer (some ⟨b, 0, none⟩)
      | 13 => .pointer (some ⟨b, 0, none⟩)
      | 14 => .pointer (some ⟨b, 10, none⟩)
      | 15 => .int .u64 v
      | 16 => .int .u64 (xr v)
      | 17 => .agg #[.int .i64 x.hand, .int .i64 x.act, .int .i64 x.at_, .int .u64 x.had, .int .u64 x.put, .bool x.ok]
      | _ => undef) (x := 6) (WI := fun L v_ w' => RG.SW b 148 11 (mC hand fn g t ix gn c h l v) bm bw n f f' x w.heap.size W1 (L 17) (L 18) (L 19) v_ w') (by kernel_rfl) ?gg ?bk rfl ?dd ?xx (RG.SW.start R.out M.out RZ.out) ?does ?fin
  case gg =>
    intro i o ho
    have hi : i < 20 := by have := (Array.getElem?_eq_some_iff.1 ho).1; simpa using this
    match i, hi with
    | 0, _ | 1, _ | 2, _ | 3, _ | 4, _ | 5, _ | 6, _ | 7, _ | 8, _ | 9, _ | 10, _ | 11, _ | 12, _ | 13, _ | 14, _ | 15, _ | 16, _ | 17, _ | 18, _ | 19, _ => injection ho with ho; subst ho; rfl
  case bk =>
    intro i o ho
    have hi : i < 20 := by have := (Array.getElem?_eq_some_iff.1 ho).1; simpa using this
    match i, hi with
    | 0, _ | 1, _ | 2, _ | 3, _ | 4, _ | 5, _ | 6, _ | 7, _ | 8, _ | 9, _ | 10, _ | 11, _ | 12, _ | 13, _ | 14, _ | 15, _ | 16, _ | 17, _ | 18, _ | 19, _ => injection ho with ho; subst ho; simp [Region.binds]
  case dd =>
    intro k hk
    have hk' : k < 42 := by
      simp [RetN.D] at hk
      omega
    simpa using hk'
  case xx => simp
  case does =>
    intro i o ho
    have hi : i < 20 := by have := (Array.getElem?_eq_some_iff.1 ho).1; simpa using this
    match i, hi with
    | 0, _ => injection ho with ho; subst ho; exact RG.Does.read rfl (fun L v_ w' h => RG.SW.skip (by decide) (by decide) (by decide) h) (fun L a w' hI hd => ex_move rfl (hI.fix 0 (Reg.notD rfl) (by decide)))
    | 1, _ => injection ho with ho; subst ho; exact RG.Does.read rfl (fun L v_ w' h => RG.SW.skip (by decide) (by decide) (by decide) h) (fun L a w' hI hd => ex_nil rfl (hI.pure 0 _ _ rfl (hd ⟨0, .data⟩ (by simp) rfl)))
    | 2, _ => injection ho with ho; subst ho; exact RG.Does.read rfl (fun L v_ w' h => RG.SW.skip (by decide) (by decide) (by decide) h) (fun L a w' hI hd => ex_field rfl (hI.pure 1 _ _ rfl (hd ⟨1, .data⟩ (by simp) rfl)) (fieldM0 w' _))
    | 3, _ => injection ho with ho; subst ho; exact RG.Does.read rfl (fun L v_ w' h => RG.SW.skip (by decide) (by decide) (by decide) h) (fun L a w' hI hd => ex_move rfl (hI.fix 1 (Reg.notD rfl) (by decide)))
    | 4, _ => injection ho with ho; subst ho; exact RG.Does.read rfl (fun L v_ w' h => RG.SW.skip (by decide) (by decide) (by decide) h) (fun L a w' hI hd => ex_move rfl (hI.fix 0 (Reg.notD rfl) (by decide)))
    | 5, _ => injection ho with ho; subst ho; exact RG.Does.read rfl (fun L v_ w' h => RG.SW.skip (by decide) (by decide) (by decide) h) (fun L a w' hI hd => ex_nil rfl (hI.pure 4 _ _ rfl (hd ⟨4, .data⟩ (by simp) rfl)))
    | 6, _ => injection ho with ho; subst ho; exact RG.Does.read rfl (fun L v_ w' h => RG.SW.skip (by decide) (by decide) (by decide) h) (fun L a w' hI hd => ex_field rfl (hI.pure 5 _ _ rfl (hd ⟨5, .data⟩ (by simp) rfl)) (fieldM4 w' _))
    | 7, _ => injection ho with ho; subst ho; exact RG.Does.read rfl (fun L v_ w' h => RG.SW.skip (by decide) (by decide) (by decide) h) (fun L a w' hI hd => ex_load rfl (hI.pure 6 _ _ rfl (hd ⟨6, .data⟩ (by simp) rfl)) (aggI w') (hI.world.row.cell (i := 8) (by omega)))
    | 8, _ => injection ho with ho; subst ho; exact RG.Does.read rfl (fun L v_ w' h => RG.SW.skip (by decide) (by decide) (by decide) h) (fun L a w' hI hd => ex_move rfl (hI.fix 0 (Reg.notD rfl) (by decide)))
    | 9, _ => injection ho with ho; subst ho; exact RG.Does.read rfl (fun L v_ w' h => RG.SW.skip (by decide) (by decide) (by decide) h) (fun L a w' hI hd => ex_nil rfl (hI.pure 8 _ _ rfl (hd ⟨8, .data⟩ (by simp) rfl)))
    | 10, _ => injection ho with ho; subst ho; exact RG.Does.read rfl (fun L v_ w' h => RG.SW.skip (by decide) (by decide) (by decide) h) (fun L a w' hI hd => ex_field rfl (hI.pure 9 _ _ rfl (hd ⟨9, .data⟩ (by simp) rfl)) (fieldM6 w' _))
    | 11, _ => injection ho with ho; subst ho; exact RG.Does.read rfl (fun L v_ w' h => RG.SW.skip (by decide) (by decide) (by decide) h) (fun L a w' hI hd => ex_load rfl (hI.pure 10 _ _ rfl (hd ⟨10, .data⟩ (by simp) rfl)) (aggU w') (hI.world.row.cell (i := 10) (by omega)))
    | 12, _ => injection ho with ho; subst ho; exact RG.Does.read rfl (fun L v_ w' h => RG.SW.skip (by decide) (by decide) (by decide) h) (fun L a w' hI hd => ex_move rfl (hI.fix 0 (Reg.notD rfl) (by decide)))
    | 13, _ => injection ho with ho; subst ho; exact RG.Does.read rfl (fun L v_ w' h => RG.SW.skip (by decide) (by decide) (by decide) h) (fun L a w' hI hd => ex_nil rfl (hI.pure 12 _ _ rfl (hd ⟨12, .data⟩ (by simp) rfl)))
    | 14, _ => injection ho with ho; subst ho; exact RG.Does.read rfl (fun L v_ w' h => RG.SW.skip (by decide) (by decide) (by decide) h) (fun L a w' hI hd => ex_field rfl (hI.pure 13 _ _ rfl (hd ⟨13, .data⟩ (by simp) rfl)) (fieldM6 w' _))
    | 15, _ => injection ho with ho; subst ho; exact RG.Does.read rfl (fun L v_ w' h => RG.SW.skip (by decide) (by decide) (by decide) h) (fun L a w' hI hd => ex_load rfl (hI.pure 14 _ _ rfl (hd ⟨14, .data⟩ (by simp) rfl)) (aggU w') (hI.world.row.cell (i := 10) (by omega)))
    | 16, _ => injection ho with ho; subst ho; exact RG.Does.read rfl (fun L v_ w' h => RG.SW.skip (by decide) (by decide) (by decide) h) (fun L a w' hI hd => ex_xor rfl (hI.pure 15 _ _ rfl (hd ⟨15, .data⟩ (by simp) rfl)) rfl)
    | 17, _ => injection ho with ho; subst ho; exact RG.Does.call rfl (fun L a w' hI hd => call5 rfl (hI.pure 2 _ _ rfl (hd ⟨2, .data⟩ (by simp) rfl)) (hI.pure 3 _ _ rfl (hd ⟨3, .data⟩ (by simp) rfl)) (hI.pure 7 _ _ rfl (hd ⟨7, .data⟩ (by simp) rfl)) (hI.pure 11 _ _ rfl (hd ⟨11, .data⟩ (by simp) rfl)) (hI.pure 16 _ _ rfl (hd ⟨16, .data⟩ (by simp) rfl)) rfl (by simp [go_sem])) (SWcalls h2 hn4 (by decide) (by decide) (fun w2 R2 M2 => cas_any (R2.cell (i := 0) (by omega)) R2.lt M2 HW.out HX.out HF.out))
    | 18, _ => injection ho with ho; subst ho; exact RG.Does.make (u := fun w' => .pointer (some ⟨w'.heap.size, 0, none⟩)) rfl rfl (fun ev w' => alloc46 rfl) (fun L v_ w' h hL => by have := RG.SW.make h hL; rw [← upd_same L 18 true] at this; simpa only [upd_other _ _ (show 17 ≠ 18 by decide), upd_other _ _ (show 19 ≠ 18 by decide)] using this)
    | 19, _ => injection ho with ho; subst ho; exact RG.Does.put (ls := x.cells) rfl rfl rfl size46 (by simp [Stp.cells, Value.oneCell']) (fun L a w' hI hL hd => ⟨(hI.pure 17 _ _ rfl (hd ⟨17, .data⟩ (by simp) rfl)), by obtain ⟨q, e1, e2, e3⟩ := RG.SW.put hI.world (hd ⟨17, .data⟩ (by simp) rfl) (hd ⟨18, .data⟩ (by simp) rfl) hL; exact ⟨q, 0, e1, e2, by rw [← upd_same L 19 true] at e3; simpa only [upd_other _ _ (show 17 ≠ 19 by decide), upd_other _ _ (show 18 ≠ 19 by decide)] using e3⟩⟩)
  case fin =>
    intro L a' w1 hI hall
    have hw := hI.world
    simp only [hall 17 (by decide), hall 18 (by decide), hall 19 (by decide), if_true] at hw
    obtain ⟨q, hq, hq1, hq2, _, hr⟩ := hw.own rfl
    replace hr := hr rfl
    have ea := act_all a' 42 (by rw [hI.sz]; rfl) hI.df
    simp only [List.range, List.range.loop, List.map] at ea
    rw [hI.fix 0 (Reg.notD rfl) (by decide), hI.fix 1 (Reg.notD rfl) (by decide), hI.fix 2 (Reg.notD rfl) (by decide), hI.fix 3 (Reg.notD rfl) (by decide), hI.fix 4 (Reg.notD rfl) (by decide), hI.fix 5 (Reg.notD rfl) (by decide), hI.fix 25 (Reg.notD rfl) (by decide), hI.fix 26 (Reg.notD rfl) (by decide), hI.fix 27 (Reg.notD rfl) (by decide), hI.fix 28 (Reg.notD rfl) (by decide), hI.fix 29 (Reg.notD rfl) (by decide), hI.fix 30 (Reg.notD rfl) (by decide), hI.fix 31 (Reg.notD rfl) (by decide), hI.fix 32 (Reg.notD rfl) (by decide), hI.fix 33 (Reg.notD rfl) (by decide), hI.fix 34 (Reg.notD rfl) (by decide), hI.fix 35 (Reg.notD rfl) (by decide), hI.fix 36 (Reg.notD rfl) (by decide), hI.fix 37 (Reg.notD rfl) (by decide), hI.fix 38 (Reg.notD rfl) (by decide), hI.fix 39 (Reg.notD rfl) (by decide), hI.fix 40 (Reg.notD rfl) (by decide), hI.fix 41 (Reg.notD rfl) (by decide), hq] at ea
    clear hI hall
    generalize a'.eval (.tmp 7) = u7 at ea
    generalize a'.eval (.tmp 8) = u8 at ea
    generalize a'.eval (.tmp 9) = u9 at ea
    generalize a'.eval (.tmp 10) = u10 at ea
    generalize a'.eval (.tmp 11) = u11 at ea
    generalize a'.eval (.tmp 12) = u12 at ea
    generalize a'.eval (.tmp 13) = u13 at ea
    generalize a'.eval (.tmp 14) = u14 at ea
    generalize a'.eval (.tmp 15) = u15 at ea
    generalize a'.eval (.tmp 16) = u16 at ea
    generalize a'.eval (.tmp 17) = u17 at ea
    generalize a'.eval (.tmp 18) = u18 at ea
    generalize a'.eval (.tmp 19) = u19 at ea
    generalize a'.eval (.tmp 20) = u20 at ea
    generalize a'.eval (.tmp 21) = u21 at ea
    generalize a'.eval (.tmp 22) = u22 at ea
    generalize a'.eval (.tmp 23) = u23 at ea
    generalize a'.eval (.tmp 24) = u24 at ea
    simp only [show ∀ (ts : Array Value) (ds) (i : Nat), (Act.mk ts ds).eval (.tmp i) = ts.getD i undef from fun _ _ _ => rfl] at ea
    simp at ea
    subst ea
    have M1 := hide (show IsMem w1 bm bw n f' from by simpa using hw.mem)
    have R1 := hide hw.row
    have RR := hide hw.res
    have T1 := hide (T0.out.trans' hw.tch (fun k _ h => .inr h))
    have RQ := hide hr
    have hqb : q ≠ b := by omega
    have hqr : q ≠ w.heap.size := by omega
    have hqm : q ≠ bm ∧ q ≠ bw := by omega
    have lw1 := hw.tch.size
    have l1 : b < w1.heap.size := by omega
    have l2 : w.heap.size < w1.heap.size := by omega
    have l3 : q < w1.heap.size := by omega
    clear hw hr hq
    have s0 : w1.cell? ⟨q, 0, none⟩ = some (.int .i64 x.hand) := by have := RQ.out 0 _ rfl; simpa using this
    have s1 : w1.cell? ⟨q, 1, none⟩ = some (.int .i64 x.act) := by have := RQ.out 1 _ rfl; simpa using this
    have s2 : w1.cell? ⟨q, 2, none⟩ = some (.int .i64 x.at_) := by have := RQ.out 2 _ rfl; simpa using this
    have s3 : w1.cell? ⟨q, 3, none⟩ = some (.int .u64 x.had) := by have := RQ.out 3 _ rfl; simpa using this
    have s4 : w1.cell? ⟨q, 4, none⟩ = some (.int .u64 x.put) := by have := RQ.out 4 _ rfl; simpa using this
    have s5 : w1.cell? ⟨q, 5, none⟩ = some (.bool x.ok) := by have := RQ.out 5 _ rfl; simpa using this
    have Rw1 := R1
    have Mw1 := M1
    have Qw1 := RR
    have Sw1 := RQ
    have Tw1 := T1
    have hok := HOK.out
    have s5' : w1.cell? ⟨q, 5, none⟩ = some (.bool false) := by rw [s5, hok]
    clear s5 hok
    go_wp2_with fail
    clear s0 s1 s2 s3 s4 s5'
    refine RG.region (ks := [(0, 28), (1, 29), (2, 30), (3, 31), (4, 32), (5, 33), (6, 34), (8, 5)]) (vals := fun i => match i with
          | 0 => .agg #[.int .i64 x.hand, .int .i64 x.act, .int .i64 x.at_, .int .u64 x.had, .int .u64 x.put, .bool x.ok]
          | 1 => .pointer (some ⟨b, 0, none⟩)
          | 2 => .pointer (some ⟨b, 0, none⟩)
          | 3 => .pointer (some ⟨b, 0, none⟩)
          | 4 => .pointer (some ⟨b, 0, none⟩)
          | 5 => .func (.func 78) #[.pointer (some ⟨b, 0, none⟩)] #[]
          | 6 => .int .i64 0
          | 8 => .int .i64 0
          | _ => undef) (x := 2) (WI := fun L v_ w' => RG.SX b 148 11 (fun c_ g_ => mC hand (if g_ = true then (.func (.func 78) #[.pointer (some ⟨b, 0, none⟩)] #[]) else fn) g t ix gn c h l v) bm bw n f' f' x w.heap.size (some q) w1 true (L 6) (L 7) w') (by kernel_rfl) ?gg ?bk rfl ?dd ?xx (RG.SX.start (c := true) (g := false) Rw1.out (by simpa using Mw1.out) Qw1.out ⟨h1, h2, hn3, hn5, hn4⟩ (fun k e => by cases e; exact ⟨Sw1.out, by omega, hqb, hqm.2, hqr⟩)) ?does ?fin
    case gg =>
      intro i o ho
      have hi : i < 9 := by have := (Array.getElem?_eq_some_iff.1 ho).1; simpa using this
      match i, hi with
      | 0, _ | 1, _ | 2, _ | 3, _ | 4, _ | 5, _ | 6, _ | 7, _ | 8, _ => injection ho with ho; subst ho; rfl
    case bk =>
      intro i o ho
      have hi : i < 9 := by have := (Array.getElem?_eq_some_iff.1 ho).1; simpa using this
      match i, hi with
      | 0, _ | 1, _ | 2, _ | 3, _ | 4, _ | 5, _ | 6, _ | 7, _ | 8, _ => injection ho with ho; subst ho; simp [Region.binds]
    case dd =>
      intro k hk
      have hk' : k < 42 := by
        simp [RetN.D] at hk
        omega
      simpa using hk'
    case xx => simp
    case does =>
      intro i o ho
      have hi : i < 9 := by have := (Array.getElem?_eq_some_iff.1 ho).1; simpa using this
      match i, hi with
      | 0, _ => injection ho with ho; subst ho; exact RG.Does.read rfl (fun L v_ w' h => RG.SX.skip2 (by decide) (by decide) h) (fun L a w' hI hd => ex_load_row rfl (hI.fix 6 (Reg.notD rfl) (by decide)) (hI.world.var _ rfl).1 HD.out.1 HD.out.2 size46)
      | 1, _ => injection ho with ho; subst ho; exact RG.Does.read rfl (fun L v_ w' h => RG.SX.skip2 (by decide) (by decide) h) (fun L a w' hI hd => ex_move rfl (hI.fix 0 (Reg.notD rfl) (by decide)))
      | 2, _ => injection ho with ho; subst ho; exact RG.Does.read rfl (fun L v_ w' h => RG.SX.skip2 (by decide) (by decide) h) (fun L a w' hI hd => ex_nil rfl (hI.pure 1 _ _ rfl (hd ⟨1, .data⟩ (by simp) rfl)))
      | 3, _ => injection ho with ho; subst ho; exact RG.Does.read rfl (fun L v_ w' h => RG.SX.skip2 (by decide) (by decide) h) (fun L a w' hI hd => ex_field rfl (hI.pure 2 _ _ rfl (hd ⟨2, .data⟩ (by simp) rfl)) (fieldM0 w' _))
      | 4, _ => injection ho with ho; subst ho; exact RG.Does.read rfl (fun L v_ w' h => RG.SX.skip2 (by decide) (by decide) h) (fun L a w' hI hd => ex_move rfl (hI.fix 0 (Reg.notD rfl) (by decide)))
      | 5, _ => injection ho with ho; subst ho; exact RG.Does.read rfl (fun L v_ w' h => RG.SX.skip2 (by decide) (by decide) h) (fun L a w' hI hd => ex_func rfl (hI.pure 4 _ _ rfl (hd ⟨4, .data⟩ (by simp) rfl)))
      | 6, _ => injection ho with ho; subst ho; exact RG.Does.call rfl (fun L a w' hI hd => call2 rfl (hI.pure 3 _ _ rfl (hd ⟨3, .data⟩ (by simp) rfl)) (hI.pure 5 _ _ rfl (hd ⟨5, .data⟩ (by simp) rfl)) rfl (by simp [go_sem])) (fun L v_ w2 hI hL => by have h3 := hI; rw [hL] at h3; refine (goOn_any 78 h3.row (by omega)).mono ?_; rintro e w3 ⟨rfl, r3, t3⟩; refine ⟨rfl, ?_⟩; rw [upd_same, upd_other _ _ (show 7 ≠ 6 by decide)]; exact h3.turn (g' := true) (r3.congr (fun i hi => m_fn _ _ _ _ _ _ _ _ _ _ _ i hi)) ⟨h3.mem.head.of_block (t3.block _ h3.mem.head.lt (fun e => h1 e.symm)), h3.mem.row.of_block (t3.block _ h3.mem.row.lt (fun e => h2 e.symm)), h3.mem.most, h3.mem.word⟩ t3 (fun k e => .inl e))
      | 7, _ => injection ho with ho; subst ho; exact RG.Does.put (ls := x.cells) rfl rfl rfl size46 (by simp [Stp.cells, Value.oneCell']) (fun L a w' hI hL hd => ⟨(hI.pure 0 _ _ rfl (hd ⟨0, .data⟩ (by simp) rfl)), by obtain ⟨e2, e3⟩ := RG.SX.put hI.world; exact ⟨w.heap.size, 0, hI.fix 4 (Reg.notD rfl) (by decide), e2, by show RG.SX b 148 11 (fun c_ g_ => mC hand (if g_ = true then (.func (.func 78) #[.pointer (some ⟨b, 0, none⟩)] #[]) else fn) g t ix gn c h l v) bm bw n f' f' x w.heap.size (some q) w1 true (upd L 7 true 6) (upd L 7 true 7) _; rw [upd_same, upd_other _ _ (show 6 ≠ 7 by decide)]; exact e3⟩⟩)
      | 8, _ => injection ho with ho; subst ho; exact RG.Does.read rfl (fun L v_ w' h => RG.SX.skip2 (by decide) (by decide) h) (fun L a w' hI hd => ex_assign rfl (hI.pure 6 _ _ rfl (hd ⟨6, .data⟩ (by simp) rfl)))
    case fin =>
      intro L a' w' hI hall
      rename_i K2 hK2
      refine hK2 _ _ ?_
      have hw := hI.world
      simp only [hall 6 (by decide), hall 7 (by decide)] at hw
      have rE := hw.sto rfl
      have pE : a'.eval (.tmp 4) = .pointer (some ⟨w.heap.size, 0, none⟩) := hI.fix 4 (Reg.notD rfl) (by decide)
      have pe : a'.eval (.tmp 5) = .int .i64 0 := hI.pure 8 5 _ rfl (hall 8 (by decide))
      have hdf : a'.defers = [] := hI.df
      have hS := run_loadVar_mid (P := Try.prog) w' w.heap.size 0 _ _ dS rE HD.out.1 HD.out.2 size46
      have hres := results_ct (Q := Try.prog) (fn := Try.f108) (tmps := a'.tmps) (t := 4) (t' := 5) (W := w') (by rfl) pE hS
      rw [show a'.tmps.getD 5 undef = .int .i64 0 from pe] at hres
      go_wp2
      exact bodyPost_ret (v := .tuple #[x.val, .int .i64 0]) hres hdf ⟨rfl, hw.row, by simpa using hw.mem, Tw1.out.trans' hw.tch (fun k hk h => by rcases h with h | h | h; exact .inl h; exact .inr h; omega)⟩
set_option maxHeartbeats 8000000 in
theorem meet_any {w : World} {b bm bw n : Nat} {f f' : Nat → Int} {x : Stp} {hand g ix gn c h l v : Int} {fn : Value} {t : Ans} (h_ : w.rowIs b 148 11 (mC hand fn g t ix gn c h l v)) (hm : IsMem w bm bw n f) (h1 : b ≠ bm) (h2 : b ≠ bw) 
    (hx : stepOf n f ⟨hand, 1, 2, 0, 0, true⟩ = x) (hf' : wordsOf n f ⟨hand, 1, 2, 0, 0, true⟩ = f') :
    Calls Try.prog 127 #[.pointer (some ⟨b, 0, none⟩), .pointer (some ⟨bm, 0, none⟩)] w fun e w' => e = .returned (.tuple #[x.val, .int .i64 0]) ∧
      w'.rowIs b 148 11 (mC hand (.func (.func 136) #[.pointer (some ⟨b, 0, none⟩)] #[]) x.had t ix gn c h l v) ∧ IsMem w' bm bw n f' ∧ Touch w w' (fun k => k = b ∨ k = bw) := by
  have hl := h_.lt
  have lw := hm.row.lt
  have lm := hm.head.lt
  have hn3 : w.heap.size ≠ b := by omega
  have hn4 : w.heap.size ≠ bw := by omega
  have hn5 : w.heap.size ≠ bm := by omega
  obtain ⟨W1, hW1⟩ : ∃ W1, w.alloc (.cells #[.int .i64 0, .int .i64 0, .int .i64 0, .int .u64 0, .int .u64 0, .bool false] 63) = W1 := ⟨_, rfl⟩
  have R := hide (show W1.rowIs b 148 11 (mC hand fn g t ix gn c h l v) from by rw [← hW1]; exact h_.alloc _)
  have M := hide (show IsMem W1 bm bw n f from by rw [← hW1]; exact hm.alloc _)
  have RZ := hide (show W1.rowIs w.heap.size 63 6 zcell from by rw [← hW1]; exact row0 w)
  have T0 := hide (show Touch w W1 (fun k => k = b ∨ k = bw) from by rw [← hW1]; exact (Touch.refl w _).alloc _)
  have sz : W1.heap.size = w.heap.size + 1 := by rw [← hW1]; simp
  have lW1 : b < W1.heap.size := by omega
  obtain ⟨⟨e0, ef0⟩, ⟨e1, ef1⟩, ⟨e2, ef2⟩, ⟨e3, ef3⟩, ⟨e4, ef4⟩, ⟨e5, ef5⟩, ⟨e6, ef6⟩, ⟨e7, ef7⟩, ⟨e8, ef8⟩, ⟨e9, ef9⟩, e10, ef10⟩ := m_facts R.out
  obtain ⟨dS, hdS1, hdS2⟩ := row46
  have HD := hide (And.intro hdS1 hdS2)
  have HX := hide hx
  have HF := hide hf'
  have HW : Hid (0 ≤ (⟨hand, 1, 2, 0, 0, true⟩ : Stp).put ∧ (⟨hand, 1, 2, 0, 0, true⟩ : Stp).put ≤ 18446744073709551615) := ⟨by show (0 : Int) ≤ 0; omega, by show (0 : Int) ≤ 18446744073709551615; omega⟩
  clear hm h_ hx hf' hdS1 hdS2 
  go_enter Try.func127, Try.ntmps127
  go_wp2_with fail
  clear hW1 e0 ef0 e1 ef1 e2 ef2 e3 ef3 e4 ef4 e5 ef5 e6 ef6 e7 ef7 e8 ef8 e9 ef9 e10 ef10
  have RW1 := R
  have MW1 := M
  have QW1 := RZ
  have TW1 := T0
  refine RG.region (ks := [(0, 6), (1, 7), (2, 8), (3, 9), (4, 10), (5, 11), (6, 12), (7, 13), (8, 14), (9, 15), (10, 16), (12, 5)]) (vals := fun i => match i with
        | 0 => .pointer (some ⟨b, 0, none⟩)
        | 1 => .pointer (some ⟨b, 0, none⟩)
        | 2 => .pointer (some ⟨b, 0, none⟩)
        | 3 => .pointer (some ⟨bm, 0, none⟩)
        | 4 => .agg #[.int .i64 x.hand, .int .i64 x.act, .int .i64 x.at_, .int .u64 x.had, .int .u64 x.put, .bool x.ok]
        | 5 => .pointer (some ⟨b, 0, none⟩)
        | 6 => .pointer (some ⟨b, 0, none⟩)
        | 7 => .pointer (some ⟨b, 0, none⟩)
        | 8 => .pointer (some ⟨b, 0, none⟩)
        | 9 => .func (.func 136) #[.pointer (some ⟨b, 0, none⟩)] #[]
        | 10 => .int .i64 0
        | 12 => .int .i64 0
        | _ => undef) (x := 2) (WI := fun L v_ w' => RG.SX b 148 11 (fun c_ g_ => mC hand (if g_ = true then (.func (.func 136) #[.pointer (some ⟨b, 0, none⟩)] #[]) else fn) (if c_ = true then x.had else g) t ix gn c h l v) bm bw n f f' x w.heap.size none W1 (L 4) (L 10) (L 11) w') (by kernel_rfl) ?gg ?bk rfl ?dd ?xx (RG.SX.start (c := false) (g := false) RW1.out (by simpa using MW1.out) QW1.out ⟨h1, h2, hn3, hn5, hn4⟩ (fun k e => by cases e)) ?does ?fin
  case gg =>
    intro i o ho
    have hi : i < 13 := by have := (Array.getElem?_eq_some_iff.1 ho).1; simpa using this
    match i, hi with
    | 0, _ | 1, _ | 2, _ | 3, _ | 4, _ | 5, _ | 6, _ | 7, _ | 8, _ | 9, _ | 10, _ | 11, _ | 12, _ => injection ho with ho; subst ho; rfl
  case bk =>
    intro i o ho
    have hi : i < 13 := by have := (Array.getElem?_eq_some_iff.1 ho).1; simpa using this
    match i, hi with
    | 0, _ | 1, _ | 2, _ | 3, _ | 4, _ | 5, _ | 6, _ | 7, _ | 8, _ | 9, _ | 10, _ | 11, _ | 12, _ => injection ho with ho; subst ho; simp [Region.binds]
  case dd =>
    intro k hk
    have hk' : k < 17 := by
      simp [RetN.D] at hk
      omega
    simpa using hk'
  case xx => simp
  case does =>
    intro i o ho
    have hi : i < 13 := by have := (Array.getElem?_eq_some_iff.1 ho).1; simpa using this
    match i, hi with
    | 0, _ => injection ho with ho; subst ho; exact RG.Does.read rfl (fun L v_ w' h => RG.SX.skip (by decide) (by decide) (by decide) h) (fun L a w' hI hd => ex_move rfl (hI.fix 0 (Reg.notD rfl) (by decide)))
    | 1, _ => injection ho with ho; subst ho; exact RG.Does.read rfl (fun L v_ w' h => RG.SX.skip (by decide) (by decide) (by decide) h) (fun L a w' hI hd => ex_nil rfl (hI.pure 0 _ _ rfl (hd ⟨0, .data⟩ (by simp) rfl)))
    | 2, _ => injection ho with ho; subst ho; exact RG.Does.read rfl (fun L v_ w' h => RG.SX.skip (by decide) (by decide) (by decide) h) (fun L a w' hI hd => ex_field rfl (hI.pure 1 _ _ rfl (hd ⟨1, .data⟩ (by simp) rfl)) (fieldM0 w' _))
    | 3, _ => injection ho with ho; subst ho; exact RG.Does.read rfl (fun L v_ w' h => RG.SX.skip (by decide) (by decide) (by decide) h) (fun L a w' hI hd => ex_move rfl (hI.fix 1 (Reg.notD rfl) (by decide)))
    | 4, _ => injection ho with ho; subst ho; exact RG.Does.call rfl (fun L a w' hI hd => call2 rfl (hI.pure 2 _ _ rfl (hd ⟨2, .data⟩ (by simp) rfl)) (hI.pure 3 _ _ rfl (hd ⟨3, .data⟩ (by simp) rfl)) rfl (by simp [go_sem])) (fun L v_ w2 hI hL => by have h3 := hI; rw [hL] at h3; refine (loadGrey_any (hand := hand) h3.row (by omega) rfl (by simpa using h3.mem) h1 h2 HX.out HF.out).mono ?_; rintro e w3 ⟨rfl, r3, m3, t3⟩; refine ⟨rfl, ?_⟩; rw [upd_same, upd_other _ _ (show 10 ≠ 4 by decide), upd_other _ _ (show 11 ≠ 4 by decide)]; exact h3.turn (c' := true) (r3.congr (fun i hi => m_g _ _ _ _ _ _ _ _ _ _ _ i hi)) (by simpa using m3) t3 (fun k e => e))
    | 5, _ => injection ho with ho; subst ho; exact RG.Does.read rfl (fun L v_ w' h => RG.SX.skip (by decide) (by decide) (by decide) h) (fun L a w' hI hd => ex_move rfl (hI.fix 0 (Reg.notD rfl) (by decide)))
    | 6, _ => injection ho with ho; subst ho; exact RG.Does.read rfl (fun L v_ w' h => RG.SX.skip (by decide) (by decide) (by decide) h) (fun L a w' hI hd => ex_nil rfl (hI.pure 5 _ _ rfl (hd ⟨5, .data⟩ (by simp) rfl)))
    | 7, _ => injection ho with ho; subst ho; exact RG.Does.read rfl (fun L v_ w' h => RG.SX.skip (by decide) (by decide) (by decide) h) (fun L a w' hI hd => ex_field rfl (hI.pure 6 _ _ rfl (hd ⟨6, .data⟩ (by simp) rfl)) (fieldM0 w' _))
    | 8, _ => injection ho with ho; subst ho; exact RG.Does.read rfl (fun L v_ w' h => RG.SX.skip (by decide) (by decide) (by decide) h) (fun L a w' hI hd => ex_move rfl (hI.fix 0 (Reg.notD rfl) (by decide)))
    | 9, _ => injection ho with ho; subst ho; exact RG.Does.read rfl (fun L v_ w' h => RG.SX.skip (by decide) (by decide) (by decide) h) (fun L a w' hI hd => ex_func rfl (hI.pure 8 _ _ rfl (hd ⟨8, .data⟩ (by simp) rfl)))
    | 10, _ => injection ho with ho; subst ho; exact RG.Does.call rfl (fun L a w' hI hd => call2 rfl (hI.pure 7 _ _ rfl (hd ⟨7, .data⟩ (by simp) rfl)) (hI.pure 9 _ _ rfl (hd ⟨9, .data⟩ (by simp) rfl)) rfl (by simp [go_sem])) (fun L v_ w2 hI hL => by have h3 := hI; rw [hL] at h3; refine (goOn_any 136 h3.row (by omega)).mono ?_; rintro e w3 ⟨rfl, r3, t3⟩; refine ⟨rfl, ?_⟩; rw [upd_same, upd_other _ _ (show 4 ≠ 10 by decide), upd_other _ _ (show 11 ≠ 10 by decide)]; exact h3.turn (g' := true) (r3.congr (fun i hi => m_fn _ _ _ _ _ _ _ _ _ _ _ i hi)) ⟨h3.mem.head.of_block (t3.block _ h3.mem.head.lt (fun e => h1 e.symm)), h3.mem.row.of_block (t3.block _ h3.mem.row.lt (fun e => h2 e.symm)), h3.mem.most, h3.mem.word⟩ t3 (fun k e => .inl e))
    | 11, _ => injection ho with ho; subst ho; exact RG.Does.put (ls := x.cells) rfl rfl rfl size46 (by simp [Stp.cells, Value.oneCell']) (fun L a w' hI hL hd => ⟨(hI.pure 4 _ _ rfl (hd ⟨4, .data⟩ (by simp) rfl)), by obtain ⟨e2, e3⟩ := RG.SX.put hI.world; exact ⟨w.heap.size, 0, hI.fix 4 (Reg.notD rfl) (by decide), e2, by show RG.SX b 148 11 (fun c_ g_ => mC hand (if g_ = true then (.func (.func 136) #[.pointer (some ⟨b, 0, none⟩)] #[]) else fn) (if c_ = true then x.had else g) t ix gn c h l v) bm bw n f f' x w.heap.size none W1 (upd L 11 true 4) (upd L 11 true 10) (upd L 11 true 11) _; rw [upd_same, upd_other _ _ (show 4 ≠ 11 by decide), upd_other _ _ (show 10 ≠ 11 by decide)]; exact e3⟩⟩)
    | 12, _ => injection ho with ho; subst ho; exact RG.Does.read rfl (fun L v_ w' h => RG.SX.skip (by decide) (by decide) (by decide) h) (fun L a w' hI hd => ex_assign rfl (hI.pure 10 _ _ rfl (hd ⟨10, .data⟩ (by simp) rfl)))
  case fin =>
    intro L a' w' hI hall
    rename_i K2 hK2
    refine hK2 _ _ ?_
    have hw := hI.world
    simp only [hall 4 (by decide), hall 10 (by decide), hall 11 (by decide)] at hw
    have rE := hw.sto rfl
    have pE : a'.eval (.tmp 4) = .pointer (some ⟨w.heap.size, 0, none⟩) := hI.fix 4 (Reg.notD rfl) (by decide)
    have pe : a'.eval (.tmp 5) = .int .i64 0 := hI.pure 12 5 _ rfl (hall 12 (by decide))
    have hdf : a'.defers = [] := hI.df
    have hS := run_loadVar_mid (P := Try.prog) w' w.heap.size 0 _ _ dS rE HD.out.1 HD.out.2 size46
    have hres := results_ct (Q := Try.prog) (fn := Try.f127) (tmps := a'.tmps) (t := 4) (t' := 5) (W := w') (by rfl) pE hS
    rw [show a'.tmps.getD 5 undef = .int .i64 0 from pe] at hres
    go_wp2
    exact bodyPost_ret (v := .tuple #[x.val, .int .i64 0]) hres hdf ⟨rfl, hw.row, by simpa using hw.mem, TW1.out.trans' hw.tch (fun k hk h => by rcases h with h | h | h; exact .inl h; exact .inr h; omega)⟩
set_option maxHeartbeats 8000000 in
theorem tie_any {w : World} {b bm bw n : Nat} {f f' : Nat → Int} {x : Stp} {hand g ix gn c h l v : Int} {fn : Value} {t : Ans} (h_ : w.rowIs b 148 11 (mC hand fn g t ix gn c h l v)) (hm : IsMem w bm bw n f) (h1 : b ≠ bm) (h2 : b ≠ bw) (hg : 0 ≤ g ∧ g ≤ 18446744073709551615)
    (hx : stepOf n f ⟨hand, 2, l, 0, idx g, true⟩ = x) (hf' : wordsOf n f ⟨hand, 2, l, 0, idx g, true⟩ = f') :
    Calls Try.prog 136 #[.pointer (some ⟨b, 0, none⟩), .pointer (some ⟨bm, 0, none⟩)] w fun e w' => e = .returned (.tuple #[x.val, .int .i64 0]) ∧
      w'.rowIs b 148 11 (mC hand (.func (.func 141) #[.pointer (some ⟨b, 0, none⟩)] #[]) g t ix gn c h l v) ∧ IsMem w' bm bw n f' ∧ Touch w w' (fun k => k = b ∨ k = bw) := by
  have hl := h_.lt
  have lw := hm.row.lt
  have lm := hm.head.lt
  have hn3 : w.heap.size ≠ b := by omega
  have hn4 : w.heap.size ≠ bw := by omega
  have hn5 : w.heap.size ≠ bm := by omega
  obtain ⟨W1, hW1⟩ : ∃ W1, w.alloc (.cells #[.int .i64 0, .int .i64 0, .int .i64 0, .int .u64 0, .int .u64 0, .bool false] 63) = W1 := ⟨_, rfl⟩
  have R := hide (show W1.rowIs b 148 11 (mC hand fn g t ix gn c h l v) from by rw [← hW1]; exact h_.alloc _)
  have M := hide (show IsMem W1 bm bw n f from by rw [← hW1]; exact hm.alloc _)
  have RZ := hide (show W1.rowIs w.heap.size 63 6 zcell from by rw [← hW1]; exact row0 w)
  have T0 := hide (show Touch w W1 (fun k => k = b ∨ k = bw) from by rw [← hW1]; exact (Touch.refl w _).alloc _)
  have sz : W1.heap.size = w.heap.size + 1 := by rw [← hW1]; simp
  have lW1 : b < W1.heap.size := by omega
  obtain ⟨⟨e0, ef0⟩, ⟨e1, ef1⟩, ⟨e2, ef2⟩, ⟨e3, ef3⟩, ⟨e4, ef4⟩, ⟨e5, ef5⟩, ⟨e6, ef6⟩, ⟨e7, ef7⟩, ⟨e8, ef8⟩, ⟨e9, ef9⟩, e10, ef10⟩ := m_facts R.out
  obtain ⟨dS, hdS1, hdS2⟩ := row46
  have HD := hide (And.intro hdS1 hdS2)
  have HX := hide hx
  have HF := hide hf'
  have HW : Hid (0 ≤ (⟨hand, 2, l, 0, idx g, true⟩ : Stp).put ∧ (⟨hand, 2, l, 0, idx g, true⟩ : Stp).put ≤ 18446744073709551615) := ⟨idx_lo g, by have := idx_hi g; show idx g ≤ _; omega⟩
  have IX := hide (fun w1 : World => index_any g hg.1 (by omega) w1)
  clear hm h_ hx hf' hdS1 hdS2 hg
  go_enter Try.func136, Try.ntmps136
  go_wp2_with fail
  clear hW1 e0 ef0 e1 ef1 e2 ef2 e3 ef3 e4 ef4 e5 ef5 e6 ef6 e7 ef7 e8 ef8 e9 ef9 e10 ef10
  have RW1 := R
  have MW1 := M
  have QW1 := RZ
  have TW1 := T0
  refine RG.region (ks := [(0, 6), (1, 7), (2, 8), (3, 9), (4, 10), (5, 11), (6, 12), (7, 13), (8, 14), (9, 15), (10, 16), (11, 17), (12, 18), (13, 19), (14, 20), (15, 21), (16, 22), (17, 23), (18, 24), (19, 25), (20, 26), (21, 27), (22, 28), (23, 29), (25, 5)]) (vals := fun i => match i with
        | 0 => .pointer (some ⟨bm, 0, none⟩)
        | 1 => .pointer (some ⟨b, 0, none⟩)
        | 2 => .pointer (some ⟨b, 0, none⟩)
        | 3 => .pointer (some ⟨b, 0, none⟩)
        | 4 => .pointer (some ⟨b, 0, none⟩)
        | 5 => .int .i64 hand
        | 6 => .pointer (some ⟨b, 0, none⟩)
        | 7 => .pointer (some ⟨b, 0, none⟩)
        | 8 => .pointer (some ⟨b, 9, none⟩)
        | 9 => .int .i64 l
        | 10 => .pointer (some ⟨b, 0, none⟩)
        | 11 => .pointer (some ⟨b, 0, none⟩)
        | 12 => .pointer (some ⟨b, 0, none⟩)
        | 13 => .pointer (some ⟨b, 2, none⟩)
        | 14 => .int .u64 g
        | 15 => .int .i64 (idx g)
        | 16 => .int .u64 (idx g)
        | 17 => .agg #[.int .i64 x.hand, .int .i64 x.act, .int .i64 x.at_, .int .u64 x.had, .int .u64 x.put, .bool x.ok]
        | 18 => .pointer (some ⟨b, 0, none⟩)
        | 19 => .pointer (some ⟨b, 0, none⟩)
        | 20 => .pointer (some ⟨b, 0, none⟩)
        | 21 => .pointer (some ⟨b, 0, none⟩)
        | 22 => .func (.func 141) #[.pointer (some ⟨b, 0, none⟩)] #[]
        | 23 => .int .i64 0
        | 25 => .int .i64 0
        | _ => undef) (x := 2) (WI := fun L v_ w' => RG.SX b 148 11 (fun c_ g_ => mC hand (if g_ = true then (.func (.func 141) #[.pointer (some ⟨b, 0, none⟩)] #[]) else fn) g t ix gn c h l v) bm bw n f f' x w.heap.size none W1 (L 17) (L 23) (L 24) w') (by kernel_rfl) ?gg ?bk rfl ?dd ?xx (RG.SX.start (c := false) (g := false) RW1.out (by simpa using MW1.out) QW1.out ⟨h1, h2, hn3, hn5, hn4⟩ (fun k e => by cases e)) ?does ?fin
  case gg =>
    intro i o ho
    have hi : i < 26 := by have := (Array.getElem?_eq_some_iff.1 ho).1; simpa using this
    match i, hi with
    | 0, _ | 1, _ | 2, _ | 3, _ | 4, _ | 5, _ | 6, _ | 7, _ | 8, _ | 9, _ | 10, _ | 11, _ | 12, _ | 13, _ | 14, _ | 15, _ | 16, _ | 17, _ | 18, _ | 19, _ | 20, _ | 21, _ | 22, _ | 23, _ | 24, _ | 25, _ => injection ho with ho; subst ho; rfl
  case bk =>
    intro i o ho
    have hi : i < 26 := by have := (Array.getElem?_eq_some_iff.1 ho).1; simpa using this
    match i, hi with
    | 0, _ | 1, _ | 2, _ | 3, _ | 4, _ | 5, _ | 6, _ | 7, _ | 8, _ | 9, _ | 10, _ | 11, _ | 12, _ | 13, _ | 14, _ | 15, _ | 16, _ | 17, _ | 18, _ | 19, _ | 20, _ | 21, _ | 22, _ | 23, _ | 24, _ | 25, _ => injection ho with ho; subst ho; simp [Region.binds]
  case dd =>
    intro k hk
    have hk' : k < 30 := by
      simp [RetN.D] at hk
      omega
    simpa using hk'
  case xx => simp
  case does =>
    intro i o ho
    have hi : i < 26 := by have := (Array.getElem?_eq_some_iff.1 ho).1; simpa using this
    match i, hi with
    | 0, _ => injection ho with ho; subst ho; exact RG.Does.read rfl (fun L v_ w' h => RG.SX.skip (by decide) (by decide) (by decide) h) (fun L a w' hI hd => ex_move rfl (hI.fix 1 (Reg.notD rfl) (by decide)))
    | 1, _ => injection ho with ho; subst ho; exact RG.Does.read rfl (fun L v_ w' h => RG.SX.skip (by decide) (by decide) (by decide) h) (fun L a w' hI hd => ex_move rfl (hI.fix 0 (Reg.notD rfl) (by decide)))
    | 2, _ => injection ho with ho; subst ho; exact RG.Does.read rfl (fun L v_ w' h => RG.SX.skip (by decide) (by decide) (by decide) h) (fun L a w' hI hd => ex_nil rfl (hI.pure 1 _ _ rfl (hd ⟨1, .data⟩ (by simp) rfl)))
    | 3, _ => injection ho with ho; subst ho; exact RG.Does.read rfl (fun L v_ w' h => RG.SX.skip (by decide) (by decide) (by decide) h) (fun L a w' hI hd => ex_field rfl (hI.pure 2 _ _ rfl (hd ⟨2, .data⟩ (by simp) rfl)) (fieldM0 w' _))
    | 4, _ => injection ho with ho; subst ho; exact RG.Does.read rfl (fun L v_ w' h => RG.SX.skip (by decide) (by decide) (by decide) h) (fun L a w' hI hd => ex_field rfl (hI.pure 3 _ _ rfl (hd ⟨3, .data⟩ (by simp) rfl)) (fieldW0 w' _))
    | 5, _ => injection ho with ho; subst ho; exact RG.Does.read rfl (fun L v_ w' h => RG.SX.skip (by decide) (by decide) (by decide) h) (fun L a w' hI hd => ex_load rfl (hI.pure 4 _ _ rfl (hd ⟨4, .data⟩ (by simp) rfl)) (aggI w') (hI.world.row.cell (i := 0) (by omega)))
    | 6, _ => injection ho with ho; subst ho; exact RG.Does.read rfl (fun L v_ w' h => RG.SX.skip (by decide) (by decide) (by decide) h) (fun L a w' hI hd => ex_move rfl (hI.fix 0 (Reg.notD rfl) (by decide)))
    | 7, _ => injection ho with ho; subst ho; exact RG.Does.read rfl (fun L v_ w' h => RG.SX.skip (by decide) (by decide) (by decide) h) (fun L a w' hI hd => ex_nil rfl (hI.pure 6 _ _ rfl (hd ⟨6, .data⟩ (by simp) rfl)))
    | 8, _ => injection ho with ho; subst ho; exact RG.Does.read rfl (fun L v_ w' h => RG.SX.skip (by decide) (by decide) (by decide) h) (fun L a w' hI hd => ex_field rfl (hI.pure 7 _ _ rfl (hd ⟨7, .data⟩ (by simp) rfl)) (fieldM5 w' _))
    | 9, _ => injection ho with ho; subst ho; exact RG.Does.read rfl (fun L v_ w' h => RG.SX.skip (by decide) (by decide) (by decide) h) (fun L a w' hI hd => ex_load rfl (hI.pure 8 _ _ rfl (hd ⟨8, .data⟩ (by simp) rfl)) (aggI w') (hI.world.row.cell (i := 9) (by omega)))
    | 10, _ => injection ho with ho; subst ho; exact RG.Does.read rfl (fun L v_ w' h => RG.SX.skip (by decide) (by decide) (by decide) h) (fun L a w' hI hd => ex_move rfl (hI.fix 0 (Reg.notD rfl) (by decide)))
    | 11, _ => injection ho with ho; subst ho; exact RG.Does.read rfl (fun L v_ w' h => RG.SX.skip (by decide) (by decide) (by decide) h) (fun L a w' hI hd => ex_nil rfl (hI.pure 10 _ _ rfl (hd ⟨10, .data⟩ (by simp) rfl)))
    | 12, _ => injection ho with ho; subst ho; exact RG.Does.read rfl (fun L v_ w' h => RG.SX.skip (by decide) (by decide) (by decide) h) (fun L a w' hI hd => ex_field rfl (hI.pure 11 _ _ rfl (hd ⟨11, .data⟩ (by simp) rfl)) (fieldM0 w' _))
    | 13, _ => injection ho with ho; subst ho; exact RG.Does.read rfl (fun L v_ w' h => RG.SX.skip (by decide) (by decide) (by decide) h) (fun L a w' hI hd => ex_field rfl (hI.pure 12 _ _ rfl (hd ⟨12, .data⟩ (by simp) rfl)) (fieldW2 w' _))
    | 14, _ => injection ho with ho; subst ho; exact RG.Does.read rfl (fun L v_ w' h => RG.SX.skip (by decide) (by decide) (by decide) h) (fun L a w' hI hd => ex_load rfl (hI.pure 13 _ _ rfl (hd ⟨13, .data⟩ (by simp) rfl)) (aggU w') (hI.world.row.cell (i := 2) (by omega)))
    | 15, _ => injection ho with ho; subst ho; exact RG.Does.ask rfl (fun L v_ w' h => RG.SX.skip (by decide) (by decide) (by decide) h) (fun L a w' hI hd => call1 rfl (hI.pure 14 _ _ rfl (hd ⟨14, .data⟩ (by simp) rfl)) rfl (by simp [go_sem])) (fun w2 => IX.out w2)
    | 16, _ => injection ho with ho; subst ho; exact RG.Does.read rfl (fun L v_ w' h => RG.SX.skip (by decide) (by decide) (by decide) h) (fun L a w' hI hd => ex_convu rfl (hI.pure 15 _ _ rfl (hd ⟨15, .data⟩ (by simp) rfl)) (by have := idx_lo g; omega) (by have := idx_hi g; omega))
    | 17, _ => injection ho with ho; subst ho; exact RG.Does.call rfl (fun L a w' hI hd => call6 rfl (hI.pure 0 _ _ rfl (hd ⟨0, .data⟩ (by simp) rfl)) (hI.pure 5 _ _ rfl (hd ⟨5, .data⟩ (by simp) rfl)) rfl (hI.pure 9 _ _ rfl (hd ⟨9, .data⟩ (by simp) rfl)) rfl (hI.pure 16 _ _ rfl (hd ⟨16, .data⟩ (by simp) rfl)) rfl (by simp [go_sem])) (fun L v_ w2 hI hL => by have h3 := hI; rw [hL] at h3; refine (do_row h3.row h2 (by simpa using h3.mem) ⟨hand, 2, l, 0, idx g, true⟩ HW.out HX.out HF.out).mono ?_; rintro e w3 ⟨rfl, r3, m3, t3⟩; refine ⟨rfl, ?_⟩; rw [upd_same, upd_other _ _ (show 23 ≠ 17 by decide), upd_other _ _ (show 24 ≠ 17 by decide)]; exact h3.turn (c' := true) (r3.congr (fun i hi => (fun _ _ => rfl) i hi)) (by simpa using m3) t3 (fun k e => e))
    | 18, _ => injection ho with ho; subst ho; exact RG.Does.read rfl (fun L v_ w' h => RG.SX.skip (by decide) (by decide) (by decide) h) (fun L a w' hI hd => ex_move rfl (hI.fix 0 (Reg.notD rfl) (by decide)))
    | 19, _ => injection ho with ho; subst ho; exact RG.Does.read rfl (fun L v_ w' h => RG.SX.skip (by decide) (by decide) (by decide) h) (fun L a w' hI hd => ex_nil rfl (hI.pure 18 _ _ rfl (hd ⟨18, .data⟩ (by simp) rfl)))
    | 20, _ => injection ho with ho; subst ho; exact RG.Does.read rfl (fun L v_ w' h => RG.SX.skip (by decide) (by decide) (by decide) h) (fun L a w' hI hd => ex_field rfl (hI.pure 19 _ _ rfl (hd ⟨19, .data⟩ (by simp) rfl)) (fieldM0 w' _))
    | 21, _ => injection ho with ho; subst ho; exact RG.Does.read rfl (fun L v_ w' h => RG.SX.skip (by decide) (by decide) (by decide) h) (fun L a w' hI hd => ex_move rfl (hI.fix 0 (Reg.notD rfl) (by decide)))
    | 22, _ => injection ho with ho; subst ho; exact RG.Does.read rfl (fun L v_ w' h => RG.SX.skip (by decide) (by decide) (by decide) h) (fun L a w' hI hd => ex_func rfl (hI.pure 21 _ _ rfl (hd ⟨21, .data⟩ (by simp) rfl)))
    | 23, _ => injection ho with ho; subst ho; exact RG.Does.call rfl (fun L a w' hI hd => call2 rfl (hI.pure 20 _ _ rfl (hd ⟨20, .data⟩ (by simp) rfl)) (hI.pure 22 _ _ rfl (hd ⟨22, .data⟩ (by simp) rfl)) rfl (by simp [go_sem])) (fun L v_ w2 hI hL => by have h3 := hI; rw [hL] at h3; refine (goOn_any 141 h3.row (by omega)).mono ?_; rintro e w3 ⟨rfl, r3, t3⟩; refine ⟨rfl, ?_⟩; rw [upd_same, upd_other _ _ (show 17 ≠ 23 by decide), upd_other _ _ (show 24 ≠ 23 by decide)]; exact h3.turn (g' := true) (r3.congr (fun i hi => m_fn _ _ _ _ _ _ _ _ _ _ _ i hi)) ⟨h3.mem.head.of_block (t3.block _ h3.mem.head.lt (fun e => h1 e.symm)), h3.mem.row.of_block (t3.block _ h3.mem.row.lt (fun e => h2 e.symm)), h3.mem.most, h3.mem.word⟩ t3 (fun k e => .inl e))
    | 24, _ => injection ho with ho; subst ho; exact RG.Does.put (ls := x.cells) rfl rfl rfl size46 (by simp [Stp.cells, Value.oneCell']) (fun L a w' hI hL hd => ⟨(hI.pure 17 _ _ rfl (hd ⟨17, .data⟩ (by simp) rfl)), by obtain ⟨e2, e3⟩ := RG.SX.put hI.world; exact ⟨w.heap.size, 0, hI.fix 4 (Reg.notD rfl) (by decide), e2, by show RG.SX b 148 11 (fun c_ g_ => mC hand (if g_ = true then (.func (.func 141) #[.pointer (some ⟨b, 0, none⟩)] #[]) else fn) g t ix gn c h l v) bm bw n f f' x w.heap.size none W1 (upd L 24 true 17) (upd L 24 true 23) (upd L 24 true 24) _; rw [upd_same, upd_other _ _ (show 17 ≠ 24 by decide), upd_other _ _ (show 23 ≠ 24 by decide)]; exact e3⟩⟩)
    | 25, _ => injection ho with ho; subst ho; exact RG.Does.read rfl (fun L v_ w' h => RG.SX.skip (by decide) (by decide) (by decide) h) (fun L a w' hI hd => ex_assign rfl (hI.pure 23 _ _ rfl (hd ⟨23, .data⟩ (by simp) rfl)))
  case fin =>
    intro L a' w' hI hall
    rename_i K2 hK2
    refine hK2 _ _ ?_
    have hw := hI.world
    simp only [hall 17 (by decide), hall 23 (by decide), hall 24 (by decide)] at hw
    have rE := hw.sto rfl
    have pE : a'.eval (.tmp 4) = .pointer (some ⟨w.heap.size, 0, none⟩) := hI.fix 4 (Reg.notD rfl) (by decide)
    have pe : a'.eval (.tmp 5) = .int .i64 0 := hI.pure 25 5 _ rfl (hall 25 (by decide))
    have hdf : a'.defers = [] := hI.df
    have hS := run_loadVar_mid (P := Try.prog) w' w.heap.size 0 _ _ dS rE HD.out.1 HD.out.2 size46
    have hres := results_ct (Q := Try.prog) (fn := Try.f136) (tmps := a'.tmps) (t := 4) (t' := 5) (W := w') (by rfl) pE hS
    rw [show a'.tmps.getD 5 undef = .int .i64 0 from pe] at hres
    go_wp2
    exact bodyPost_ret (v := .tuple #[x.val, .int .i64 0]) hres hdf ⟨rfl, hw.row, by simpa using hw.mem, TW1.out.trans' hw.tch (fun k hk h => by rcases h with h | h | h; exact .inl h; exact .inr h; omega)⟩
set_option maxHeartbeats 8000000 in
theorem lay_yes {w : World} {b bm bw n : Nat} {f f' : Nat → Int} {x : Stp} {hand g ix gn c h l v : Int} {fn : Value} {t : Ans} (h_ : w.rowIs b 148 11 (mC hand fn g t ix gn c h l v)) (hm : IsMem w bm bw n f) (h1 : b ≠ bm) (h2 : b ≠ bw) (hg : 0 ≤ g ∧ g ≤ 18446744073709551615) (hi : 0 ≤ ix ∧ ix < 4294967296) (hok : x.ok = true)
    (hx : stepOf n f ⟨hand, 5, 2, g, bmp g ix, true⟩ = x) (hf' : wordsOf n f ⟨hand, 5, 2, g, bmp g ix, true⟩ = f') :
    Calls Try.prog 141 #[.pointer (some ⟨b, 0, none⟩), .pointer (some ⟨bm, 0, none⟩)] w fun e w' => e = .returned (.tuple #[x.val, .int .i64 1]) ∧
      w'.rowIs b 148 11 (mC hand fn g ⟨true, ix⟩ ix gn c h l v) ∧ IsMem w' bm bw n f' ∧ Touch w w' (fun k => k = b ∨ k = bw) := by
  have hl := h_.lt
  have lw := hm.row.lt
  have lm := hm.head.lt
  have hn3 : w.heap.size ≠ b := by omega
  have hn4 : w.heap.size ≠ bw := by omega
  have hn5 : w.heap.size ≠ bm := by omega
  obtain ⟨W1, hW1⟩ : ∃ W1, w.alloc (.cells #[.int .i64 0, .int .i64 0, .int .i64 0, .int .u64 0, .int .u64 0, .bool false] 63) = W1 := ⟨_, rfl⟩
  have R := hide (show W1.rowIs b 148 11 (mC hand fn g t ix gn c h l v) from by rw [← hW1]; exact h_.alloc _)
  have M := hide (show IsMem W1 bm bw n f from by rw [← hW1]; exact hm.alloc _)
  have RZ := hide (show W1.rowIs w.heap.size 63 6 zcell from by rw [← hW1]; exact row0 w)
  have T0 := hide (show Touch w W1 (fun k => k = b ∨ k = bw) from by rw [← hW1]; exact (Touch.refl w _).alloc _)
  have sz : W1.heap.size = w.heap.size + 1 := by rw [← hW1]; simp
  have lW1 : b < W1.heap.size := by omega
  obtain ⟨⟨e0, ef0⟩, ⟨e1, ef1⟩, ⟨e2, ef2⟩, ⟨e3, ef3⟩, ⟨e4, ef4⟩, ⟨e5, ef5⟩, ⟨e6, ef6⟩, ⟨e7, ef7⟩, ⟨e8, ef8⟩, ⟨e9, ef9⟩, e10, ef10⟩ := m_facts R.out
  obtain ⟨dS, hdS1, hdS2⟩ := row46
  have HD := hide (And.intro hdS1 hdS2)
  have HX := hide hx
  have HF := hide hf'
  have HW : Hid (0 ≤ (⟨hand, 5, 2, g, bmp g ix, true⟩ : Stp).put ∧ (⟨hand, 5, 2, g, bmp g ix, true⟩ : Stp).put ≤ 18446744073709551615) := ⟨bmp_lo _ _, bmp_hi _ _⟩
  have HOK := hide hok
  have HG := hide hg
  have HI := hide hi
  clear hm h_ hx hf' hdS1 hdS2 hok hg hi
  go_enter Try.func141, Try.ntmps141
  go_wp2_with fail
  clear hW1 e0 ef0 e1 ef1 e2 ef2 e3 ef3 e4 ef4 e5 ef5 e6 ef6 e7 ef7 e8 ef8 e9 ef9 e10 ef10
  refine RG.region (ks := [(0, 7), (1, 8), (2, 9), (3, 10), (4, 11), (5, 12), (6, 13), (7, 14), (8, 15)]) (vals := fun i => match i with
      | 0 => .pointer (some ⟨b, 0, none⟩)
      | 1 => .pointer (some ⟨b, 0, none⟩)
      | 2 => .pointer (some ⟨b, 0, none⟩)
      | 3 => .pointer (some ⟨bm, 0, none⟩)
      | 4 => .pointer (some ⟨b, 0, none⟩)
      | 5 => .pointer (some ⟨b, 0, none⟩)
      | 6 => .pointer (some ⟨b, 5, none⟩)
      | 7 => .int .i64 ix
      | 8 => .agg #[.int .i64 x.hand, .int .i64 x.act, .int .i64 x.at_, .int .u64 x.had, .int .u64 x.put, .bool x.ok]
      | _ => undef) (x := 6) (WI := fun L v_ w' => RG.SW b 148 11 (mC hand fn g t ix gn c h l v) bm bw n f f' x w.heap.size W1 (L 8) (L 9) (L 10) v_ w') (by kernel_rfl) ?gg ?bk rfl ?dd ?xx (RG.SW.start R.out M.out RZ.out) ?does ?fin
  case gg =>
    intro i o ho
    have hi : i < 11 := by have := (Array.getElem?_eq_some_iff.1 ho).1; simpa using this
    match i, hi with
    | 0, _ | 1, _ | 2, _ | 3, _ | 4, _ | 5, _ | 6, _ | 7, _ | 8, _ | 9, _ | 10, _ => injection ho with ho; subst ho; rfl
  case bk =>
    intro i o ho
    have hi : i < 11 := by have := (Array.getElem?_eq_some_iff.1 ho).1; simpa using this
    match i, hi with
    | 0, _ | 1, _ | 2, _ | 3, _ | 4, _ | 5, _ | 6, _ | 7, _ | 8, _ | 9, _ | 10, _ => injection ho with ho; subst ho; simp [Region.binds]
  case dd =>
    intro k hk
    have hk' : k < 35 := by
      simp [RetN.D] at hk
      omega
    simpa using hk'
  case xx => simp
  case does =>
    intro i o ho
    have hi : i < 11 := by have := (Array.getElem?_eq_some_iff.1 ho).1; simpa using this
    match i, hi with
    | 0, _ => injection ho with ho; subst ho; exact RG.Does.read rfl (fun L v_ w' h => RG.SW.skip (by decide) (by decide) (by decide) h) (fun L a w' hI hd => ex_move rfl (hI.fix 0 (Reg.notD rfl) (by decide)))
    | 1, _ => injection ho with ho; subst ho; exact RG.Does.read rfl (fun L v_ w' h => RG.SW.skip (by decide) (by decide) (by decide) h) (fun L a w' hI hd => ex_nil rfl (hI.pure 0 _ _ rfl (hd ⟨0, .data⟩ (by simp) rfl)))
    | 2, _ => injection ho with ho; subst ho; exact RG.Does.read rfl (fun L v_ w' h => RG.SW.skip (by decide) (by decide) (by decide) h) (fun L a w' hI hd => ex_field rfl (hI.pure 1 _ _ rfl (hd ⟨1, .data⟩ (by simp) rfl)) (fieldM0 w' _))
    | 3, _ => injection ho with ho; subst ho; exact RG.Does.read rfl (fun L v_ w' h => RG.SW.skip (by decide) (by decide) (by decide) h) (fun L a w' hI hd => ex_move rfl (hI.fix 1 (Reg.notD rfl) (by decide)))
    | 4, _ => injection ho with ho; subst ho; exact RG.Does.read rfl (fun L v_ w' h => RG.SW.skip (by decide) (by decide) (by decide) h) (fun L a w' hI hd => ex_move rfl (hI.fix 0 (Reg.notD rfl) (by decide)))
    | 5, _ => injection ho with ho; subst ho; exact RG.Does.read rfl (fun L v_ w' h => RG.SW.skip (by decide) (by decide) (by decide) h) (fun L a w' hI hd => ex_nil rfl (hI.pure 4 _ _ rfl (hd ⟨4, .data⟩ (by simp) rfl)))
    | 6, _ => injection ho with ho; subst ho; exact RG.Does.read rfl (fun L v_ w' h => RG.SW.skip (by decide) (by decide) (by decide) h) (fun L a w' hI hd => ex_field rfl (hI.pure 5 _ _ rfl (hd ⟨5, .data⟩ (by simp) rfl)) (fieldM1 w' _))
    | 7, _ => injection ho with ho; subst ho; exact RG.Does.read rfl (fun L v_ w' h => RG.SW.skip (by decide) (by decide) (by decide) h) (fun L a w' hI hd => ex_load rfl (hI.pure 6 _ _ rfl (hd ⟨6, .data⟩ (by simp) rfl)) (aggI w') (hI.world.row.cell (i := 5) (by omega)))
    | 8, _ => injection ho with ho; subst ho; exact RG.Does.call rfl (fun L a w' hI hd => call3 rfl (hI.pure 2 _ _ rfl (hd ⟨2, .data⟩ (by simp) rfl)) (hI.pure 3 _ _ rfl (hd ⟨3, .data⟩ (by simp) rfl)) (hI.pure 7 _ _ rfl (hd ⟨7, .data⟩ (by simp) rfl)) rfl (by simp [go_sem])) (SWcalls h2 hn4 (by decide) (by decide) (fun w2 R2 M2 => turnGrey_any (R2.cell (i := 0) (by omega)) (R2.cell (i := 2) (by omega)) R2.lt h2 HG.out M2 HX.out HF.out))
    | 9, _ => injection ho with ho; subst ho; exact RG.Does.make (u := fun w' => .pointer (some ⟨w'.heap.size, 0, none⟩)) rfl rfl (fun ev w' => alloc46 rfl) (fun L v_ w' h hL => by have := RG.SW.make h hL; rw [← upd_same L 9 true] at this; simpa only [upd_other _ _ (show 8 ≠ 9 by decide), upd_other _ _ (show 10 ≠ 9 by decide)] using this)
    | 10, _ => injection ho with ho; subst ho; exact RG.Does.put (ls := x.cells) rfl rfl rfl size46 (by simp [Stp.cells, Value.oneCell']) (fun L a w' hI hL hd => ⟨(hI.pure 8 _ _ rfl (hd ⟨8, .data⟩ (by simp) rfl)), by obtain ⟨q, e1, e2, e3⟩ := RG.SW.put hI.world (hd ⟨8, .data⟩ (by simp) rfl) (hd ⟨9, .data⟩ (by simp) rfl) hL; exact ⟨q, 0, e1, e2, by rw [← upd_same L 10 true] at e3; simpa only [upd_other _ _ (show 8 ≠ 10 by decide), upd_other _ _ (show 9 ≠ 10 by decide)] using e3⟩⟩)
  case fin =>
    intro L a' w1 hI hall
    have hw := hI.world
    simp only [hall 8 (by decide), hall 9 (by decide), hall 10 (by decide), if_true] at hw
    obtain ⟨q, hq, hq1, hq2, _, hr⟩ := hw.own rfl
    replace hr := hr rfl
    have ea := act_all a' 35 (by rw [hI.sz]; rfl) hI.df
    simp only [List.range, List.range.loop, List.map] at ea
    rw [hI.fix 0 (Reg.notD rfl) (by decide), hI.fix 1 (Reg.notD rfl) (by decide), hI.fix 2 (Reg.notD rfl) (by decide), hI.fix 3 (Reg.notD rfl) (by decide), hI.fix 4 (Reg.notD rfl) (by decide), hI.fix 5 (Reg.notD rfl) (by decide), hI.fix 16 (Reg.notD rfl) (by decide), hI.fix 17 (Reg.notD rfl) (by decide), hI.fix 18 (Reg.notD rfl) (by decide), hI.fix 19 (Reg.notD rfl) (by decide), hI.fix 20 (Reg.notD rfl) (by decide), hI.fix 21 (Reg.notD rfl) (by decide), hI.fix 22 (Reg.notD rfl) (by decide), hI.fix 23 (Reg.notD rfl) (by decide), hI.fix 24 (Reg.notD rfl) (by decide), hI.fix 25 (Reg.notD rfl) (by decide), hI.fix 26 (Reg.notD rfl) (by decide), hI.fix 27 (Reg.notD rfl) (by decide), hI.fix 28 (Reg.notD rfl) (by decide), hI.fix 29 (Reg.notD rfl) (by decide), hI.fix 30 (Reg.notD rfl) (by decide), hI.fix 31 (Reg.notD rfl) (by decide), hI.fix 32 (Reg.notD rfl) (by decide), hI.fix 33 (Reg.notD rfl) (by decide), hI.fix 34 (Reg.notD rfl) (by decide), hq] at ea
    clear hI hall
    generalize a'.eval (.tmp 7) = u7 at ea
    generalize a'.eval (.tmp 8) = u8 at ea
    generalize a'.eval (.tmp 9) = u9 at ea
    generalize a'.eval (.tmp 10) = u10 at ea
    generalize a'.eval (.tmp 11) = u11 at ea
    generalize a'.eval (.tmp 12) = u12 at ea
    generalize a'.eval (.tmp 13) = u13 at ea
    generalize a'.eval (.tmp 14) = u14 at ea
    generalize a'.eval (.tmp 15) = u15 at ea
    simp only [show ∀ (ts : Array Value) (ds) (i : Nat), (Act.mk ts ds).eval (.tmp i) = ts.getD i undef from fun _ _ _ => rfl] at ea
    simp at ea
    subst ea
    have M1 := hide (show IsMem w1 bm bw n f' from by simpa using hw.mem)
    have R1 := hide hw.row
    have RR := hide hw.res
    have T1 := hide (T0.out.trans' hw.tch (fun k _ h => .inr h))
    have RQ := hide hr
    have hqb : q ≠ b := by omega
    have hqr : q ≠ w.heap.size := by omega
    have hqm : q ≠ bm ∧ q ≠ bw := by omega
    have lw1 := hw.tch.size
    have l1 : b < w1.heap.size := by omega
    have l2 : w.heap.size < w1.heap.size := by omega
    have l3 : q < w1.heap.size := by omega
    clear hw hr hq
    have s0 : w1.cell? ⟨q, 0, none⟩ = some (.int .i64 x.hand) := by have := RQ.out 0 _ rfl; simpa using this
    have s1 : w1.cell? ⟨q, 1, none⟩ = some (.int .i64 x.act) := by have := RQ.out 1 _ rfl; simpa using this
    have s2 : w1.cell? ⟨q, 2, none⟩ = some (.int .i64 x.at_) := by have := RQ.out 2 _ rfl; simpa using this
    have s3 : w1.cell? ⟨q, 3, none⟩ = some (.int .u64 x.had) := by have := RQ.out 3 _ rfl; simpa using this
    have s4 : w1.cell? ⟨q, 4, none⟩ = some (.int .u64 x.put) := by have := RQ.out 4 _ rfl; simpa using this
    have s5 : w1.cell? ⟨q, 5, none⟩ = some (.bool x.ok) := by have := RQ.out 5 _ rfl; simpa using this
    have Rw1 := R1
    have Mw1 := M1
    have Qw1 := RR
    have Sw1 := RQ
    have Tw1 := T1
    have hok := HOK.out
    have s5' : w1.cell? ⟨q, 5, none⟩ = some (.bool true) := by rw [s5, hok]
    clear s5 hok
    go_wp2_with fail
    clear s0 s1 s2 s3 s4 s5'
    refine RG.region (ks := [(0, 26), (1, 27), (2, 28), (3, 29), (4, 30), (5, 31), (6, 32), (7, 33), (8, 34), (10, 5)]) (vals := fun i => match i with
          | 0 => .agg #[.int .i64 x.hand, .int .i64 x.act, .int .i64 x.at_, .int .u64 x.had, .int .u64 x.put, .bool x.ok]
          | 1 => .pointer (some ⟨b, 0, none⟩)
          | 2 => .pointer (some ⟨b, 0, none⟩)
          | 3 => .pointer (some ⟨b, 0, none⟩)
          | 4 => .pointer (some ⟨b, 0, none⟩)
          | 5 => .pointer (some ⟨b, 0, none⟩)
          | 6 => .pointer (some ⟨b, 5, none⟩)
          | 7 => .int .i64 ix
          | 8 => .int .i64 1
          | 10 => .int .i64 1
          | _ => undef) (x := 2) (WI := fun L v_ w' => RG.SX b 148 11 (fun c_ g_ => mC hand fn g (if g_ = true then ⟨true, ix⟩ else t) ix gn c h l v) bm bw n f' f' x w.heap.size (some q) w1 true (L 8) (L 9) w') (by kernel_rfl) ?gg ?bk rfl ?dd ?xx (RG.SX.start (c := true) (g := false) Rw1.out (by simpa using Mw1.out) Qw1.out ⟨h1, h2, hn3, hn5, hn4⟩ (fun k e => by cases e; exact ⟨Sw1.out, by omega, hqb, hqm.2, hqr⟩)) ?does ?fin
    case gg =>
      intro i o ho
      have hi : i < 11 := by have := (Array.getElem?_eq_some_iff.1 ho).1; simpa using this
      match i, hi with
      | 0, _ | 1, _ | 2, _ | 3, _ | 4, _ | 5, _ | 6, _ | 7, _ | 8, _ | 9, _ | 10, _ => injection ho with ho; subst ho; rfl
    case bk =>
      intro i o ho
      have hi : i < 11 := by have := (Array.getElem?_eq_some_iff.1 ho).1; simpa using this
      match i, hi with
      | 0, _ | 1, _ | 2, _ | 3, _ | 4, _ | 5, _ | 6, _ | 7, _ | 8, _ | 9, _ | 10, _ => injection ho with ho; subst ho; simp [Region.binds]
    case dd =>
      intro k hk
      have hk' : k < 35 := by
        simp [RetN.D] at hk
        omega
      simpa using hk'
    case xx => simp
    case does =>
      intro i o ho
      have hi : i < 11 := by have := (Array.getElem?_eq_some_iff.1 ho).1; simpa using this
      match i, hi with
      | 0, _ => injection ho with ho; subst ho; exact RG.Does.read rfl (fun L v_ w' h => RG.SX.skip2 (by decide) (by decide) h) (fun L a w' hI hd => ex_load_row rfl (hI.fix 6 (Reg.notD rfl) (by decide)) (hI.world.var _ rfl).1 HD.out.1 HD.out.2 size46)
      | 1, _ => injection ho with ho; subst ho; exact RG.Does.read rfl (fun L v_ w' h => RG.SX.skip2 (by decide) (by decide) h) (fun L a w' hI hd => ex_move rfl (hI.fix 0 (Reg.notD rfl) (by decide)))
      | 2, _ => injection ho with ho; subst ho; exact RG.Does.read rfl (fun L v_ w' h => RG.SX.skip2 (by decide) (by decide) h) (fun L a w' hI hd => ex_nil rfl (hI.pure 1 _ _ rfl (hd ⟨1, .data⟩ (by simp) rfl)))
      | 3, _ => injection ho with ho; subst ho; exact RG.Does.read rfl (fun L v_ w' h => RG.SX.skip2 (by decide) (by decide) h) (fun L a w' hI hd => ex_field rfl (hI.pure 2 _ _ rfl (hd ⟨2, .data⟩ (by simp) rfl)) (fieldM0 w' _))
      | 4, _ => injection ho with ho; subst ho; exact RG.Does.read rfl (fun L v_ w' h => RG.SX.skip2 (by decide) (by decide) h) (fun L a w' hI hd => ex_move rfl (hI.fix 0 (Reg.notD rfl) (by decide)))
      | 5, _ => injection ho with ho; subst ho; exact RG.Does.read rfl (fun L v_ w' h => RG.SX.skip2 (by decide) (by decide) h) (fun L a w' hI hd => ex_nil rfl (hI.pure 4 _ _ rfl (hd ⟨4, .data⟩ (by simp) rfl)))
      | 6, _ => injection ho with ho; subst ho; exact RG.Does.read rfl (fun L v_ w' h => RG.SX.skip2 (by decide) (by decide) h) (fun L a w' hI hd => ex_field rfl (hI.pure 5 _ _ rfl (hd ⟨5, .data⟩ (by simp) rfl)) (fieldM1 w' _))
      | 7, _ => injection ho with ho; subst ho; exact RG.Does.read rfl (fun L v_ w' h => RG.SX.skip2 (by decide) (by decide) h) (fun L a w' hI hd => ex_load rfl (hI.pure 6 _ _ rfl (hd ⟨6, .data⟩ (by simp) rfl)) (aggI w') (hI.world.row.cell (i := 5) (by omega)))
      | 8, _ => injection ho with ho; subst ho; exact RG.Does.call rfl (fun L a w' hI hd => call2 rfl (hI.pure 3 _ _ rfl (hd ⟨3, .data⟩ (by simp) rfl)) (hI.pure 7 _ _ rfl (hd ⟨7, .data⟩ (by simp) rfl)) rfl (by simp [go_sem])) (fun L v_ w2 hI hL => by have h3 := hI; rw [hL] at h3; refine (end_any (show 0 ≤ ix ∧ ix ≤ 18446744073709551615 by have := HI.out; omega) h3.row (by omega)).mono ?_; rintro e w3 ⟨rfl, r3, t3⟩; refine ⟨rfl, ?_⟩; rw [upd_same, upd_other _ _ (show 9 ≠ 8 by decide)]; exact h3.turn (g' := true) (r3.congr (fun i hi => m_told _ _ _ _ _ _ _ _ _ _ _ i hi)) ⟨h3.mem.head.of_block (t3.block _ h3.mem.head.lt (fun e => h1 e.symm)), h3.mem.row.of_block (t3.block _ h3.mem.row.lt (fun e => h2 e.symm)), h3.mem.most, h3.mem.word⟩ t3 (fun k e => .inl e))
      | 9, _ => injection ho with ho; subst ho; exact RG.Does.put (ls := x.cells) rfl rfl rfl size46 (by simp [Stp.cells, Value.oneCell']) (fun L a w' hI hL hd => ⟨(hI.pure 0 _ _ rfl (hd ⟨0, .data⟩ (by simp) rfl)), by obtain ⟨e2, e3⟩ := RG.SX.put hI.world; exact ⟨w.heap.size, 0, hI.fix 4 (Reg.notD rfl) (by decide), e2, by show RG.SX b 148 11 (fun c_ g_ => mC hand fn g (if g_ = true then ⟨true, ix⟩ else t) ix gn c h l v) bm bw n f' f' x w.heap.size (some q) w1 true (upd L 9 true 8) (upd L 9 true 9) _; rw [upd_same, upd_other _ _ (show 8 ≠ 9 by decide)]; exact e3⟩⟩)
      | 10, _ => injection ho with ho; subst ho; exact RG.Does.read rfl (fun L v_ w' h => RG.SX.skip2 (by decide) (by decide) h) (fun L a w' hI hd => ex_assign rfl (hI.pure 8 _ _ rfl (hd ⟨8, .data⟩ (by simp) rfl)))
    case fin =>
      intro L a' w' hI hall
      rename_i K2 hK2
      refine hK2 _ _ ?_
      have hw := hI.world
      simp only [hall 8 (by decide), hall 9 (by decide)] at hw
      have rE := hw.sto rfl
      have pE : a'.eval (.tmp 4) = .pointer (some ⟨w.heap.size, 0, none⟩) := hI.fix 4 (Reg.notD rfl) (by decide)
      have pe : a'.eval (.tmp 5) = .int .i64 1 := hI.pure 10 5 _ rfl (hall 10 (by decide))
      have hdf : a'.defers = [] := hI.df
      have hS := run_loadVar_mid (P := Try.prog) w' w.heap.size 0 _ _ dS rE HD.out.1 HD.out.2 size46
      have hres := results_ct (Q := Try.prog) (fn := Try.f141) (tmps := a'.tmps) (t := 4) (t' := 5) (W := w') (by rfl) pE hS
      rw [show a'.tmps.getD 5 undef = .int .i64 1 from pe] at hres
      go_wp2
      exact bodyPost_ret (v := .tuple #[x.val, .int .i64 1]) hres hdf ⟨rfl, hw.row, by simpa using hw.mem, Tw1.out.trans' hw.tch (fun k hk h => by rcases h with h | h | h; exact .inl h; exact .inr h; omega)⟩
set_option maxHeartbeats 8000000 in
theorem lay_no {w : World} {b bm bw n : Nat} {f f' : Nat → Int} {x : Stp} {hand g ix gn c h l v : Int} {fn : Value} {t : Ans} (h_ : w.rowIs b 148 11 (mC hand fn g t ix gn c h l v)) (hm : IsMem w bm bw n f) (h1 : b ≠ bm) (h2 : b ≠ bw) (hg : 0 ≤ g ∧ g ≤ 18446744073709551615) (hi : 0 ≤ ix ∧ ix < 4294967296) (hok : x.ok = false)
    (hx : stepOf n f ⟨hand, 5, 2, g, bmp g ix, true⟩ = x) (hf' : wordsOf n f ⟨hand, 5, 2, g, bmp g ix, true⟩ = f') :
    Calls Try.prog 141 #[.pointer (some ⟨b, 0, none⟩), .pointer (some ⟨bm, 0, none⟩)] w fun e w' => e = .returned (.tuple #[x.val, .int .i64 0]) ∧
      w'.rowIs b 148 11 (mC hand (.func (.func 127) #[.pointer (some ⟨b, 0, none⟩)] #[]) g t ix gn c h l v) ∧ IsMem w' bm bw n f' ∧ Touch w w' (fun k => k = b ∨ k = bw) := by
  have hl := h_.lt
  have lw := hm.row.lt
  have lm := hm.head.lt
  have hn3 : w.heap.size ≠ b := by omega
  have hn4 : w.heap.size ≠ bw := by omega
  have hn5 : w.heap.size ≠ bm := by omega
  obtain ⟨W1, hW1⟩ : ∃ W1, w.alloc (.cells #[.int .i64 0, .int .i64 0, .int .i64 0, .int .u64 0, .int .u64 0, .bool false] 63) = W1 := ⟨_, rfl⟩
  have R := hide (show W1.rowIs b 148 11 (mC hand fn g t ix gn c h l v) from by rw [← hW1]; exact h_.alloc _)
  have M := hide (show IsMem W1 bm bw n f from by rw [← hW1]; exact hm.alloc _)
  have RZ := hide (show W1.rowIs w.heap.size 63 6 zcell from by rw [← hW1]; exact row0 w)
  have T0 := hide (show Touch w W1 (fun k => k = b ∨ k = bw) from by rw [← hW1]; exact (Touch.refl w _).alloc _)
  have sz : W1.heap.size = w.heap.size + 1 := by rw [← hW1]; simp
  have lW1 : b < W1.heap.size := by omega
  obtain ⟨⟨e0, ef0⟩, ⟨e1, ef1⟩, ⟨e2, ef2⟩, ⟨e3, ef3⟩, ⟨e4, ef4⟩, ⟨e5, ef5⟩, ⟨e6, ef6⟩, ⟨e7, ef7⟩, ⟨e8, ef8⟩, ⟨e9, ef9⟩, e10, ef10⟩ := m_facts R.out
  obtain ⟨dS, hdS1, hdS2⟩ := row46
  have HD := hide (And.intro hdS1 hdS2)
  have HX := hide hx
  have HF := hide hf'
  have HW : Hid (0 ≤ (⟨hand, 5, 2, g, bmp g ix, true⟩ : Stp).put ∧ (⟨hand, 5, 2, g, bmp g ix, true⟩ : Stp).put ≤ 18446744073709551615) := ⟨bmp_lo _ _, bmp_hi _ _⟩
  have HOK := hide hok
  have HG := hide hg
  have HI := hide hi
  clear hm h_ hx hf' hdS1 hdS2 hok hg hi
  go_enter Try.func141, Try.ntmps141
  go_wp2_with fail
  clear hW1 e0 ef0 e1 ef1 e2 ef2 e3 ef3 e4 ef4 e5 ef5 e6 ef6 e7 ef7 e8 ef8 e9 ef9 e10 ef10
  refine RG.region (ks := [(0, 7), (1, 8), (2, 9), (3, 10), (4, 11), (5, 12), (6, 13), (7, 14), (8, 15)]) (vals := fun i => match i with
      | 0 => .pointer (some ⟨b, 0, none⟩)
      | 1 => .pointer (some ⟨b, 0, none⟩)
      | 2 => .pointer (some ⟨b, 0, none⟩)
      | 3 => .pointer (some ⟨bm, 0, none⟩)
      | 4 => .pointer (some ⟨b, 0, none⟩)
      | 5 => .pointer (some ⟨b, 0, none⟩)
      | 6 => .pointer (some ⟨b, 5, none⟩)
      | 7 => .int .i64 ix
      | 8 => .agg #[.int .i64 x.hand, .int .i64 x.act, .int .i64 x.at_, .int .u64 x.had, .int .u64 x.put, .bool x.ok]
      | _ => undef) (x := 6) (WI := fun L v_ w' => RG.SW b 148 11 (mC hand fn g t ix gn c h l v) bm bw n f f' x w.heap.size W1 (L 8) (L 9) (L 10) v_ w') (by kernel_rfl) ?gg ?bk rfl ?dd ?xx (RG.SW.start R.out M.out RZ.out) ?does ?fin
  case gg =>
    intro i o ho
    have hi : i < 11 := by have := (Array.getElem?_eq_some_iff.1 ho).1; simpa using this
    match i, hi with
    | 0, _ | 1, _ | 2, _ | 3, _ | 4, _ | 5, _ | 6, _ | 7, _ | 8, _ | 9, _ | 10, _ => injection ho with ho; subst ho; rfl
  case bk =>
    intro i o ho
    have hi : i < 11 := by have := (Array.getElem?_eq_some_iff.1 ho).1; simpa using this
    match i, hi with
    | 0, _ | 1, _ | 2, _ | 3, _ | 4, _ | 5, _ | 6, _ | 7, _ | 8, _ | 9, _ | 10, _ => injection ho with ho; subst ho; simp [Region.binds]
  case dd =>
    intro k hk
    have hk' : k < 35 := by
      simp [RetN.D] at hk
      omega
    simpa using hk'
  case xx => simp
  case does =>
    intro i o ho
    have hi : i < 11 := by have := (Array.getElem?_eq_some_iff.1 ho).1; simpa using this
    match i, hi with
    | 0, _ => injection ho with ho; subst ho; exact RG.Does.read rfl (fun L v_ w' h => RG.SW.skip (by decide) (by decide) (by decide) h) (fun L a w' hI hd => ex_move rfl (hI.fix 0 (Reg.notD rfl) (by decide)))
    | 1, _ => injection ho with ho; subst ho; exact RG.Does.read rfl (fun L v_ w' h => RG.SW.skip (by decide) (by decide) (by decide) h) (fun L a w' hI hd => ex_nil rfl (hI.pure 0 _ _ rfl (hd ⟨0, .data⟩ (by simp) rfl)))
    | 2, _ => injection ho with ho; subst ho; exact RG.Does.read rfl (fun L v_ w' h => RG.SW.skip (by decide) (by decide) (by decide) h) (fun L a w' hI hd => ex_field rfl (hI.pure 1 _ _ rfl (hd ⟨1, .data⟩ (by simp) rfl)) (fieldM0 w' _))
    | 3, _ => injection ho with ho; subst ho; exact RG.Does.read rfl (fun L v_ w' h => RG.SW.skip (by decide) (by decide) (by decide) h) (fun L a w' hI hd => ex_move rfl (hI.fix 1 (Reg.notD rfl) (by decide)))
    | 4, _ => injection ho with ho; subst ho; exact RG.Does.read rfl (fun L v_ w' h => RG.SW.skip (by decide) (by decide) (by decide) h) (fun L a w' hI hd => ex_move rfl (hI.fix 0 (Reg.notD rfl) (by decide)))
    | 5, _ => injection ho with ho; subst ho; exact RG.Does.read rfl (fun L v_ w' h => RG.SW.skip (by decide) (by decide) (by decide) h) (fun L a w' hI hd => ex_nil rfl (hI.pure 4 _ _ rfl (hd ⟨4, .data⟩ (by simp) rfl)))
    | 6, _ => injection ho with ho; subst ho; exact RG.Does.read rfl (fun L v_ w' h => RG.SW.skip (by decide) (by decide) (by decide) h) (fun L a w' hI hd => ex_field rfl (hI.pure 5 _ _ rfl (hd ⟨5, .data⟩ (by simp) rfl)) (fieldM1 w' _))
    | 7, _ => injection ho with ho; subst ho; exact RG.Does.read rfl (fun L v_ w' h => RG.SW.skip (by decide) (by decide) (by decide) h) (fun L a w' hI hd => ex_load rfl (hI.pure 6 _ _ rfl (hd ⟨6, .data⟩ (by simp) rfl)) (aggI w') (hI.world.row.cell (i := 5) (by omega)))
    | 8, _ => injection ho with ho; subst ho; exact RG.Does.call rfl (fun L a w' hI hd => call3 rfl (hI.pure 2 _ _ rfl (hd ⟨2, .data⟩ (by simp) rfl)) (hI.pure 3 _ _ rfl (hd ⟨3, .data⟩ (by simp) rfl)) (hI.pure 7 _ _ rfl (hd ⟨7, .data⟩ (by simp) rfl)) rfl (by simp [go_sem])) (SWcalls h2 hn4 (by decide) (by decide) (fun w2 R2 M2 => turnGrey_any (R2.cell (i := 0) (by omega)) (R2.cell (i := 2) (by omega)) R2.lt h2 HG.out M2 HX.out HF.out))
    | 9, _ => injection ho with ho; subst ho; exact RG.Does.make (u := fun w' => .pointer (some ⟨w'.heap.size, 0, none⟩)) rfl rfl (fun ev w' => alloc46 rfl) (fun L v_ w' h hL => by have := RG.SW.make h hL; rw [← upd_same L 9 true] at this; simpa only [upd_other _ _ (show 8 ≠ 9 by decide), upd_other _ _ (show 10 ≠ 9 by decide)] using this)
    | 10, _ => injection ho with ho; subst ho; exact RG.Does.put (ls := x.cells) rfl rfl rfl size46 (by simp [Stp.cells, Value.oneCell']) (fun L a w' hI hL hd => ⟨(hI.pure 8 _ _ rfl (hd ⟨8, .data⟩ (by simp) rfl)), by obtain ⟨q, e1, e2, e3⟩ := RG.SW.put hI.world (hd ⟨8, .data⟩ (by simp) rfl) (hd ⟨9, .data⟩ (by simp) rfl) hL; exact ⟨q, 0, e1, e2, by rw [← upd_same L 10 true] at e3; simpa only [upd_other _ _ (show 8 ≠ 10 by decide), upd_other _ _ (show 9 ≠ 10 by decide)] using e3⟩⟩)
  case fin =>
    intro L a' w1 hI hall
    have hw := hI.world
    simp only [hall 8 (by decide), hall 9 (by decide), hall 10 (by decide), if_true] at hw
    obtain ⟨q, hq, hq1, hq2, _, hr⟩ := hw.own rfl
    replace hr := hr rfl
    have ea := act_all a' 35 (by rw [hI.sz]; rfl) hI.df
    simp only [List.range, List.range.loop, List.map] at ea
    rw [hI.fix 0 (Reg.notD rfl) (by decide), hI.fix 1 (Reg.notD rfl) (by decide), hI.fix 2 (Reg.notD rfl) (by decide), hI.fix 3 (Reg.notD rfl) (by decide), hI.fix 4 (Reg.notD rfl) (by decide), hI.fix 5 (Reg.notD rfl) (by decide), hI.fix 16 (Reg.notD rfl) (by decide), hI.fix 17 (Reg.notD rfl) (by decide), hI.fix 18 (Reg.notD rfl) (by decide), hI.fix 19 (Reg.notD rfl) (by decide), hI.fix 20 (Reg.notD rfl) (by decide), hI.fix 21 (Reg.notD rfl) (by decide), hI.fix 22 (Reg.notD rfl) (by decide), hI.fix 23 (Reg.notD rfl) (by decide), hI.fix 24 (Reg.notD rfl) (by decide), hI.fix 25 (Reg.notD rfl) (by decide), hI.fix 26 (Reg.notD rfl) (by decide), hI.fix 27 (Reg.notD rfl) (by decide), hI.fix 28 (Reg.notD rfl) (by decide), hI.fix 29 (Reg.notD rfl) (by decide), hI.fix 30 (Reg.notD rfl) (by decide), hI.fix 31 (Reg.notD rfl) (by decide), hI.fix 32 (Reg.notD rfl) (by decide), hI.fix 33 (Reg.notD rfl) (by decide), hI.fix 34 (Reg.notD rfl) (by decide), hq] at ea
    clear hI hall
    generalize a'.eval (.tmp 7) = u7 at ea
    generalize a'.eval (.tmp 8) = u8 at ea
    generalize a'.eval (.tmp 9) = u9 at ea
    generalize a'.eval (.tmp 10) = u10 at ea
    generalize a'.eval (.tmp 11) = u11 at ea
    generalize a'.eval (.tmp 12) = u12 at ea
    generalize a'.eval (.tmp 13) = u13 at ea
    generalize a'.eval (.tmp 14) = u14 at ea
    generalize a'.eval (.tmp 15) = u15 at ea
    simp only [show ∀ (ts : Array Value) (ds) (i : Nat), (Act.mk ts ds).eval (.tmp i) = ts.getD i undef from fun _ _ _ => rfl] at ea
    simp at ea
    subst ea
    have M1 := hide (show IsMem w1 bm bw n f' from by simpa using hw.mem)
    have R1 := hide hw.row
    have RR := hide hw.res
    have T1 := hide (T0.out.trans' hw.tch (fun k _ h => .inr h))
    have RQ := hide hr
    have hqb : q ≠ b := by omega
    have hqr : q ≠ w.heap.size := by omega
    have hqm : q ≠ bm ∧ q ≠ bw := by omega
    have lw1 := hw.tch.size
    have l1 : b < w1.heap.size := by omega
    have l2 : w.heap.size < w1.heap.size := by omega
    have l3 : q < w1.heap.size := by omega
    clear hw hr hq
    have s0 : w1.cell? ⟨q, 0, none⟩ = some (.int .i64 x.hand) := by have := RQ.out 0 _ rfl; simpa using this
    have s1 : w1.cell? ⟨q, 1, none⟩ = some (.int .i64 x.act) := by have := RQ.out 1 _ rfl; simpa using this
    have s2 : w1.cell? ⟨q, 2, none⟩ = some (.int .i64 x.at_) := by have := RQ.out 2 _ rfl; simpa using this
    have s3 : w1.cell? ⟨q, 3, none⟩ = some (.int .u64 x.had) := by have := RQ.out 3 _ rfl; simpa using this
    have s4 : w1.cell? ⟨q, 4, none⟩ = some (.int .u64 x.put) := by have := RQ.out 4 _ rfl; simpa using this
    have s5 : w1.cell? ⟨q, 5, none⟩ = some (.bool x.ok) := by have := RQ.out 5 _ rfl; simpa using this
    have Rw1 := R1
    have Mw1 := M1
    have Qw1 := RR
    have Sw1 := RQ
    have Tw1 := T1
    have hok := HOK.out
    have s5' : w1.cell? ⟨q, 5, none⟩ = some (.bool false) := by rw [s5, hok]
    clear s5 hok
    go_wp2_with fail
    clear s0 s1 s2 s3 s4 s5'
    refine RG.region (ks := [(0, 19), (1, 20), (2, 21), (3, 22), (4, 23), (5, 24), (6, 25), (8, 5)]) (vals := fun i => match i with
          | 0 => .agg #[.int .i64 x.hand, .int .i64 x.act, .int .i64 x.at_, .int .u64 x.had, .int .u64 x.put, .bool x.ok]
          | 1 => .pointer (some ⟨b, 0, none⟩)
          | 2 => .pointer (some ⟨b, 0, none⟩)
          | 3 => .pointer (some ⟨b, 0, none⟩)
          | 4 => .pointer (some ⟨b, 0, none⟩)
          | 5 => .func (.func 127) #[.pointer (some ⟨b, 0, none⟩)] #[]
          | 6 => .int .i64 0
          | 8 => .int .i64 0
          | _ => undef) (x := 2) (WI := fun L v_ w' => RG.SX b 148 11 (fun c_ g_ => mC hand (if g_ = true then (.func (.func 127) #[.pointer (some ⟨b, 0, none⟩)] #[]) else fn) g t ix gn c h l v) bm bw n f' f' x w.heap.size (some q) w1 true (L 6) (L 7) w') (by kernel_rfl) ?gg ?bk rfl ?dd ?xx (RG.SX.start (c := true) (g := false) Rw1.out (by simpa using Mw1.out) Qw1.out ⟨h1, h2, hn3, hn5, hn4⟩ (fun k e => by cases e; exact ⟨Sw1.out, by omega, hqb, hqm.2, hqr⟩)) ?does ?fin
    case gg =>
      intro i o ho
      have hi : i < 9 := by have := (Array.getElem?_eq_some_iff.1 ho).1; simpa using this
      match i, hi with
      | 0, _ | 1, _ | 2, _ | 3, _ | 4, _ | 5, _ | 6, _ | 7, _ | 8, _ => injection ho with ho; subst ho; rfl
    case bk =>
      intro i o ho
      have hi : i < 9 := by have := (Array.getElem?_eq_some_iff.1 ho).1; simpa using this
      match i, hi with
      | 0, _ | 1, _ | 2, _ | 3, _ | 4, _ | 5, _ | 6, _ | 7, _ | 8, _ => injection ho with ho; subst ho; simp [Region.binds]
    case dd =>
      intro k hk
      have hk' : k < 35 := by
        simp [RetN.D] at hk
        omega
      simpa using hk'
    case xx => simp
    case does =>
      intro i o ho
      have hi : i < 9 := by have := (Array.getElem?_eq_some_iff.1 ho).1; simpa using this
      match i, hi with
      | 0, _ => injection ho with ho; subst ho; exact RG.Does.read rfl (fun L v_ w' h => RG.SX.skip2 (by decide) (by decide) h) (fun L a w' hI hd => ex_load_row rfl (hI.fix 6 (Reg.notD rfl) (by decide)) (hI.world.var _ rfl).1 HD.out.1 HD.out.2 size46)
      | 1, _ => injection ho with ho; subst ho; exact RG.Does.read rfl (fun L v_ w' h => RG.SX.skip2 (by decide) (by decide) h) (fun L a w' hI hd => ex_move rfl (hI.fix 0 (Reg.notD rfl) (by decide)))
      | 2, _ => injection ho with ho; subst ho; exact RG.Does.read rfl (fun L v_ w' h => RG.SX.skip2 (by decide) (by decide) h) (fun L a w' hI hd => ex_nil rfl (hI.pure 1 _ _ rfl (hd ⟨1, .data⟩ (by simp) rfl)))
      | 3, _ => injection ho with ho; subst ho; exact RG.Does.read rfl (fun L v_ w' h => RG.SX.skip2 (by decide) (by decide) h) (fun L a w' hI hd => ex_field rfl (hI.pure 2 _ _ rfl (hd ⟨2, .data⟩ (by simp) rfl)) (fieldM0 w' _))
      | 4, _ => injection ho with ho; subst ho; exact RG.Does.read rfl (fun L v_ w' h => RG.SX.skip2 (by decide) (by decide) h) (fun L a w' hI hd => ex_move rfl (hI.fix 0 (Reg.notD rfl) (by decide)))
      | 5, _ => injection ho with ho; subst ho; exact RG.Does.read rfl (fun L v_ w' h => RG.SX.skip2 (by decide) (by decide) h) (fun L a w' hI hd => ex_func rfl (hI.pure 4 _ _ rfl (hd ⟨4, .data⟩ (by simp) rfl)))
      | 6, _ => injection ho with ho; subst ho; exact RG.Does.call rfl (fun L a w' hI hd => call2 rfl (hI.pure 3 _ _ rfl (hd ⟨3, .data⟩ (by simp) rfl)) (hI.pure 5 _ _ rfl (hd ⟨5, .data⟩ (by simp) rfl)) rfl (by simp [go_sem])) (fun L v_ w2 hI hL => by have h3 := hI; rw [hL] at h3; refine (goOn_any 127 h3.row (by omega)).mono ?_; rintro e w3 ⟨rfl, r3, t3⟩; refine ⟨rfl, ?_⟩; rw [upd_same, upd_other _ _ (show 7 ≠ 6 by decide)]; exact h3.turn (g' := true) (r3.congr (fun i hi => m_fn _ _ _ _ _ _ _ _ _ _ _ i hi)) ⟨h3.mem.head.of_block (t3.block _ h3.mem.head.lt (fun e => h1 e.symm)), h3.mem.row.of_block (t3.block _ h3.mem.row.lt (fun e => h2 e.symm)), h3.mem.most, h3.mem.word⟩ t3 (fun k e => .inl e))
      | 7, _ => injection ho with ho; subst ho; exact RG.Does.put (ls := x.cells) rfl rfl rfl size46 (by simp [Stp.cells, Value.oneCell']) (fun L a w' hI hL hd => ⟨(hI.pure 0 _ _ rfl (hd ⟨0, .data⟩ (by simp) rfl)), by obtain ⟨e2, e3⟩ := RG.SX.put hI.world; exact ⟨w.heap.size, 0, hI.fix 4 (Reg.notD rfl) (by decide), e2, by show RG.SX b 148 11 (fun c_ g_ => mC hand (if g_ = true then (.func (.func 127) #[.pointer (some ⟨b, 0, none⟩)] #[]) else fn) g t ix gn c h l v) bm bw n f' f' x w.heap.size (some q) w1 true (upd L 7 true 6) (upd L 7 true 7) _; rw [upd_same, upd_other _ _ (show 6 ≠ 7 by decide)]; exact e3⟩⟩)
      | 8, _ => injection ho with ho; subst ho; exact RG.Does.read rfl (fun L v_ w' h => RG.SX.skip2 (by decide) (by decide) h) (fun L a w' hI hd => ex_assign rfl (hI.pure 6 _ _ rfl (hd ⟨6, .data⟩ (by simp) rfl)))
    case fin =>
      intro L a' w' hI hall
      rename_i K2 hK2
      refine hK2 _ _ ?_
      have hw := hI.world
      simp only [hall 6 (by decide), hall 7 (by decide)] at hw
      have rE := hw.sto rfl
      have pE : a'.eval (.tmp 4) = .pointer (some ⟨w.heap.size, 0, none⟩) := hI.fix 4 (Reg.notD rfl) (by decide)
      have pe : a'.eval (.tmp 5) = .int .i64 0 := hI.pure 8 5 _ rfl (hall 8 (by decide))
      have hdf : a'.defers = [] := hI.df
      have hS := run_loadVar_mid (P := Try.prog) w' w.heap.size 0 _ _ dS rE HD.out.1 HD.out.2 size46
      have hres := results_ct (Q := Try.prog) (fn := Try.f141) (tmps := a'.tmps) (t := 4) (t' := 5) (W := w') (by rfl) pE hS
      rw [show a'.tmps.getD 5 undef = .int .i64 0 from pe] at hres
      go_wp2
      exact bodyPost_ret (v := .tuple #[x.val, .int .i64 0]) hres hdf ⟨rfl, hw.row, by simpa using hw.mem, Tw1.out.trans' hw.tch (fun k hk h => by rcases h with h | h | h; exact .inl h; exact .inr h; omega)⟩
end Shd
end Go.Proofs.Ytnodkeoikamonaa
