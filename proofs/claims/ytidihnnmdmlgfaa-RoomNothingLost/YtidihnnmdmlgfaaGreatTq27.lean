/-
  Lemmas: ListA.
-/
import Derived.Test.YtidihnnmdmlgfaaGreatTq26
namespace Go.Proofs.YtidihnnmdmlgfaaGreat
set_option maxHeartbeats 8000000
open Go.RowKit
set_option linter.unusedVariables false
set_option linter.unusedSimpArgs false
set_option maxRecDepth 20000
section
namespace Ls
open Hp
def lC (hand : Int) (fn v2 v3 : Value) (t : Ans) (lst g ix bh : Int) : Nat → Value := fun k => match k with | 0 => .int .i64 hand | 1 => fn | 2 => v2 | 3 => v3 | 4 => .bool t.ok | 5 => .int .u64 t.val | 6 => .int .i64 lst | 7 => .int .u64 g | 8 => .int .i64 ix | _ => .int .i64 bh
def dC (sh : Shp) (hand : Int) (fn v2 v3 : Value) (t : Ans) (lst g bl : Int) : Nat → Value := fun k => match k with | 0 => .int .i64 hand | 1 => fn | 2 => v2 | 3 => v3 | 4 => .bool t.ok | 5 => .int .u64 t.val | 6 => .int .i64 lst | 7 => .int .u64 g | 8 => .int .i64 sh.a | 9 => .int .i64 sh.b | 10 => .int .i64 sh.c | 11 => .int .i64 sh.d | 12 => .int .i64 sh.e | 13 => .int .i64 sh.f | _ => .int .i64 bl
theorem fieldL0 (w : World) (b : Nat) : (Instr.fieldAt 161 (.pointer (some ⟨b, 0, none⟩)) 0).run Tryz.prog w = .ok (.pointer (some ⟨b, 0, none⟩)) w := by simp [go_sem]
theorem fieldL1 (w : World) (b : Nat) : (Instr.fieldAt 161 (.pointer (some ⟨b, 0, none⟩)) 1).run Tryz.prog w = .ok (.pointer (some ⟨b, 8, none⟩)) w := by simp [go_sem]
theorem fieldL2 (w : World) (b : Nat) : (Instr.fieldAt 161 (.pointer (some ⟨b, 0, none⟩)) 2).run Tryz.prog w = .ok (.pointer (some ⟨b, 9, none⟩)) w := by simp [go_sem]
theorem l_fn (hand : Int) (fn v2 v3 : Value) (t : Ans) (lst g : Int) (ix bh : Int) (y : Value) (k : Nat) (hk : k < 10) : (fun k => if k = 1 then y else lC hand fn v2 v3 t lst g ix bh k) k = lC hand y v2 v3 t lst g ix bh k := by
  match k, hk with
  | 0, _ | 1, _ | 2, _ | 3, _ | 4, _ | 5, _ | 6, _ | 7, _ | 8, _ | 9, _ => rfl
theorem l_g (hand : Int) (fn v2 v3 : Value) (t : Ans) (lst g : Int) (ix bh : Int) (y : Int) (k : Nat) (hk : k < 10) : (fun k => if k = 7 then Value.int .u64 y else lC hand fn v2 v3 t lst g ix bh k) k = lC hand fn v2 v3 t lst y ix bh k := by
  match k, hk with
  | 0, _ | 1, _ | 2, _ | 3, _ | 4, _ | 5, _ | 6, _ | 7, _ | 8, _ | 9, _ => rfl
theorem l_told (hand : Int) (fn v2 v3 : Value) (t : Ans) (lst g : Int) (ix bh : Int) (y : Int) (k : Nat) (hk : k < 10) : (fun k => if k = 5 then Value.int .u64 y else if k = 4 then .bool true else lC hand fn v2 v3 t lst g ix bh k) k = lC hand fn v2 v3 ⟨true, y⟩ lst g ix bh k := by
  match k, hk with
  | 0, _ | 1, _ | 2, _ | 3, _ | 4, _ | 5, _ | 6, _ | 7, _ | 8, _ | 9, _ => rfl
theorem fieldD0 (w : World) (b : Nat) : (Instr.fieldAt 134 (.pointer (some ⟨b, 0, none⟩)) 0).run Tryz.prog w = .ok (.pointer (some ⟨b, 0, none⟩)) w := by simp [go_sem]
theorem fieldD1 (w : World) (b : Nat) : (Instr.fieldAt 134 (.pointer (some ⟨b, 0, none⟩)) 1).run Tryz.prog w = .ok (.pointer (some ⟨b, 8, none⟩)) w := by simp [go_sem]
theorem fieldD2 (w : World) (b : Nat) : (Instr.fieldAt 134 (.pointer (some ⟨b, 0, none⟩)) 2).run Tryz.prog w = .ok (.pointer (some ⟨b, 14, none⟩)) w := by simp [go_sem]
theorem d_fn (sh : Shp) (hand : Int) (fn v2 v3 : Value) (t : Ans) (lst g : Int) (bl : Int) (y : Value) (k : Nat) (hk : k < 15) : (fun k => if k = 1 then y else dC sh hand fn v2 v3 t lst g bl k) k = dC sh hand y v2 v3 t lst g bl k := by
  match k, hk with
  | 0, _ | 1, _ | 2, _ | 3, _ | 4, _ | 5, _ | 6, _ | 7, _ | 8, _ | 9, _ | 10, _ | 11, _ | 12, _ | 13, _ | 14, _ => rfl
theorem d_g (sh : Shp) (hand : Int) (fn v2 v3 : Value) (t : Ans) (lst g : Int) (bl : Int) (y : Int) (k : Nat) (hk : k < 15) : (fun k => if k = 7 then Value.int .u64 y else dC sh hand fn v2 v3 t lst g bl k) k = dC sh hand fn v2 v3 t lst y bl k := by
  match k, hk with
  | 0, _ | 1, _ | 2, _ | 3, _ | 4, _ | 5, _ | 6, _ | 7, _ | 8, _ | 9, _ | 10, _ | 11, _ | 12, _ | 13, _ | 14, _ => rfl
theorem d_bl (sh : Shp) (hand : Int) (fn v2 v3 : Value) (t : Ans) (lst g : Int) (bl : Int) (y : Int) (k : Nat) (hk : k < 15) : (fun k => if k = 14 then Value.int .i64 y else dC sh hand fn v2 v3 t lst g bl k) k = dC sh hand fn v2 v3 t lst g y k := by
  match k, hk with
  | 0, _ | 1, _ | 2, _ | 3, _ | 4, _ | 5, _ | 6, _ | 7, _ | 8, _ | 9, _ | 10, _ | 11, _ | 12, _ | 13, _ | 14, _ => rfl
theorem d_told (sh : Shp) (hand : Int) (fn v2 v3 : Value) (t : Ans) (lst g : Int) (bl : Int) (y : Int) (k : Nat) (hk : k < 15) : (fun k => if k = 5 then Value.int .u64 y else if k = 4 then .bool true else dC sh hand fn v2 v3 t lst g bl k) k = dC sh hand fn v2 v3 ⟨true, y⟩ lst g bl k := by
  match k, hk with
  | 0, _ | 1, _ | 2, _ | 3, _ | 4, _ | 5, _ | 6, _ | 7, _ | 8, _ | 9, _ | 10, _ | 11, _ | 12, _ | 13, _ | 14, _ => rfl
theorem turnHead_any {w : World} {b bm bw n : Nat} {f f' : Nat → Int} {x : Stp} {hand at_ g i : Int} (c0 : w.cell? ⟨b, 0, none⟩ = some (.int .i64 hand)) (c6 : w.cell? ⟨b, 6, none⟩ = some (.int .i64 at_)) (c7 : w.cell? ⟨b, 7, none⟩ = some (.int .u64 g)) (hl : b < w.heap.size) (h2 : b ≠ bw) (hg : 0 ≤ g ∧ g ≤ 18446744073709551615) (hm : IsMem w bm bw n f) (hx : stepOf n f ⟨hand, 5, at_, g, bmp g i, true⟩ = x) (hf' : wordsOf n f ⟨hand, 5, at_, g, bmp g i, true⟩ = f') :
    Calls Tryz.prog 89 #[.pointer (some ⟨b, 0, none⟩), .pointer (some ⟨bm, 0, none⟩), .int .i64 i] w fun e w' => e = .returned x.val ∧ IsMem w' bm bw n f' ∧ w.grownBy w' (some bw) := by
  have lw := hm.row.lt
  have lm := hm.head.lt
  have KC := hide (fun (w1 : World) (h1 : IsMem w1 bm bw n f) (h2 : w1.cell? ⟨b, 0, none⟩ = some (.int .i64 hand)) (h3 : b < w1.heap.size) => cas_any h2 h3 h1 ⟨bmp_lo g i, bmp_hi g i⟩ hx hf')
  have BP := hide (fun w1 : World => bump_any g i hg.1 (by omega) w1)
  obtain ⟨W1, hW1⟩ : ∃ W1, w.alloc (.cells #[.int .i64 0, .int .i64 0, .int .i64 0, .int .u64 0, .int .u64 0, .bool false] 122) = W1 := ⟨_, rfl⟩
  have RZ := hide (show W1.rowIs w.heap.size 122 6 zcell from by rw [← hW1]; exact row0 w)
  have M := hide (show IsMem W1 bm bw n f from by rw [← hW1]; exact hm.alloc _)
  have B0 : Below w.heap.size w W1 := by rw [← hW1]; exact (Below.refl _ w).alloc (Nat.le_refl _) _
  have e0 : W1.cell? ⟨b, 0, none⟩ = some (.int .i64 hand) := (B0.cell (p := ⟨b, 0, none⟩) hl).trans c0
  have e6 : W1.cell? ⟨b, 6, none⟩ = some (.int .i64 at_) := (B0.cell (p := ⟨b, 6, none⟩) hl).trans c6
  have e7 : W1.cell? ⟨b, 7, none⟩ = some (.int .u64 g) := (B0.cell (p := ⟨b, 7, none⟩) hl).trans c7
  clear B0
  have sz : W1.heap.size = w.heap.size + 1 := by rw [← hW1]; simp
  have lb : b < W1.heap.size := by omega
  have G0 := hide (show w.grownBy W1 (some bw) from by rw [← hW1]; exact grown_alloc (grown_refl w (some bw)) _)
  clear hm hx hf' hg
  go_enter Tryz.func89, Tryz.ntmps89
  go_wp2_with fail
  clear hW1 c0 c6 c7
  have hn4 : w.heap.size ≠ bw := by omega
  have hn3 : w.heap.size ≠ b := by omega
  have hn6 : b ≠ w.heap.size := by omega
  have hn7 : bm ≠ w.heap.size := by omega
  have hn8 : bw ≠ w.heap.size := by omega
  go_region_held (fun w' => w'.cell? ⟨b, 6, none⟩ = some (.int .i64 at_) ∧ w'.cell? ⟨b, 7, none⟩ = some (.int .u64 g)) (go_keep) (first | (go_at_call 101; refine (BP.out _).mono ?_; rintro e wq ⟨rfl, hwq⟩; obtain rfl := hwq.symm) | (go_at_call 100; refine (KC.out _ (by with_reducible exact M.out.drew) (by simpa using e0) (by simpa using lb)).mono ?_; rintro e w1 ⟨rfl, hm1, hg1⟩; have G1 := hide (grown_trans (grown_drew G0.out) hg1); have M1 := hide hm1; have RR := hide (RZ.out.drew.of_block (hg1.block w.heap.size (by simp; omega) (by simpa using hn4))); have s1 := hg1.size; have k6 : w1.cell? ⟨b, 6, none⟩ = some (.int .i64 at_) := (cell_of_block (hg1.block b (by simpa using lb) (by simpa using h2)) 6).trans (by simpa using e6); have k7 : w1.cell? ⟨b, 7, none⟩ = some (.int .u64 g) := (cell_of_block (hg1.block b (by simpa using lb) (by simpa using h2)) 7).trans (by simpa using e7); have l2 : w.heap.size < w1.heap.size := (by simp only [World.size_drew] at s1; omega); obtain ⟨⟨r0, rf0⟩, ⟨r1, rf1⟩, ⟨r2, rf2⟩, ⟨r3, rf3⟩, ⟨r4, rf4⟩, r5, rf5⟩ := res_facts RR.out; simp only [Stp.val]; clear hm1 hg1))
  all_goals go_wp2_with fail
  all_goals go_light
  all_goals refine bodyPost_ret (v := x.val) ?res rfl ⟨rfl, ?mem, ?gro⟩
  case mem =>
    repeat (first | (with_reducible apply IsMem.alloc) | (with_reducible apply IsMem.drew) | ((with_reducible refine IsMem.setOther ?_ ?_ ?_ _); rotate_left; (simp; omega); (simp; omega)))
    with_reducible exact M1.out
  case gro =>
    repeat (with_reducible refine grown_setCell ?_ _ (.inr (Nat.le_refl _)) _)
    with_reducible exact G1.out
  case res => simp [results, Tryz.results89, go_sem, Stp.val, *]
theorem l_loadHead {w : World} {b bm bw n : Nat} {f f' : Nat → Int} {x : Stp} {hand : Int} {fn v2 v3 : Value} {t : Ans} {lst g : Int} {ix bh : Int} (h_ : w.rowIs b 161 10 (lC hand fn v2 v3 t lst g ix bh)) (hm : IsMem w bm bw n f) (h1 : b ≠ bm) (h2 : b ≠ bw)
    (hx : stepOf n f (⟨hand, 1, lst, 0, 0, true⟩ : Stp) = x) (hf' : wordsOf n f (⟨hand, 1, lst, 0, 0, true⟩ : Stp) = f') :
    Calls Tryz.prog 64 #[.pointer (some ⟨b, 0, none⟩), .pointer (some ⟨bm, 0, none⟩)] w fun e w' => e = .returned x.val ∧
      w'.rowIs b 161 10 (lC hand fn v2 v3 t lst x.had ix bh) ∧ IsMem w' bm bw n f' ∧ Touch w w' (fun k => k = b ∨ k = bw) := by
  have hl := h_.lt
  have lw := hm.row.lt
  have lm := hm.head.lt
  have hn3 : w.heap.size ≠ b := by omega
  have hn4 : w.heap.size ≠ bw := by omega
  have hn5 : w.heap.size ≠ bm := by omega
  obtain ⟨W1, hW1⟩ : ∃ W1, w.alloc (.cells #[.int .i64 0, .int .i64 0, .int .i64 0, .int .u64 0, .int .u64 0, .bool false] 122) = W1 := ⟨_, rfl⟩
  have R := hide (show W1.rowIs b 161 10 (lC hand fn v2 v3 t lst g ix bh) from by rw [← hW1]; exact h_.alloc _)
  have M := hide (show IsMem W1 bm bw n f from by rw [← hW1]; exact hm.alloc _)
  have RZ := hide (show W1.rowIs w.heap.size 122 6 zcell from by rw [← hW1]; exact row0 w)
  have T0 := hide (show Touch w W1 (fun k => k = b ∨ k = bw) from by rw [← hW1]; exact (Touch.refl w _).alloc _)
  have sz : W1.heap.size = w.heap.size + 1 := by rw [← hW1]; simp
  have lW1 : b < W1.heap.size := by omega
  obtain ⟨dS, hdS1, hdS2⟩ := row46
  have HD := hide (And.intro hdS1 hdS2)
  obtain ⟨dG, hdG1, hdG2⟩ := rowSh
  have HDS := hide (And.intro hdG1 hdG2)
  have HX := hide hx
  have HF := hide hf'
  have HW : Hid (0 ≤ ((⟨hand, 1, lst, 0, 0, true⟩ : Stp) : Stp).put ∧ ((⟨hand, 1, lst, 0, 0, true⟩ : Stp) : Stp).put ≤ 18446744073709551615) := ⟨by show (0 : Int) ≤ 0; omega, by show (0 : Int) ≤ 18446744073709551615; omega⟩
  clear hm h_ hx hf' hdS1 hdS2 hdG1 hdG2
  go_enter Tryz.func64, Tryz.ntmps64
  go_wp2_with fail
  clear hW1
  refine RG.region (ks := [(0, 6), (1, 7), (2, 8), (3, 9), (4, 10), (5, 11), (6, 12), (7, 13), (8, 14)]) (vals := fun i => match i with
      | 0 => .pointer (some ⟨b, 0, none⟩)
      | 1 => .pointer (some ⟨b, 0, none⟩)
      | 2 => .pointer (some ⟨b, 0, none⟩)
      | 3 => .pointer (some ⟨bm, 0, none⟩)
      | 4 => .pointer (some ⟨b, 0, none⟩)
      | 5 => .pointer (some ⟨b, 0, none⟩)
      | 6 => .pointer (some ⟨b, 6, none⟩)
      | 7 => .int .i64 lst
      | 8 => .agg #[.int .i64 x.hand, .int .i64 x.act, .int .i64 x.at_, .int .u64 x.had, .int .u64 x.put, .bool x.ok]
      | _ => undef) (x := 5) (WI := fun L v_ w' => RG.SW b 161 10 (lC hand fn v2 v3 t lst g ix bh) bm bw n f f' x w.heap.size W1 (L 8) (L 9) (L 10) v_ w') (by kernel_rfl) ?gg ?bk rfl ?dd ?xx (RG.SW.start R.out M.out RZ.out) ?does ?fin
  case gg =>
    intro i o ho
    have hi : i < 11 := by have := (Array.getElem?_eq_some_iff.1 ho).1; simpa using this
    match i, hi with
    | 0, _ | 1, _ | 2, _ | 3, _ | 4, _ | 5, _ | 6, _ | 7, _ | 8, _ | 9, _ | 10, _ => injection ho with ho; subst ho; rfl
  case bk =>
    intro i o ho
    have hi : i < 11 := by have := (Array.getElem?_eq_some_iff.1 ho).1; simpa using this
    match i, hi with
    | 0, _ | 1, _ | 2, _ | 3, _ | 4, _ | 5, _ | 6, _ | 7, _ | 8, _ | 9, _ | 10, _ => injection ho with ho; subst ho; simp [Region.binds]
  case dd =>
    intro k hk
    have hk' : k < 21 := by
      simp [RetN.D] at hk
      omega
    simpa using hk'
  case xx => simp
  case does =>
    intro i o ho
    have hi : i < 11 := by have := (Array.getElem?_eq_some_iff.1 ho).1; simpa using this
    match i, hi with
    | 0, _ => injection ho with ho; subst ho; exact RG.Does.read rfl (fun L v_ w' h => RG.SW.skip (by decide) (by decide) (by decide) h) (fun L a w' hI hd => ex_move rfl (hI.fix 0 (Reg.notD rfl) (by decide)))
    | 1, _ => injection ho with ho; subst ho; exact RG.Does.read rfl (fun L v_ w' h => RG.SW.skip (by decide) (by decide) (by decide) h) (fun L a w' hI hd => ex_nil rfl (hI.pure 0 _ _ rfl (hd ⟨0, .data⟩ (by simp) rfl)))
    | 2, _ => injection ho with ho; subst ho; exact RG.Does.read rfl (fun L v_ w' h => RG.SW.skip (by decide) (by decide) (by decide) h) (fun L a w' hI hd => ex_field rfl (hI.pure 1 _ _ rfl (hd ⟨1, .data⟩ (by simp) rfl)) (fieldLs0 w' _))
    | 3, _ => injection ho with ho; subst ho; exact RG.Does.read rfl (fun L v_ w' h => RG.SW.skip (by decide) (by decide) (by decide) h) (fun L a w' hI hd => ex_move rfl (hI.fix 1 (Reg.notD rfl) (by decide)))
    | 4, _ => injection ho with ho; subst ho; exact RG.Does.read rfl (fun L v_ w' h => RG.SW.skip (by decide) (by decide) (by decide) h) (fun L a w' hI hd => ex_move rfl (hI.fix 0 (Reg.notD rfl) (by decide)))
    | 5, _ => injection ho with ho; subst ho; exact RG.Does.read rfl (fun L v_ w' h => RG.SW.skip (by decide) (by decide) (by decide) h) (fun L a w' hI hd => ex_nil rfl (hI.pure 4 _ _ rfl (hd ⟨4, .data⟩ (by simp) rfl)))
    | 6, _ => injection ho with ho; subst ho; exact RG.Does.read rfl (fun L v_ w' h => RG.SW.skip (by decide) (by decide) (by decide) h) (fun L a w' hI hd => ex_field rfl (hI.pure 5 _ _ rfl (hd ⟨5, .data⟩ (by simp) rfl)) (fieldLs1 w' _))
    | 7, _ => injection ho with ho; subst ho; exact RG.Does.read rfl (fun L v_ w' h => RG.SW.skip (by decide) (by decide) (by decide) h) (fun L a w' hI hd => ex_load rfl (hI.pure 6 _ _ rfl (hd ⟨6, .data⟩ (by simp) rfl)) (aggI w') (hI.world.row.cell (i := 6) (by omega)))
    | 8, _ => injection ho with ho; subst ho; exact RG.Does.call rfl (fun L a w' hI hd => call3 rfl (hI.pure 2 _ _ rfl (hd ⟨2, .data⟩ (by simp) rfl)) (hI.pure 3 _ _ rfl (hd ⟨3, .data⟩ (by simp) rfl)) (hI.pure 7 _ _ rfl (hd ⟨7, .data⟩ (by simp) rfl)) rfl (by simp [go_sem])) (SWcalls h2 hn4 (by decide) (by decide) (fun w2 R2 M2 => load_any (R2.cell (i := 0) (by omega)) R2.lt M2 HW.out HX.out HF.out))
    | 9, _ => injection ho with ho; subst ho; exact RG.Does.make (u := fun w' => .pointer (some ⟨w'.heap.size, 0, none⟩)) rfl rfl (fun ev w' => alloc46 rfl) (fun L v_ w' h hL => by have := RG.SW.make h hL; rw [← upd_same L 9 true] at this; simpa only [upd_other _ _ (show 8 ≠ 9 by decide), upd_other _ _ (show 10 ≠ 9 by decide)] using this)
    | 10, _ => injection ho with ho; subst ho; exact RG.Does.put (ls := x.cells) rfl rfl rfl size46 (by simp [Stp.cells, Value.oneCell']) (fun L a w' hI hL hd => ⟨(hI.pure 8 _ _ rfl (hd ⟨8, .data⟩ (by simp) rfl)), by obtain ⟨q, e1, e2, e3⟩ := RG.SW.put hI.world (hd ⟨8, .data⟩ (by simp) rfl) (hd ⟨9, .data⟩ (by simp) rfl) hL; exact ⟨q, 0, e1, e2, by rw [← upd_same L 10 true] at e3; simpa only [upd_other _ _ (show 8 ≠ 10 by decide), upd_other _ _ (show 9 ≠ 10 by decide)] using e3⟩⟩)
  case fin =>
    intro L a' w1 hI hall
    have hw := hI.world
    simp only [hall 8 (by decide), hall 9 (by decide), hall 10 (by decide), if_true] at hw
    obtain ⟨q, hq, hq1, hq2, _, hr⟩ := hw.own rfl
    replace hr := hr rfl
    have ea := act_all a' 21 (by rw [hI.sz]; rfl) hI.df
    simp only [List.range, List.range.loop, List.map] at ea
    rw [hI.fix 0 (Reg.notD rfl) (by decide), hI.fix 1 (Reg.notD rfl) (by decide), hI.fix 2 (Reg.notD rfl) (by decide), hI.fix 3 (Reg.notD rfl) (by decide), hI.fix 4 (Reg.notD rfl) (by decide), hI.fix 15 (Reg.notD rfl) (by decide), hI.fix 16 (Reg.notD rfl) (by decide), hI.fix 17 (Reg.notD rfl) (by decide), hI.fix 18 (Reg.notD rfl) (by decide), hI.fix 19 (Reg.notD rfl) (by decide), hI.fix 20 (Reg.notD rfl) (by decide), hq] at ea
    clear hI hall
    generalize a'.eval (.tmp 6) = u6 at ea
    generalize a'.eval (.tmp 7) = u7 at ea
    generalize a'.eval (.tmp 8) = u8 at ea
    generalize a'.eval (.tmp 9) = u9 at ea
    generalize a'.eval (.tmp 10) = u10 at ea
    generalize a'.eval (.tmp 11) = u11 at ea
    generalize a'.eval (.tmp 12) = u12 at ea
    generalize a'.eval (.tmp 13) = u13 at ea
    generalize a'.eval (.tmp 14) = u14 at ea
    simp only [show ∀ (ts : Array Value) (ds) (i : Nat), (Act.mk ts ds).eval (.tmp i) = ts.getD i undef from fun _ _ _ => rfl] at ea
    simp at ea
    subst ea
    have M1 := hide (show IsMem w1 bm bw n f' from by simpa using hw.mem)
    have R1 := hide hw.row
    have RR := hide hw.res
    have T1 := hide (T0.out.trans' hw.tch (fun k _ h => .inr h))
    have RQ := hide hr
    have hqb : q ≠ b := by omega
    have hqr : q ≠ w.heap.size := by omega
    have hqm : q ≠ bm ∧ q ≠ bw := by omega
    have lw1 := hw.tch.size
    have l1 : b < w1.heap.size := by omega
    have l2 : w.heap.size < w1.heap.size := by omega
    have l3 : q < w1.heap.size := by omega
    clear hw hr hq
    obtain ⟨s0, s1, s2, s3, s4, s5⟩ := stp6 RQ.out
    obtain ⟨⟨r0, rf0⟩, ⟨r1, rf1⟩, ⟨r2, rf2⟩, ⟨r3, rf3⟩, ⟨r4, rf4⟩, r5, rf5⟩ := res_facts RR.out
    have d7 := R1.out.cell (i := 7) (by omega)
    have df7 := R1.out.frozen 7
    have hnm : bm ≠ w.heap.size ∧ bw ≠ w.heap.size := by omega
    go_wp2_with fail
    go_light
    refine bodyPost_ret (v := x.val) ?res rfl ⟨rfl, ?row, ?mem, ?tch⟩
    case row =>
      refine World.rowIs.congr (f := fun k => if k = 7 then Value.int .u64 x.had else lC hand fn v2 v3 t lst g ix bh k) ?_ (fun i hi => l_g hand fn v2 v3 t lst g ix bh x.had i hi)
      repeat (first | (with_reducible apply World.rowIs.alloc) | (with_reducible refine World.rowIs.setOther ?_ ?side _; case side => (simp; omega)))
      with_reducible refine World.rowIs.set ?_ 7 _
      repeat (first | (with_reducible apply World.rowIs.alloc) | (with_reducible refine World.rowIs.setOther ?_ ?side _; case side => (simp; omega)))
      with_reducible exact R1.out
    case mem =>
      repeat (first | (with_reducible apply IsMem.alloc) | ((with_reducible refine IsMem.setOther ?_ ?_ ?_ _); rotate_left; (simp; omega); (simp; omega)))
      with_reducible exact M1.out
    case tch =>
      repeat (first | (with_reducible apply Touch.alloc) | (with_reducible refine Touch.setCell ?_ _ ?side _; case side => (first | (simp; done) | (simp; omega))))
      with_reducible exact T1.out
    case res => simp [results, Tryz.results64, go_sem, Stp.val, *]
theorem d_loadHead {w : World} {b bm bw n : Nat} {f f' : Nat → Int} {x : Stp} {sh : Shp} {hand : Int} {fn v2 v3 : Value} {t : Ans} {lst g : Int} {bl : Int} (h_ : w.rowIs b 134 15 (dC sh hand fn v2 v3 t lst g bl)) (hm : IsMem w bm bw n f) (h1 : b ≠ bm) (h2 : b ≠ bw)
    (hx : stepOf n f (⟨hand, 1, lst, 0, 0, true⟩ : Stp) = x) (hf' : wordsOf n f (⟨hand, 1, lst, 0, 0, true⟩ : Stp) = f') :
    Calls Tryz.prog 64 #[.pointer (some ⟨b, 0, none⟩), .pointer (some ⟨bm, 0, none⟩)] w fun e w' => e = .returned x.val ∧
      w'.rowIs b 134 15 (dC sh hand fn v2 v3 t lst x.had bl) ∧ IsMem w' bm bw n f' ∧ Touch w w' (fun k => k = b ∨ k = bw) := by
  have hl := h_.lt
  have lw := hm.row.lt
  have lm := hm.head.lt
  have hn3 : w.heap.size ≠ b := by omega
  have hn4 : w.heap.size ≠ bw := by omega
  have hn5 : w.heap.size ≠ bm := by omega
  obtain ⟨W1, hW1⟩ : ∃ W1, w.alloc (.cells #[.int .i64 0, .int .i64 0, .int .i64 0, .int .u64 0, .int .u64 0, .bool false] 122) = W1 := ⟨_, rfl⟩
  have R := hide (show W1.rowIs b 134 15 (dC sh hand fn v2 v3 t lst g bl) from by rw [← hW1]; exact h_.alloc _)
  have M := hide (show IsMem W1 bm bw n f from by rw [← hW1]; exact hm.alloc _)
  have RZ := hide (show W1.rowIs w.heap.size 122 6 zcell from by rw [← hW1]; exact row0 w)
  have T0 := hide (show Touch w W1 (fun k => k = b ∨ k = bw) from by rw [← hW1]; exact (Touch.refl w _).alloc _)
  have sz : W1.heap.size = w.heap.size + 1 := by rw [← hW1]; simp
  have lW1 : b < W1.heap.size := by omega
  obtain ⟨dS, hdS1, hdS2⟩ := row46
  have HD := hide (And.intro hdS1 hdS2)
  obtain ⟨dG, hdG1, hdG2⟩ := rowSh
  have HDS := hide (And.intro hdG1 hdG2)
  have HX := hide hx
  have HF := hide hf'
  have HW : Hid (0 ≤ ((⟨hand, 1, lst, 0, 0, true⟩ : Stp) : Stp).put ∧ ((⟨hand, 1, lst, 0, 0, true⟩ : Stp) : Stp).put ≤ 18446744073709551615) := ⟨by show (0 : Int) ≤ 0; omega, by show (0 : Int) ≤ 18446744073709551615; omega⟩
  clear hm h_ hx hf' hdS1 hdS2 hdG1 hdG2
  go_enter Tryz.func64, Tryz.ntmps64
  go_wp2_with fail
  clear hW1
  refine RG.region (ks := [(0, 6), (1, 7), (2, 8), (3, 9), (4, 10), (5, 11), (6, 12), (7, 13), (8, 14)]) (vals := fun i => match i with
      | 0 => .pointer (some ⟨b, 0, none⟩)
      | 1 => .pointer (some ⟨b, 0, none⟩)
      | 2 => .pointer (some ⟨b, 0, none⟩)
      | 3 => .pointer (some ⟨bm, 0, none⟩)
      | 4 => .pointer (some ⟨b, 0, none⟩)
      | 5 => .pointer (some ⟨b, 0, none⟩)
      | 6 => .pointer (some ⟨b, 6, none⟩)
      | 7 => .int .i64 lst
      | 8 => .agg #[.int .i64 x.hand, .int .i64 x.act, .int .i64 x.at_, .int .u64 x.had, .int .u64 x.put, .bool x.ok]
      | _ => undef) (x := 5) (WI := fun L v_ w' => RG.SW b 134 15 (dC sh hand fn v2 v3 t lst g bl) bm bw n f f' x w.heap.size W1 (L 8) (L 9) (L 10) v_ w') (by kernel_rfl) ?gg ?bk rfl ?dd ?xx (RG.SW.start R.out M.out RZ.out) ?does ?fin
  case gg =>
    intro i o ho
    have hi : i < 11 := by have := (Array.getElem?_eq_some_iff.1 ho).1; simpa using this
    match i, hi with
    | 0, _ | 1, _ | 2, _ | 3, _ | 4, _ | 5, _ | 6, _ | 7, _ | 8, _ | 9, _ | 10, _ => injection ho with ho; subst ho; rfl
  case bk =>
    intro i o ho
    have hi : i < 11 := by have := (Array.getElem?_eq_some_iff.1 ho).1; simpa using this
    match i, hi with
    | 0, _ | 1, _ | 2, _ | 3, _ | 4, _ | 5, _ | 6, _ | 7, _ | 8, _ | 9, _ | 10, _ => injection ho with ho; subst ho; simp [Region.binds]
  case dd =>
    intro k hk
    have hk' : k < 21 := by
      simp [RetN.D] at hk
      omega
    simpa using hk'
  case xx => simp
  case does =>
    intro i o ho
    have hi : i < 11 := by have := (Array.getElem?_eq_some_iff.1 ho).1; simpa using this
    match i, hi with
    | 0, _ => injection ho with ho; subst ho; exact RG.Does.read rfl (fun L v_ w' h => RG.SW.skip (by decide) (by decide) (by decide) h) (fun L a w' hI hd => ex_move rfl (hI.fix 0 (Reg.notD rfl) (by decide)))
    | 1, _ => injection ho with ho; subst ho; exact RG.Does.read rfl (fun L v_ w' h => RG.SW.skip (by decide) (by decide) (by decide) h) (fun L a w' hI hd => ex_nil rfl (hI.pure 0 _ _ rfl (hd ⟨0, .data⟩ (by simp) rfl)))
    | 2, _ => injection ho with ho; subst ho; exact RG.Does.read rfl (fun L v_ w' h => RG.SW.skip (by decide) (by decide) (by decide) h) (fun L a w' hI hd => ex_field rfl (hI.pure 1 _ _ rfl (hd ⟨1, .data⟩ (by simp) rfl)) (fieldLs0 w' _))
    | 3, _ => injection ho with ho; subst ho; exact RG.Does.read rfl (fun L v_ w' h => RG.SW.skip (by decide) (by decide) (by decide) h) (fun L a w' hI hd => ex_move rfl (hI.fix 1 (Reg.notD rfl) (by decide)))
    | 4, _ => injection ho with ho; subst ho; exact RG.Does.read rfl (fun L v_ w' h => RG.SW.skip (by decide) (by decide) (by decide) h) (fun L a w' hI hd => ex_move rfl (hI.fix 0 (Reg.notD rfl) (by decide)))
    | 5, _ => injection ho with ho; subst ho; exact RG.Does.read rfl (fun L v_ w' h => RG.SW.skip (by decide) (by decide) (by decide) h) (fun L a w' hI hd => ex_nil rfl (hI.pure 4 _ _ rfl (hd ⟨4, .data⟩ (by simp) rfl)))
    | 6, _ => injection ho with ho; subst ho; exact RG.Does.read rfl (fun L v_ w' h => RG.SW.skip (by decide) (by decide) (by decide) h) (fun L a w' hI hd => ex_field rfl (hI.pure 5 _ _ rfl (hd ⟨5, .data⟩ (by simp) rfl)) (fieldLs1 w' _))
    | 7, _ => injection ho with ho; subst ho; exact RG.Does.read rfl (fun L v_ w' h => RG.SW.skip (by decide) (by decide) (by decide) h) (fun L a w' hI hd => ex_load rfl (hI.pure 6 _ _ rfl (hd ⟨6, .data⟩ (by simp) rfl)) (aggI w') (hI.world.row.cell (i := 6) (by omega)))
    | 8, _ => injection ho with ho; subst ho; exact RG.Does.call rfl (fun L a w' hI hd => call3 rfl (hI.pure 2 _ _ rfl (hd ⟨2, .data⟩ (by simp) rfl)) (hI.pure 3 _ _ rfl (hd ⟨3, .data⟩ (by simp) rfl)) (hI.pure 7 _ _ rfl (hd ⟨7, .data⟩ (by simp) rfl)) rfl (by simp [go_sem])) (SWcalls h2 hn4 (by decide) (by decide) (fun w2 R2 M2 => load_any (R2.cell (i := 0) (by omega)) R2.lt M2 HW.out HX.out HF.out))
    | 9, _ => injection ho with ho; subst ho; exact RG.Does.make (u := fun w' => .pointer (some ⟨w'.heap.size, 0, none⟩)) rfl rfl (fun ev w' => alloc46 rfl) (fun L v_ w' h hL => by have := RG.SW.make h hL; rw [← upd_same L 9 true] at this; simpa only [upd_other _ _ (show 8 ≠ 9 by decide), upd_other _ _ (show 10 ≠ 9 by decide)] using this)
    | 10, _ => injection ho with ho; subst ho; exact RG.Does.put (ls := x.cells) rfl rfl rfl size46 (by simp [Stp.cells, Value.oneCell']) (fun L a w' hI hL hd => ⟨(hI.pure 8 _ _ rfl (hd ⟨8, .data⟩ (by simp) rfl)), by obtain ⟨q, e1, e2, e3⟩ := RG.SW.put hI.world (hd ⟨8, .data⟩ (by simp) rfl) (hd ⟨9, .data⟩ (by simp) rfl) hL; exact ⟨q, 0, e1, e2, by rw [← upd_same L 10 true] at e3; simpa only [upd_other _ _ (show 8 ≠ 10 by decide), upd_other _ _ (show 9 ≠ 10 by decide)] using e3⟩⟩)
  case fin =>
    intro L a' w1 hI hall
    have hw := hI.world
    simp only [hall 8 (by decide), hall 9 (by decide), hall 10 (by decide), if_true] at hw
    obtain ⟨q, hq, hq1, hq2, _, hr⟩ := hw.own rfl
    replace hr := hr rfl
    have ea := act_all a' 21 (by rw [hI.sz]; rfl) hI.df
    simp only [List.range, List.range.loop, List.map] at ea
    rw [hI.fix 0 (Reg.notD rfl) (by decide), hI.fix 1 (Reg.notD rfl) (by decide), hI.fix 2 (Reg.notD rfl) (by decide), hI.fix 3 (Reg.notD rfl) (by decide), hI.fix 4 (Reg.notD rfl) (by decide), hI.fix 15 (Reg.notD rfl) (by decide), hI.fix 16 (Reg.notD rfl) (by decide), hI.fix 17 (Reg.notD rfl) (by decide), hI.fix 18 (Reg.notD rfl) (by decide), hI.fix 19 (Reg.notD rfl) (by decide), hI.fix 20 (Reg.notD rfl) (by decide), hq] at ea
    clear hI hall
    generalize a'.eval (.tmp 6) = u6 at ea
    generalize a'.eval (.tmp 7) = u7 at ea
    generalize a'.eval (.tmp 8) = u8 at ea
    generalize a'.eval (.tmp 9) = u9 at ea
    generalize a'.eval (.tmp 10) = u10 at ea
    generalize a'.eval (.tmp 11) = u11 at ea
    generalize a'.eval (.tmp 12) = u12 at ea
    generalize a'.eval (.tmp 13) = u13 at ea
    generalize a'.eval (.tmp 14) = u14 at ea
    simp only [show ∀ (ts : Array Value) (ds) (i : Nat), (Act.mk ts ds).eval (.tmp i) = ts.getD i undef from fun _ _ _ => rfl] at ea
    simp at ea
    subst ea
    have M1 := hide (show IsMem w1 bm bw n f' from by simpa using hw.mem)
    have R1 := hide hw.row
    have RR := hide hw.res
    have T1 := hide (T0.out.trans' hw.tch (fun k _ h => .inr h))
    have RQ := hide hr
    have hqb : q ≠ b := by omega
    have hqr : q ≠ w.heap.size := by omega
    have hqm : q ≠ bm ∧ q ≠ bw := by omega
    have lw1 := hw.tch.size
    have l1 : b < w1.heap.size := by omega
    have l2 : w.heap.size < w1.heap.size := by omega
    have l3 : q < w1.heap.size := by omega
    clear hw hr hq
    obtain ⟨s0, s1, s2, s3, s4, s5⟩ := stp6 RQ.out
    obtain ⟨⟨r0, rf0⟩, ⟨r1, rf1⟩, ⟨r2, rf2⟩, ⟨r3, rf3⟩, ⟨r4, rf4⟩, r5, rf5⟩ := res_facts RR.out
    have d7 := R1.out.cell (i := 7) (by omega)
    have df7 := R1.out.frozen 7
    have hnm : bm ≠ w.heap.size ∧ bw ≠ w.heap.size := by omega
    go_wp2_with fail
    go_light
    refine bodyPost_ret (v := x.val) ?res rfl ⟨rfl, ?row, ?mem, ?tch⟩
    case row =>
      refine World.rowIs.congr (f := fun k => if k = 7 then Value.int .u64 x.had else dC sh hand fn v2 v3 t lst g bl k) ?_ (fun i hi => d_g sh hand fn v2 v3 t lst g bl x.had i hi)
      repeat (first | (with_reducible apply World.rowIs.alloc) | (with_reducible refine World.rowIs.setOther ?_ ?side _; case side => (simp; omega)))
      with_reducible refine World.rowIs.set ?_ 7 _
      repeat (first | (with_reducible apply World.rowIs.alloc) | (with_reducible refine World.rowIs.setOther ?_ ?side _; case side => (simp; omega)))
      with_reducible exact R1.out
    case mem =>
      repeat (first | (with_reducible apply IsMem.alloc) | ((with_reducible refine IsMem.setOther ?_ ?_ ?_ _); rotate_left; (simp; omega); (simp; omega)))
      with_reducible exact M1.out
    case tch =>
      repeat (first | (with_reducible apply Touch.alloc) | (with_reducible refine Touch.setCell ?_ _ ?side _; case side => (first | (simp; done) | (simp; omega))))
      with_reducible exact T1.out
    case res => simp [results, Tryz.results64, go_sem, Stp.val, *]
end Ls
end
end Go.Proofs.YtidihnnmdmlgfaaGreat
