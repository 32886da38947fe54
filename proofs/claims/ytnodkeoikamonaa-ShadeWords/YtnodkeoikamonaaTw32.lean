/-
  Lemmas: ShadeM.
-/
import Derived.Test.YtnodkeoikamonaaTw31
import Derived.Test.YtnodkeoikamonaaTw17
/-
  Shading and pulling: what Mark, Pull and the jobs' maker make, what it refuses.
-/
namespace Go.Proofs.Ytnodkeoikamonaa
open Go.RowKit
set_option linter.unusedVariables false
set_option linter.unusedSimpArgs false
set_option maxRecDepth 20000
namespace Shd
theorem grown_drewN {w w' : World} {r : Option Nat} (h : w.grownBy w' r) (m : Nat) : w.grownBy (w'.drewN m) r := ⟨h.os, h.tape, h.output, h.size, h.block⟩
theorem i64_and1 (n : Int) : bits .and .i64 n 1 = n % 2 := by
  have h1 : (BitVec.ofInt 64 1).toNat = 2 ^ 1 - 1 := by decide
  have key : (BitVec.ofInt 64 n &&& BitVec.ofInt 64 1).toNat = (n % ((2 ^ 64 : Nat) : Int)).toNat % 2 ^ 1 := by
    rw [BitVec.toNat_and, BitVec.toNat_ofInt, h1, Nat.and_two_pow_sub_one_eq_mod]
  show IntKind.i64.wrap ((BitVec.ofInt 64 n &&& BitVec.ofInt 64 1).toNat : Nat) = n % 2
  rw [key, IntKind.wrap_i64]
  omega
theorem lastBit_any (c : Int) (w : World) : Calls Try.prog 55 #[.int .i64 c] w fun e w' => e = .returned (.int .i64 (c % 2)) ∧ w' = w := by
  go_enter Try.func55, Try.ntmps55
  go_wp2
  go_ret
  exact ⟨ret_int (i64_and1 c), rfl⟩
theorem places_any {sh : Shp} (h : Shape.R5 sh.a sh.b sh.c sh.d sh.e) (i : Int) (w : World) : Calls Try.prog 77 #[sh.val, .int .i64 i] w fun e w' => e = .returned (.tuple #[.int .i64 (headAt sh i), .int .i64 (linkAt sh i), .bool (decide (there sh i))]) ∧ Below w.heap.size w w' := by
  by_cases ht : there sh i
  · rw [decide_eq_true ht]; exact places_yes h ht w
  · rw [decide_eq_false ht]; exact places_no h ht w
set_option maxHeartbeats 8000000 in
theorem mark_ok {sh : Shp} (h5 : Shape.R5 sh.a sh.b sh.c sh.d sh.e) (hand hh c : Int) (hw : 0 ≤ hh ∧ hh ≤ 18446744073709551615) (w : World) :
    Calls Try.prog 56 #[sh.val, .int .i64 hand, .int .u64 hh, .int .i64 c] w fun e w' => ∃ b, e = .returned (.iface 146 (.pointer (some ⟨b, 0, none⟩))) ∧
      w'.rowIs b 148 11 (mC hand (fnM b 0) 0 ⟨false, 0⟩ (idx hh) (hh / 4294967296) (c % 2) (headAt sh (idx hh)) (linkAt sh (idx hh)) 0) ∧ w.heap.size ≤ b ∧ w.grownBy w' none := by
  have IX := hide (fun w1 : World => index_any hh hw.1 (by omega) w1)
  have GN := hide (fun w1 : World => gen_any hh hw.1 (by omega) w1)
  have LB := hide (fun w1 : World => lastBit_any c w1)
  have PL := hide (fun w1 : World => places_any h5 (idx hh) w1)
  obtain ⟨hp, hhp⟩ : ∃ p, headAt sh (idx hh) = p := ⟨_, rfl⟩
  obtain ⟨lp, hlp⟩ : ∃ p, linkAt sh (idx hh) = p := ⟨_, rfl⟩
  obtain ⟨q, hq⟩ : ∃ q, decide (there sh (idx hh)) = q := ⟨_, rfl⟩
  rw [hhp, hlp, hq] at PL
  rw [hhp, hlp]
  clear hhp hlp hq h5 hw
  obtain ⟨s0, s1, s2, s3, s4, s5⟩ := sh
  simp only [Shp.val] at PL ⊢
  obtain ⟨W0, hW0, B0, K⟩ := Shape.box w s0 s1 s2 s3 s4 s5
  have HB := hide B0
  have sz0 : W0.heap.size = w.heap.size + 1 := by rw [← hW0]; simp
  obtain ⟨-, l0, x0, x1, x2, x3, x4, x5⟩ := K.out W0 (Below.refl _ _)
  clear B0
  obtain ⟨b, hb⟩ : ∃ b, w.heap.size + 1 = b := ⟨_, rfl⟩
  obtain ⟨W1, hW1⟩ : ∃ W1, W0.alloc (.cells #[.int .i64 hand, .nilFunc, .int .u64 0, .bool false, .int .u64 0, .int .i64 (hh % 4294967296), .int .u64 (hh / 4294967296), .int .i64 (c % 2), .int .i64 0, .int .i64 0, .int .u64 0] 148) = W1 := ⟨_, rfl⟩
  have R1 := hide (show W1.rowIs b 148 11 (mC hand .nilFunc 0 ⟨false, 0⟩ (idx hh) (hh / 4294967296) (c % 2) 0 0 0) from by
    rw [← hW1, ← hb, ← sz0]
    exact rowIs_cells _ _ _ 11 rfl (fun i hi => by
      match i, hi with
      | 0, _ | 1, _ | 2, _ | 3, _ | 4, _ | 5, _ | 6, _ | 7, _ | 8, _ | 9, _ | 10, _ => rfl))
  have B1 := hide (show Below W0.heap.size W0 W1 from by rw [← hW1]; exact (Below.refl _ W0).alloc (Nat.le_refl _) _)
  obtain ⟨-, l1, y0, y1, y2, y3, y4, y5⟩ := K.out W1 B1.out
  have sz1 : W1.heap.size = W0.heap.size + 1 := by rw [← hW1]; simp
  have HBB := hide hb
  clear hb
  have rs : ∀ w1 : World, (store ⟨b, 1, none⟩ (.func (.func 78) #[.pointer (some ⟨b, 0, none⟩)] #[])).run Try.prog w1 = stored Try.prog w1 ⟨b, 1, none⟩ (.func (.func 78) #[.pointer (some ⟨b, 0, none⟩)] #[]) .plain := fun w1 => run_store Try.prog w1 _ _ _ rfl
  go_enter Try.func56, Try.ntmps56
  go_upto_region 3 with (first | (go_at_call 11; refine (IX.out _).mono ?_; rintro e wq ⟨rfl, hwq⟩; obtain rfl := hwq.symm) | (go_at_call 76; refine (GN.out _).mono ?_; rintro e wq ⟨rfl, hwq⟩; obtain rfl := hwq.symm) | (go_at_call 55; refine (LB.out _).mono ?_; rintro e wq ⟨rfl, hwq⟩; obtain rfl := hwq.symm))
  rw [HBB.out]
  have hbw : ¬ b < w.heap.size := by have := HBB.out; omega
  have hbw1 : b < W1.heap.size := by have := HBB.out; omega
  have hnb : w.heap.size ≠ b := by have := HBB.out; omega
  clear hW0 hW1 x0 x1 x2 x3 x4 x5
  go_wp2_with (go_at_call 77; refine (PL.out _).mono ?_; rintro e w3 ⟨rfl, hb3⟩; have HB3 := hide hb3; have RB := hide (R1.out.of_block (hb3.block b hbw1)); have l3 : b < w3.heap.size := (by have := hb3.size; omega); have d1 := RB.out.cell (i := 1) (by omega); have df1 := RB.out.frozen 1; have d8 := RB.out.cell (i := 8) (by omega); have df8 := RB.out.frozen 8; have d9 := RB.out.cell (i := 9) (by omega); have df9 := RB.out.frozen 9; clear hb3)
  go_ret
  have BA := (HB.out.trans (B1.out.mono HB.out.size)).trans (HB3.out.mono (by omega))
  have BZ := ((BA.setCell (p := ⟨b, 8, none⟩) (by simp only; omega) (.int .i64 hp)).setCell (p := ⟨b, 9, none⟩) (by simp only; omega) (.int .i64 lp)).setCell (p := ⟨b, 1, none⟩) (by simp only; omega) (.func (.func 78) #[.pointer (some ⟨b, 0, none⟩)] #[])
  refine ⟨b, rfl, ?_, by omega, below_grown BZ none⟩
  exact (((RB.out.set 8 _).set 9 _).set 1 _).congr (fun i hi => by
    match i, hi with
    | 0, _ | 1, _ | 2, _ | 3, _ | 4, _ | 5, _ | 6, _ | 7, _ | 8, _ | 9, _ | 10, _ => rfl)
set_option maxHeartbeats 8000000 in
theorem pull_ok (sh : Shp) (hand : Int) (w : World) :
    Calls Try.prog 54 #[sh.val, .int .i64 hand] w fun e w' => ∃ b, e = .returned (.iface 140 (.pointer (some ⟨b, 0, none⟩))) ∧
      w'.rowIs b 145 14 (pC sh hand (fnP b 0) 0 ⟨false, 0⟩ 0 0 0) ∧ w.heap.size ≤ b ∧ w.grownBy w' none := by
  obtain ⟨s0, s1, s2, s3, s4, s5⟩ := sh
  simp only [Shp.val]
  obtain ⟨W0, hW0, B0, K⟩ := Shape.box w s0 s1 s2 s3 s4 s5
  have HB := hide B0
  have sz0 : W0.heap.size = w.heap.size + 1 := by rw [← hW0]; simp
  obtain ⟨-, l0, x0, x1, x2, x3, x4, x5⟩ := K.out W0 (Below.refl _ _)
  clear B0
  obtain ⟨b, hb⟩ : ∃ b, w.heap.size + 1 = b := ⟨_, rfl⟩
  obtain ⟨W1, hW1⟩ : ∃ W1, W0.alloc (.cells #[.int .i64 hand, .nilFunc, .int .u64 0, .bool false, .int .u64 0, .int .i64 s0, .int .i64 s1, .int .i64 s2, .int .i64 s3, .int .i64 s4, .int .i64 s5, .int .i64 0, .int .i64 0, .int .i64 0] 145) = W1 := ⟨_, rfl⟩
  have R1 := hide (show W1.rowIs b 145 14 (pC ⟨s0, s1, s2, s3, s4, s5⟩ hand .nilFunc 0 ⟨false, 0⟩ 0 0 0) from by
    rw [← hW1, ← hb, ← sz0]
    exact rowIs_cells _ _ _ 14 rfl (fun i hi => by
      match i, hi with
      | 0, _ | 1, _ | 2, _ | 3, _ | 4, _ | 5, _ | 6, _ | 7, _ | 8, _ | 9, _ | 10, _ | 11, _ | 12, _ | 13, _ => rfl))
  have B1 := hide (show Below W0.heap.size W0 W1 from by rw [← hW1]; exact (Below.refl _ W0).alloc (Nat.le_refl _) _)
  have sz1 : W1.heap.size = W0.heap.size + 1 := by rw [← hW1]; simp
  have HBB := hide hb
  clear hb
  have rs : ∀ w1 : World, (store ⟨b, 1, none⟩ (.func (.func 75) #[.pointer (some ⟨b, 0, none⟩)] #[])).run Try.prog w1 = stored Try.prog w1 ⟨b, 1, none⟩ (.func (.func 75) #[.pointer (some ⟨b, 0, none⟩)] #[]) .plain := fun w1 => run_store Try.prog w1 _ _ _ rfl
  have hbw1 : b < W1.heap.size := by have := HBB.out; omega
  have d1 := R1.out.cell (i := 1) (by omega)
  have df1 := R1.out.frozen 1
  go_enter Try.func54, Try.ntmps54
  go_upto_region 2 with (fail)
  rw [HBB.out]
  clear hW0 hW1 x0 x1 x2 x3 x4 x5
  go_wp2_with fail
  go_ret
  have hbw : ¬ b < w.heap.size := by have := HBB.out; omega
  have BA := HB.out.trans (B1.out.mono HB.out.size)
  have BZ := BA.setCell (p := ⟨b, 1, none⟩) (by simp only; omega) (.func (.func 75) #[.pointer (some ⟨b, 0, none⟩)] #[])
  refine ⟨b, rfl, ?_, by omega, below_grown BZ none⟩
  exact (R1.out.set 1 _).congr (fun i hi => by
    match i, hi with
    | 0, _ | 1, _ | 2, _ | 3, _ | 4, _ | 5, _ | 6, _ | 7, _ | 8, _ | 9, _ | 10, _ | 11, _ | 12, _ | 13, _ => rfl)
theorem callTask (args : Array Value) (w : World) : (callFunc 35 args).run Try.prog w = .ok (.enter 35 args) w := by simp [go_sem]
set_option maxHeartbeats 8000000 in
theorem task2 {sh : Shp} (hand a b c hh : Int) (w : World) :
    Calls Try.prog 35 #[sh.val, .int .i64 hand, (⟨2, a, b, c, hh⟩ : Jb).val] w fun e w' => ∃ bb, e = .returned (.tuple #[.iface 140 (.pointer (some ⟨bb, 0, none⟩)), .int .i64 0]) ∧
      w'.rowIs bb 145 14 (pC sh hand (fnP bb 0) 0 ⟨false, 0⟩ 0 0 0) ∧ w.heap.size ≤ bb ∧ w.grownBy w' none := by
  have PU := hide (fun w1 : World => pull_ok sh hand w1)
  obtain ⟨s0, s1, s2, s3, s4, s5⟩ := sh
  simp only [Shp.val, Jb.val] at PU ⊢
  go_enter Try.func35, Try.ntmps35
  go_wp2_with (go_at_call 54; refine (PU.out _).mono ?_; rintro e w3 ⟨bb, rfl, hr3, hb3, hg3⟩; have HR := hide hr3; have HG := hide hg3; simp only [World.size_alloc] at hb3; clear hr3 hg3)
  go_ret2
  exact ⟨bb, rfl, HR.out, by omega, grown_trans (grown_alloc (grown_alloc (grown_refl _ _) _) _) HG.out⟩
set_option maxHeartbeats 8000000 in
theorem task1 {sh : Shp} (h5 : Shape.R5 sh.a sh.b sh.c sh.d sh.e) (hand a b c hh : Int) (hc : c % 2 = c) (hw : 0 ≤ hh ∧ hh ≤ 18446744073709551615) (w : World) :
    Calls Try.prog 35 #[sh.val, .int .i64 hand, (⟨1, a, b, c, hh⟩ : Jb).val] w fun e w' => ∃ bb, e = .returned (.tuple #[.iface 146 (.pointer (some ⟨bb, 0, none⟩)), .int .i64 0]) ∧
      w'.rowIs bb 148 11 (mC hand (fnM bb 0) 0 ⟨false, 0⟩ (idx hh) (hh / 4294967296) c (headAt sh (idx hh)) (linkAt sh (idx hh)) 0) ∧ w.heap.size ≤ bb ∧ w.grownBy w' none := by
  have MK := hide (fun w1 : World => mark_ok h5 hand hh c hw w1)
  have LB := hide (fun w1 : World => lastBit_any c w1)
  rw [hc] at MK LB
  clear hw hc h5
  obtain ⟨hp, hhp⟩ : ∃ p, headAt sh (idx hh) = p := ⟨_, rfl⟩
  obtain ⟨lp, hlp⟩ : ∃ p, linkAt sh (idx hh) = p := ⟨_, rfl⟩
  rw [hhp, hlp] at MK ⊢
  clear hhp hlp
  obtain ⟨s0, s1, s2, s3, s4, s5⟩ := sh
  simp only [Shp.val, Jb.val] at MK ⊢
  go_enter Try.func35, Try.ntmps35
  go_upto_region 5 with (fail)
  go_quiet ((go_at_call 55; exact Calls.quiet_of_same (LB.out _)))
  go_wp2_with (go_at_call 56; refine (MK.out _).mono ?_; rintro e w3 ⟨bb, rfl, hr3, hb3, hg3⟩; have HR := hide hr3; have HG := hide hg3; simp only [World.heap_drewN, World.size_alloc] at hb3; clear hr3 hg3)
  go_ret2
  exact ⟨bb, rfl, HR.out, by omega, grown_trans (grown_drewN (grown_alloc (grown_alloc (grown_refl _ _) _) _) _) HG.out⟩
set_option maxHeartbeats 8000000 in
theorem task_kind {sh : Shp} (hand k a b c hh : Int) (h1 : ¬ k = 1) (h2 : ¬ k = 2) (w : World) :
    Calls Try.prog 35 #[sh.val, .int .i64 hand, (⟨k, a, b, c, hh⟩ : Jb).val] w fun e w' => e = .returned (.tuple #[.nilIface, .int .i64 200]) ∧ w.grownBy w' none := by
  obtain ⟨s0, s1, s2, s3, s4, s5⟩ := sh
  simp only [Shp.val, Jb.val]
  have e1 : (k != 1) = true := by simpa using h1
  have e2 : (k == 2) = false := by simpa using h2
  go_enter Try.func35, Try.ntmps35
  go_wp2_with fail
  go_ret2
  exact ⟨rfl, grown_alloc (grown_alloc (grown_refl _ _) _) _⟩
set_option maxHeartbeats 8000000 in
theorem task_arg {sh : Shp} (hand a b c hh : Int) (hc : ¬ c % 2 = c) (w : World) :
    Calls Try.prog 35 #[sh.val, .int .i64 hand, (⟨1, a, b, c, hh⟩ : Jb).val] w fun e w' => e = .returned (.tuple #[.nilIface, .int .i64 2]) ∧ w.grownBy w' none := by
  have LB := hide (fun w1 : World => lastBit_any c w1)
  obtain ⟨y, hy⟩ : ∃ y, c % 2 = y := ⟨_, rfl⟩
  rw [hy] at LB hc
  have e1 : (c != y) = true := by simpa using Ne.symm hc
  clear hy hc
  obtain ⟨s0, s1, s2, s3, s4, s5⟩ := sh
  simp only [Shp.val, Jb.val]
  go_enter Try.func35, Try.ntmps35
  go_upto_region 5 with (fail)
  go_quiet ((go_at_call 55; exact Calls.quiet_of_same (LB.out _)))
  go_wp2_with fail
  go_ret2
  exact ⟨rfl, grown_drewN (grown_alloc (grown_alloc (grown_refl _ _) _) _) _⟩
theorem task_any {sh : Shp} (h5 : Shape.R5 sh.a sh.b sh.c sh.d sh.e) (hand : Int) (j : Jb) (hw : j.wf) (he : serr false hand j = 0) (w : World) :
    Calls Try.prog 35 #[sh.val, .int .i64 hand, j.val] w fun e w' => ∃ bb, e = .returned (.tuple #[.iface ((kShd false sh).tid j) (.pointer (some ⟨bb, 0, none⟩)), .int .i64 0]) ∧
      w'.rowIs bb ((kShd false sh).t j) ((kShd false sh).n j) (scell sh bb (sinit hand j)) ∧ w.heap.size ≤ bb ∧ w.grownBy w' none := by
  obtain ⟨k, a, b, c, hh⟩ := j
  by_cases hk : k = 2
  · subst hk
    exact task2 hand a b c hh w
  · have hc : k = 1 ∧ c % 2 = c := by
      simp only [serr, if_neg hk, if_neg (show ¬ false = true by decide)] at he
      split at he
      · split at he
        · exact ⟨by assumption, by omega⟩
        · cases he
      · cases he
    obtain ⟨rfl, hc⟩ := hc
    have := task1 h5 hand a b c hh hc hw w
    have e : ∀ bb, scell sh bb (sinit hand ⟨1, a, b, c, hh⟩) = mC hand (fnM bb 0) 0 ⟨false, 0⟩ (idx hh) (hh / 4294967296) c (headAt sh (idx hh)) (linkAt sh (idx hh)) 0 := fun bb => by
      show mC hand (fnM bb 0) 0 ⟨false, 0⟩ (idx hh) (hh / 4294967296) (c % 2) (headAt sh (idx hh)) (linkAt sh (idx hh)) 0 = _
      rw [hc]
    simp only [e]
    exact this
theorem task_err {sh : Shp} (hand : Int) (j : Jb) (he : ¬ serr false hand j = 0) (w : World) :
    Calls Try.prog 35 #[sh.val, .int .i64 hand, j.val] w fun e w' => e = .returned (.tuple #[.nilIface, .int .i64 (serr false hand j)]) ∧ w.grownBy w' none := by
  obtain ⟨k, a, b, c, hh⟩ := j
  by_cases h2 : k = 2
  · exact absurd (by simp [serr, h2]) he
  · by_cases h1 : k = 1
    · subst h1
      by_cases hc : c = 0 ∨ c = 1
      · exact absurd (by simp [serr, hc]) he
      · rw [show serr false hand ⟨1, a, b, c, hh⟩ = 2 from by simp [serr, hc]]
        exact task_arg hand a b c hh (by omega) w
    · rw [show serr false hand ⟨k, a, b, c, hh⟩ = 200 from by simp [serr, h1, h2]]
      exact task_kind hand k a b c hh h1 h2 w
theorem makes {sh : Shp} (h5 : Shape.R5 sh.a sh.b sh.c sh.d sh.e) {w : World} {tb sb : Nat} (H : Boxes w tb sb 35 sh) : MakesAt (kShd false sh) (mkOf tb sb) w := by
  intro hand j h0 h8 hw
  exact ⟨fun he => maker_okB (C := fun b => scell sh b (sinit hand j)) callTask H (fun w1 => task_any h5 hand j hw he w1), fun he => maker_err callTask H he (fun w1 => task_err hand j he w1)⟩
end Shd
end Go.Proofs.Ytnodkeoikamonaa
