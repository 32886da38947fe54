/-
  Lemmas: HeapR.
-/
import Derived.Test.YtppgbndoijppnaaGreatTp06
import Derived.Test.YtppgbndoijppnaaGreatTp26
namespace Go.Proofs.YtppgbndoijppnaaGreat
set_option maxHeartbeats 8000000
open Go.RowKit
set_option linter.unusedVariables false
set_option linter.unusedSimpArgs false
set_option maxRecDepth 20000
section
namespace Hp
theorem natR5 {sh : Shp} (h : Shape.R5 sh.a sh.b sh.c sh.d sh.e) : ∃ o s hh r k : Nat, sh.a = o ∧ sh.b = s ∧ sh.c = hh ∧ sh.d = r ∧ sh.e = k ∧ (⟨o, s, hh, r, k⟩ : Shape.Sh).Ok := by
 obtain ⟨⟨a1, a2⟩, ⟨b1, b2⟩, ⟨c1, c2⟩, ⟨d1, d2⟩, e1, e2⟩ := h
 exact ⟨sh.a.toNat, sh.b.toNat, sh.c.toNat, sh.d.toNat, sh.e.toNat, by omega, by omega, by omega, by omega, by omega, by constructor <;> simp only <;> omega⟩
theorem object_no {sh : Shp} (h : Shape.R5 sh.a sh.b sh.c sh.d sh.e) {i : Int} (ht : ¬ there sh i) (w : World) : Calls Tryz.prog 19 #[sh.val, .int .i64 i] w fun e w' => e = .returned (.tuple #[.int .i64 0, .int .i64 2]) ∧ Below w.heap.size w w' := Shape.object_arg h ht w
theorem object_yes {sh : Shp} (h : Shape.R5 sh.a sh.b sh.c sh.d sh.e) {i : Int} (ht : there sh i) (w : World) : Calls Tryz.prog 19 #[sh.val, .int .i64 i] w fun e w' => e = .returned (.tuple #[.int .i64 (headAt sh i), .int .i64 0]) ∧ Below w.heap.size w w' := by
 obtain ⟨o, s, hh, r, k, e0, e1, e2, e3, e4, H⟩ := natR5 h
 obtain ⟨s0, s1, s2, s3, s4, s5⟩ := sh
 simp only at e0 e1 e2 e3 e4
 subst e0 e1 e2 e3 e4
 obtain ⟨h1, h2⟩ := ht
 simp only at h1 h2
 obtain ⟨a, rfl⟩ := Int.eq_ofNat_of_zero_le (show 0 ≤ i by omega)
 have ho : (a : Int) ≤ (o : Int) := h2
 have hq2 : (a - 1) * (3 + s) ≤ 448 := by
  have o2 : o ≤ 64 := H.o2
  have s2 : s ≤ 4 := H.s2
  exact Nat.mul_le_mul (show a - 1 ≤ 64 by omega) (show 3 + s ≤ 7 by omega)
 have K := Shape.object_ok (s5 := s5) (p := hh * r) H rfl (show 1 ≤ a by omega) (show a ≤ o by omega) rfl hq2 w
 have eq : headAt ⟨o, s, hh, r, k, s5⟩ (a : Int) = 8 + (hh : Int) + ((hh * r : Nat) : Int) + (k : Int) + (((a - 1) * (3 + s) : Nat) : Int) := by
  unfold headAt
  rw [if_pos (show there ⟨o, s, hh, r, k, s5⟩ (a : Int) from ⟨h1, h2⟩)]
  have c : ((a - 1 : Nat) : Int) = (a : Int) - 1 := by omega
  push_cast [c]
  rfl
 rw [eq]
 exact K
theorem slot_no {sh : Shp} (h : Shape.R5 sh.a sh.b sh.c sh.d sh.e) {i s : Int} (ht : ¬ slotIn sh i s) (w : World) : Calls Tryz.prog 101 #[sh.val, .int .i64 i, .int .i64 s] w fun e w' => e = .returned (.tuple #[.int .i64 0, .int .i64 2]) ∧ Below w.heap.size w w' := by
 by_cases h1 : there sh i
 ·exact Shape.slot_arg2 h h1 (fun h2 => ht ⟨h1, h2⟩) w
 ·exact Shape.slot_arg1 h h1 w
theorem slot_yes {sh : Shp} (h : Shape.R5 sh.a sh.b sh.c sh.d sh.e) {i j : Int} (ht : slotIn sh i j) (w : World) : Calls Tryz.prog 101 #[sh.val, .int .i64 i, .int .i64 j] w fun e w' => e = .returned (.tuple #[.int .i64 (slotAt sh i j), .int .i64 0]) ∧ Below w.heap.size w w' := by
 obtain ⟨o, s, hh, r, k, e0, e1, e2, e3, e4, H⟩ := natR5 h
 obtain ⟨s0, s1, s2, s3, s4, s5⟩ := sh
 simp only at e0 e1 e2 e3 e4
 subst e0 e1 e2 e3 e4
 have ht' := ht
 obtain ⟨⟨h1, h2⟩, h3, h4⟩ := ht
 simp only at h1 h2 h3 h4
 obtain ⟨a, rfl⟩ := Int.eq_ofNat_of_zero_le (show 0 ≤ i by omega)
 obtain ⟨b, rfl⟩ := Int.eq_ofNat_of_zero_le h3
 have ho : (a : Int) ≤ (o : Int) := h2
 have hq2 : (a - 1) * (3 + s) ≤ 448 := by
  have o2 : o ≤ 64 := H.o2
  have s2 : s ≤ 4 := H.s2
  exact Nat.mul_le_mul (show a - 1 ≤ 64 by omega) (show 3 + s ≤ 7 by omega)
 have K := Shape.slot_ok (s5 := s5) (p := hh * r) (b := b) H rfl (show 1 ≤ a by omega) (show a ≤ o by omega) rfl hq2 (by omega) w
 have eq : slotAt ⟨o, s, hh, r, k, s5⟩ (a : Int) (b : Int) = 8 + (hh : Int) + ((hh * r : Nat) : Int) + (k : Int) + (((a - 1) * (3 + s) : Nat) : Int) + 3 + (b : Int) := by
  unfold slotAt
  rw [if_pos ht']
  have c : ((a - 1 : Nat) : Int) = (a : Int) - 1 := by omega
  push_cast [c]
  rfl
 rw [eq]
 exact K
theorem head_bd {sh : Shp} (h : Shape.R5 sh.a sh.b sh.c sh.d sh.e) {i : Int} (ht : there sh i) : 8 ≤ headAt sh i ∧ headAt sh i ≤ 1000 ∧ linkAt sh i = headAt sh i + 1 := by
 obtain ⟨o, s, hh, r, k, e0, e1, e2, e3, e4, H⟩ := natR5 h
 unfold headAt linkAt
 rw [if_pos ht, if_pos ht]
 obtain ⟨⟨a1, a2⟩, ⟨b1, b2⟩, ⟨c1, c2⟩, ⟨d1, d2⟩, f1, f2⟩ := h
 have p1 : 0 ≤ sh.c * sh.d ∧ sh.c * sh.d ≤ 7 * 8 := ⟨Int.mul_nonneg (by omega) (by omega), Int.mul_le_mul c2 d2 (by omega) (by omega)⟩
 have p2 : 0 ≤ (i - 1) * (3 + sh.b) ∧ (i - 1) * (3 + sh.b) ≤ 64 * 7 := ⟨Int.mul_nonneg (by have := ht.1; omega) (by omega), Int.mul_le_mul (by have := ht.2; omega) (by omega) (by omega) (by omega)⟩
 omega
theorem slot_bd {sh : Shp} (h : Shape.R5 sh.a sh.b sh.c sh.d sh.e) {i s : Int} (ht : slotIn sh i s) : slotAt sh i s = headAt sh i + 3 + s := by
 unfold slotAt headAt
 rw [if_pos ht, if_pos ht.1]
theorem placeIf_no (p e : Int) (he : (e != 0) = true) (w : World) : Calls Tryz.prog 102 #[.int .i64 p, .int .i64 e] w fun e w' => e = .returned (.int .i64 (-1)) ∧ w' = w := by
 go_enter Tryz.func102, Tryz.ntmps102
 go_wp2_with fail
 go_ret
 exact ⟨rfl, rfl⟩
theorem placeIf_ok (p : Int) (w : World) : Calls Tryz.prog 102 #[.int .i64 p, .int .i64 0] w fun e w' => e = .returned (.int .i64 p) ∧ w' = w := by
 go_enter Tryz.func102, Tryz.ntmps102
 go_wp2_with fail
 go_ret
 exact ⟨rfl, rfl⟩
theorem headAt_of {sh : Shp} {i p v e : Int} (OB : ∀ w : World, Calls Tryz.prog 19 #[sh.val, .int .i64 i] w fun e' w' => e' = .returned (.tuple #[.int .i64 v, .int .i64 e]) ∧ Below w.heap.size w w')
  (PI : ∀ w : World, Calls Tryz.prog 102 #[.int .i64 v, .int .i64 e] w fun e w' => e = .returned (.int .i64 p) ∧ w' = w) (w : World) : Calls Tryz.prog 98 #[sh.val, .int .i64 i] w fun e w' => e = .returned (.int .i64 p) ∧ Below w.heap.size w w' := by
 have OB := hide OB
 have PI := hide PI
 obtain ⟨s0, s1, s2, s3, s4, s5⟩ := sh
 simp only [Shp.val] at OB ⊢
 obtain ⟨W0, hW0, B0, K⟩ := Shape.box w s0 s1 s2 s3 s4 s5
 have HB := hide B0
 obtain ⟨-, l0, x0, x1, x2, x3, x4, x5⟩ := K.out W0 (Below.refl _ _)
 clear B0
 go_enter Tryz.func98, Tryz.ntmps98
 go_wp2_with (first | (go_at_call 19; refine (OB.out _).mono ?_; rintro e w1 ⟨rfl, hb1⟩; have HB1 := hide (HB.out.trans (hb1.mono HB.out.size)); clear hb1) | (go_at_call 102; refine (PI.out _).mono ?_; rintro e wq ⟨rfl, hwq⟩; obtain rfl := hwq.symm))
 go_ret
 exact ⟨rfl, HB1.out⟩
theorem headAt_any {sh : Shp} (h : Shape.R5 sh.a sh.b sh.c sh.d sh.e) (i : Int) (w : World) : Calls Tryz.prog 98 #[sh.val, .int .i64 i] w fun e w' => e = .returned (.int .i64 (headAt sh i)) ∧ Below w.heap.size w w' := by
 by_cases ht : there sh i
 ·exact headAt_of (fun w => object_yes h ht w) (fun w => placeIf_ok _ w) w
 ·rw [show headAt sh i = -1 from by simp [headAt, ht]]
  exact headAt_of (fun w => object_no h ht w) (fun w => placeIf_no 0 2 (by decide) w) w
theorem slotAt_of {sh : Shp} {i j p v e : Int} (OB : ∀ w : World, Calls Tryz.prog 101 #[sh.val, .int .i64 i, .int .i64 j] w fun e' w' => e' = .returned (.tuple #[.int .i64 v, .int .i64 e]) ∧ Below w.heap.size w w')
  (PI : ∀ w : World, Calls Tryz.prog 102 #[.int .i64 v, .int .i64 e] w fun e w' => e = .returned (.int .i64 p) ∧ w' = w) (w : World) : Calls Tryz.prog 67 #[sh.val, .int .i64 i, .int .i64 j] w fun e w' => e = .returned (.int .i64 p) ∧ Below w.heap.size w w' := by
 have OB := hide OB
 have PI := hide PI
 obtain ⟨s0, s1, s2, s3, s4, s5⟩ := sh
 simp only [Shp.val] at OB ⊢
 obtain ⟨W0, hW0, B0, K⟩ := Shape.box w s0 s1 s2 s3 s4 s5
 have HB := hide B0
 obtain ⟨-, l0, x0, x1, x2, x3, x4, x5⟩ := K.out W0 (Below.refl _ _)
 clear B0
 go_enter Tryz.func67, Tryz.ntmps67
 go_wp2_with (first | (go_at_call 101; refine (OB.out _).mono ?_; rintro e w1 ⟨rfl, hb1⟩; have HB1 := hide (HB.out.trans (hb1.mono HB.out.size)); clear hb1) | (go_at_call 102; refine (PI.out _).mono ?_; rintro e wq ⟨rfl, hwq⟩; obtain rfl := hwq.symm))
 go_ret
 exact ⟨rfl, HB1.out⟩
theorem slotAt_any {sh : Shp} (h : Shape.R5 sh.a sh.b sh.c sh.d sh.e) (i j : Int) (w : World) : Calls Tryz.prog 67 #[sh.val, .int .i64 i, .int .i64 j] w fun e w' => e = .returned (.int .i64 (slotAt sh i j)) ∧ Below w.heap.size w w' := by
 by_cases ht : slotIn sh i j
 ·exact slotAt_of (fun w => slot_yes h ht w) (fun w => placeIf_ok _ w) w
 ·rw [show slotAt sh i j = -1 from by simp [slotAt, ht]]
  exact slotAt_of (fun w => slot_no h ht w) (fun w => placeIf_no 0 2 (by decide) w) w
theorem linkAt_of {sh : Shp} {i p v e : Int} (OB : ∀ w : World, Calls Tryz.prog 19 #[sh.val, .int .i64 i] w fun e' w' => e' = .returned (.tuple #[.int .i64 v, .int .i64 e]) ∧ Below w.heap.size w w')
  (hv : wrap64 (v + 1) = v + 1) (PI : ∀ w : World, Calls Tryz.prog 102 #[.int .i64 (v + 1), .int .i64 e] w fun e w' => e = .returned (.int .i64 p) ∧ w' = w) (w : World) : Calls Tryz.prog 127 #[sh.val, .int .i64 i] w fun e w' => e = .returned (.int .i64 p) ∧ Below w.heap.size w w' := by
 have OB := hide OB
 have PI := hide PI
 obtain ⟨s0, s1, s2, s3, s4, s5⟩ := sh
 simp only [Shp.val] at OB ⊢
 obtain ⟨W0, hW0, B0, K⟩ := Shape.box w s0 s1 s2 s3 s4 s5
 have HB := hide B0
 obtain ⟨-, l0, x0, x1, x2, x3, x4, x5⟩ := K.out W0 (Below.refl _ _)
 clear B0
 go_enter Tryz.func127, Tryz.ntmps127
 go_wp2_with (first | (go_at_call 19; refine (OB.out _).mono ?_; rintro e w1 ⟨rfl, hb1⟩; have HB1 := hide (HB.out.trans (hb1.mono HB.out.size)); clear hb1) | (go_at_call 102; refine (PI.out _).mono ?_; rintro e wq ⟨rfl, hwq⟩; obtain rfl := hwq.symm))
 go_ret
 exact ⟨rfl, HB1.out⟩
theorem linkAt_any {sh : Shp} (h : Shape.R5 sh.a sh.b sh.c sh.d sh.e) (i : Int) (w : World) : Calls Tryz.prog 127 #[sh.val, .int .i64 i] w fun e w' => e = .returned (.int .i64 (linkAt sh i)) ∧ Below w.heap.size w w' := by
 by_cases ht : there sh i
 ·obtain ⟨hb1, hb2, hb3⟩ := head_bd h ht
  rw [hb3]
  exact linkAt_of (fun w => object_yes h ht w) (by unfold wrap64; omega) (fun w => placeIf_ok _ w) w
 ·rw [show linkAt sh i = -1 from by simp [linkAt, ht]]
  exact linkAt_of (fun w => object_no h ht w) (by unfold wrap64; omega) (fun w => placeIf_no _ 2 (by decide) w) w
def nextAt (sh : Shp) (i : Int) : Int := if there sh i then headAt sh i + 2 else -1
theorem nextAt_of {sh : Shp} {i p v e : Int} (OB : ∀ w : World, Calls Tryz.prog 19 #[sh.val, .int .i64 i] w fun e' w' => e' = .returned (.tuple #[.int .i64 v, .int .i64 e]) ∧ Below w.heap.size w w')
  (hv : wrap64 (v + 2) = v + 2) (PI : ∀ w : World, Calls Tryz.prog 102 #[.int .i64 (v + 2), .int .i64 e] w fun e w' => e = .returned (.int .i64 p) ∧ w' = w) (w : World) : Calls Tryz.prog 126 #[sh.val, .int .i64 i] w fun e w' => e = .returned (.int .i64 p) ∧ Below w.heap.size w w' := by
 have OB := hide OB
 have PI := hide PI
 obtain ⟨s0, s1, s2, s3, s4, s5⟩ := sh
 simp only [Shp.val] at OB ⊢
 obtain ⟨W0, hW0, B0, K⟩ := Shape.box w s0 s1 s2 s3 s4 s5
 have HB := hide B0
 obtain ⟨-, l0, x0, x1, x2, x3, x4, x5⟩ := K.out W0 (Below.refl _ _)
 clear B0
 go_enter Tryz.func126, Tryz.ntmps126
 go_wp2_with (first | (go_at_call 19; refine (OB.out _).mono ?_; rintro e w1 ⟨rfl, hb1⟩; have HB1 := hide (HB.out.trans (hb1.mono HB.out.size)); clear hb1) | (go_at_call 102; refine (PI.out _).mono ?_; rintro e wq ⟨rfl, hwq⟩; obtain rfl := hwq.symm))
 go_ret
 exact ⟨rfl, HB1.out⟩
theorem nextAt_any {sh : Shp} (h : Shape.R5 sh.a sh.b sh.c sh.d sh.e) (i : Int) (w : World) : Calls Tryz.prog 126 #[sh.val, .int .i64 i] w fun e w' => e = .returned (.int .i64 (nextAt sh i)) ∧ Below w.heap.size w w' := by
 by_cases ht : there sh i
 ·obtain ⟨hb1, hb2, hb3⟩ := head_bd h ht
  rw [show nextAt sh i = headAt sh i + 2 from by simp [nextAt, ht]]
  exact nextAt_of (fun w => object_yes h ht w) (by unfold wrap64; omega) (fun w => placeIf_ok _ w) w
 ·rw [show nextAt sh i = -1 from by simp [nextAt, ht]]
  exact nextAt_of (fun w => object_no h ht w) (by unfold wrap64; omega) (fun w => placeIf_no _ 2 (by decide) w) w
def behAt (sh : Shp) (lst i : Int) : Int := if lst = 3 then nextAt sh i else linkAt sh i
theorem behindAt_any {sh : Shp} (h : Shape.R5 sh.a sh.b sh.c sh.d sh.e) (lst i : Int) (w : World) : Calls Tryz.prog 114 #[sh.val, .int .i64 lst, .int .i64 i] w fun e w' => e = .returned (.int .i64 (behAt sh lst i)) ∧ Below w.heap.size w w' := by
 have NX := hide (fun w1 : World => nextAt_any h i w1)
 have LK := hide (fun w1 : World => linkAt_any h i w1)
 clear h
 by_cases hl : lst = 3
 ·subst hl
  rw [show behAt sh 3 i = nextAt sh i from by simp [behAt]]
  generalize nextAt sh i = v at NX
  clear LK
  obtain ⟨s0, s1, s2, s3, s4, s5⟩ := sh
  simp only [Shp.val] at NX ⊢
  obtain ⟨W0, hW0, B0, K⟩ := Shape.box w s0 s1 s2 s3 s4 s5
  have HB := hide B0
  obtain ⟨-, l0, x0, x1, x2, x3, x4, x5⟩ := K.out W0 (Below.refl _ _)
  clear B0
  go_enter Tryz.func114, Tryz.ntmps114
  go_wp2_with (go_at_call 126; refine (NX.out _).mono ?_; rintro e w1 ⟨rfl, hb1⟩; have HB1 := hide (HB.out.trans (hb1.mono HB.out.size)); clear hb1)
  go_ret
  exact ⟨rfl, HB1.out⟩
 ·rw [show behAt sh lst i = linkAt sh i from by simp [behAt, hl]]
  generalize linkAt sh i = v at LK
  clear NX
  have hl' : (lst == 3) = false := by simp [hl]
  obtain ⟨s0, s1, s2, s3, s4, s5⟩ := sh
  simp only [Shp.val] at LK ⊢
  obtain ⟨W0, hW0, B0, K⟩ := Shape.box w s0 s1 s2 s3 s4 s5
  have HB := hide B0
  obtain ⟨-, l0, x0, x1, x2, x3, x4, x5⟩ := K.out W0 (Below.refl _ _)
  clear B0
  go_enter Tryz.func114, Tryz.ntmps114
  go_wp2_with (go_at_call 127; refine (LK.out _).mono ?_; rintro e w1 ⟨rfl, hb1⟩; have HB1 := hide (HB.out.trans (hb1.mono HB.out.size)); clear hb1)
  go_ret
  exact ⟨rfl, HB1.out⟩
theorem isNumber_any (sh : Shp) (i : Int) (w : World) : Calls Tryz.prog 55 #[sh.val, .int .i64 i] w fun e w' => e = .returned (.bool (decide (there sh i))) ∧ Below w.heap.size w w' := by
 obtain ⟨s0, s1, s2, s3, s4, s5⟩ := sh
 simp only [Shp.val]
 obtain ⟨W0, hW0, B0, K⟩ := Shape.box w s0 s1 s2 s3 s4 s5
 have HB := hide B0
 obtain ⟨-, l0, x0, x1, x2, x3, x4, x5⟩ := K.out W0 (Below.refl _ _)
 clear B0
 by_cases h1 : (1 : Int) ≤ i
 ·have g1 : decide (there ⟨s0, s1, s2, s3, s4, s5⟩ i) = decide (i ≤ s0) := by simp [there, h1]
  rw [g1]
  have g2 : decide (i ≥ 1) = true := by simpa using h1
  clear g1
  go_enter Tryz.func55, Tryz.ntmps55
  go_wp2_with fail
  go_ret
  exact ⟨rfl, HB.out⟩
 ·have g1 : decide (there ⟨s0, s1, s2, s3, s4, s5⟩ i) = false := by simp [there, h1]
  rw [g1]
  have g2 : decide (i ≥ 1) = false := by simpa using h1
  clear g1
  go_enter Tryz.func55, Tryz.ntmps55
  go_wp2_with fail
  go_ret
  exact ⟨rfl, HB.out⟩
end Hp
end
end Go.Proofs.YtppgbndoijppnaaGreat
