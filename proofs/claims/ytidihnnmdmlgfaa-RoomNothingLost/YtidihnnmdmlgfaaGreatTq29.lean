/-
  Lemmas: VsF, VsO, HeapR.
-/
import Derived.Test.YtidihnnmdmlgfaaGreatTq25
import Derived.Test.YtidihnnmdmlgfaaGreatTq13
import Derived.Test.YtidihnnmdmlgfaaGreatTq06
namespace Go.Proofs.YtidihnnmdmlgfaaGreat
set_option maxHeartbeats 8000000
open Go.RowKit
set_option linter.unusedVariables false
set_option linter.unusedSimpArgs false
set_option linter.unnecessarySimpa false
set_option maxRecDepth 20000
section
namespace Shape
theorem rng {w' : World} {b : Nat} {v0 v1 v2 v3 v4 v5 : Value} (y0 : w'.cell? ⟨b, 0, none⟩ = some v0) (y1 : w'.cell? ⟨b, 1, none⟩ = some v1) (y2 : w'.cell? ⟨b, 2, none⟩ = some v2) (y3 : w'.cell? ⟨b, 3, none⟩ = some v3) (y4 : w'.cell? ⟨b, 4, none⟩ = some v4) (y5 : w'.cell? ⟨b, 5, none⟩ = some v5) : w'.rangeAt b 0 [v0, v1, v2, v3, v4, v5] := by
  intro j v hv
  match j, hv with
  | 0, hv => cases hv; simpa using y0
  | 1, hv => cases hv; simpa using y1
  | 2, hv => cases hv; simpa using y2
  | 3, hv => cases hv; simpa using y3
  | 4, hv => cases hv; simpa using y4
  | 5, hv => cases hv; simpa using y5
end Shape
end
section
namespace Shape
theorem slot_arg1 {s0 s1 s2 s3 s4 s5 : Int} {a b : Int} (H : R5 s0 s1 s2 s3 s4) (ha : ¬ (1 ≤ a ∧ a ≤ s0)) (w : World) : Calls Tryz.prog 71 #[.agg #[.int .i64 s0, .int .i64 s1, .int .i64 s2, .int .i64 s3, .int .i64 s4, .int .i64 s5], .int .i64 a, .int .i64 b] w fun e w' => e = .returned (.tuple #[.int .i64 0, .int .i64 2]) ∧ Below w.heap.size w w' := by
  have HH := hide H
  have T1 := hide (fun w1 : World => within_f ha w1)
  clear H ha
  obtain ⟨W0, hW0, B0, K⟩ := box w s0 s1 s2 s3 s4 s5
  have HB := hide B0
  obtain ⟨-, l0, x0, x1, x2, x3, x4, x5⟩ := K.out W0 (Below.refl _ _)
  clear B0
  go_enter Tryz.func71, Tryz.ntmps71
  go_wp2_with fail
  refine Lt.region (ks := [(0, 9), (1, 10), (2, 11), (3, 12), (4, 13), (5, 14), (6, 15), (7, 16), (8, 17), (9, 18), (10, 19), (11, 20), (12, 8)]) (vals := fun iv => match iv with
      | 0 => .agg #[.int .i64 s0, .int .i64 s1, .int .i64 s2, .int .i64 s3, .int .i64 s4, .int .i64 s5]
      | 1 => .int .i64 a
      | 2 => .pointer (some ⟨w.heap.size, 0, none⟩)
      | 3 => .int .i64 s0
      | 4 => .bool false
      | 5 => .bool false
      | 6 => undef
      | 7 => undef
      | 8 => undef
      | 9 => undef
      | 10 => .bool false
      | 11 => .int .i64 2
      | 12 => .int .i64 2
      | _ => undef) (WI := fun w' => Below W0.heap.size W0 w') (by kernel_rfl) ?bk rfl ?dd (⟨rfl, rfl, rfl, Nat.le_refl _, fun _ _ => rfl⟩) ?does ?fin
  case bk =>
    intro iq oq ho
    have hiq : iq < 13 := by have := (Array.getElem?_eq_some_iff.1 ho).1; simpa using this
    match iq, hiq with
    | 0, _ | 1, _ | 2, _ | 3, _ | 4, _ | 5, _ | 6, _ | 7, _ | 8, _ | 9, _ | 10, _ | 11, _ | 12, _ => injection ho with ho; subst ho; simp [Region.binds]
  case dd =>
    intro k hk
    have hk' : k < 30 := by
      simp [Lt.D] at hk
      omega
    simpa using hk'
  case does =>
    intro iq oq ho
    have hiq : iq < 13 := by have := (Array.getElem?_eq_some_iff.1 ho).1; simpa using this
    match iq, hiq with
    | 0, _ => injection ho with ho; subst ho; exact Lt.Does.read rfl (fun Lq aq w' hI hq => Lt.wn0 rfl) (fun Lq aq w' hI hq => Lt.ex_load_row rfl (hI.fix 3 (Lt.notD rfl)) (by obtain ⟨-, -, y0, y1, y2, y3, y4, y5⟩ := K.out w' hI.world; exact rng y0 y1 y2 y3 y4 y5) (by kernel_rfl) (by kernel_rfl))
    | 1, _ => injection ho with ho; subst ho; exact Lt.Does.read rfl (fun Lq aq w' hI hq => Lt.wn0 rfl) (fun Lq aq w' hI hq => Lt.ex_move rfl (hI.fix 1 (Lt.notD rfl)))
    | 2, _ => injection ho with ho; subst ho; exact Lt.Does.read rfl (fun Lq aq w' hI hq => Lt.wn0 rfl) (fun Lq aq w' hI hq => Lt.ex_field rfl (hI.fix 3 (Lt.notD rfl)) (by simp [go_sem]))
    | 3, _ => injection ho with ho; subst ho; exact Lt.Does.read rfl (fun Lq aq w' hI hq => Lt.wn0 rfl) (fun Lq aq w' hI hq => Lt.ex_load rfl (hI.pure 2 _ _ rfl (hq ⟨2, .data⟩ (by simp) rfl)) (by simp [go_sem]) (by obtain ⟨-, -, y0, y1, y2, y3, y4, y5⟩ := K.out w' hI.world; exact y0))
    | 4, _ => injection ho with ho; subst ho; exact Lt.Does.call rfl (fun Lq aq w' hI hq => Lt.wn0 rfl) (fun Lq aq w' hI hq => Lt.call3 rfl (hI.pure 1 _ _ rfl (hq ⟨1, .data⟩ (by simp) rfl)) rfl (hI.pure 3 _ _ rfl (hq ⟨3, .data⟩ (by simp) rfl)) rfl (by simp [go_sem])) (fun w1 hw1 => (T1.out w1).mono (by rintro e w2 ⟨rfl, hw2⟩; obtain rfl := hw2.symm; exact ⟨rfl, hw1⟩))
    | 5, _ => injection ho with ho; subst ho; exact Lt.Does.read rfl (fun Lq aq w' hI hq => Lt.wn0 rfl) (fun Lq aq w' hI hq => Lt.ex_move rfl (hI.pure 4 _ _ rfl (hq ⟨4, .data⟩ (by simp) rfl)))
    | 6, _ => injection ho with ho; subst ho; exact .skip rfl (fun Lq aq w' hI hq => Lt.wnG (d := 14) (c := false) rfl rfl (hI.pure 5 _ _ rfl (hq ⟨5, .guard⟩ (by simp) rfl)) rfl) rfl
    | 7, _ => injection ho with ho; subst ho; exact .skip rfl (fun Lq aq w' hI hq => Lt.wnG (d := 14) (c := false) rfl rfl (hI.pure 5 _ _ rfl (hq ⟨5, .guard⟩ (by simp) rfl)) rfl) rfl
    | 8, _ => injection ho with ho; subst ho; exact .skip rfl (fun Lq aq w' hI hq => Lt.wnG (d := 14) (c := false) rfl rfl (hI.pure 5 _ _ rfl (hq ⟨5, .guard⟩ (by simp) rfl)) rfl) rfl
    | 9, _ => injection ho with ho; subst ho; exact .skip rfl (fun Lq aq w' hI hq => Lt.wnG (d := 14) (c := false) rfl rfl (hI.pure 5 _ _ rfl (hq ⟨5, .guard⟩ (by simp) rfl)) rfl) rfl
    | 10, _ => injection ho with ho; subst ho; exact Lt.Does.read rfl (fun Lq aq w' hI hq => Lt.wn0 rfl) (fun Lq aq w' hI hq => Lt.ex_pick (b := false) rfl (hI.pure 5 _ _ rfl (hq ⟨5, .data⟩ (by simp) rfl)) (by first | exact rfl | simpa using rfl))
    | 11, _ => injection ho with ho; subst ho; exact Lt.Does.call rfl (fun Lq aq w' hI hq => Lt.wn0 rfl) (fun Lq aq w' hI hq => Lt.call2 rfl (hI.pure 0 _ _ rfl (hq ⟨0, .data⟩ (by simp) rfl)) (hI.pure 10 _ _ rfl (hq ⟨10, .data⟩ (by simp) rfl)) rfl (by simp [go_sem])) (fun w1 hw1 => (cw_arg HH.out w1).mono (by rintro e w2 ⟨rfl, hb⟩; exact ⟨rfl, hw1.trans (hb.mono hw1.size)⟩))
    | 12, _ => injection ho with ho; subst ho; exact Lt.Does.read rfl (fun Lq aq w' hI hq => Lt.wn0 rfl) (fun Lq aq w' hI hq => Lt.ex_assign rfl (hI.pure 11 _ _ rfl (hq ⟨11, .data⟩ (by simp) rfl)))
  case fin =>
    intro Lq a' w' hI hall
    have hw := hI.world
    obtain rfl : a' = ⟨#[.agg #[.int .i64 s0, .int .i64 s1, .int .i64 s2, .int .i64 s3, .int .i64 s4, .int .i64 s5], .int .i64 a, .int .i64 b, .pointer (some ⟨w.heap.size, 0, none⟩), undef, undef, .int .i64 0, .int .i64 0, .int .i64 2, .agg #[.int .i64 s0, .int .i64 s1, .int .i64 s2, .int .i64 s3, .int .i64 s4, .int .i64 s5], .int .i64 a, .pointer (some ⟨w.heap.size, 0, none⟩), .int .i64 s0, .bool false, .bool false, undef, undef, undef, undef, .bool false, .int .i64 2, undef, undef, undef, undef, undef, undef, undef, undef, undef], []⟩ := Lt.act_eq a' [.agg #[.int .i64 s0, .int .i64 s1, .int .i64 s2, .int .i64 s3, .int .i64 s4, .int .i64 s5], .int .i64 a, .int .i64 b, .pointer (some ⟨w.heap.size, 0, none⟩), undef, undef, .int .i64 0, .int .i64 0, .int .i64 2, .agg #[.int .i64 s0, .int .i64 s1, .int .i64 s2, .int .i64 s3, .int .i64 s4, .int .i64 s5], .int .i64 a, .pointer (some ⟨w.heap.size, 0, none⟩), .int .i64 s0, .bool false, .bool false, undef, undef, undef, undef, .bool false, .int .i64 2, undef, undef, undef, undef, undef, undef, undef, undef, undef] hI.df (by rw [hI.sz]; rfl) (fun k hk => by
      have hk' : k < 30 := hk
      match k, hk' with
      | 0, _ => exact hI.fix 0 (Lt.notD rfl)
      | 1, _ => exact hI.fix 1 (Lt.notD rfl)
      | 2, _ => exact hI.fix 2 (Lt.notD rfl)
      | 3, _ => exact hI.fix 3 (Lt.notD rfl)
      | 4, _ => exact hI.fix 4 (Lt.notD rfl)
      | 5, _ => exact hI.fix 5 (Lt.notD rfl)
      | 6, _ => exact hI.fix 6 (Lt.notD rfl)
      | 7, _ => exact hI.fix 7 (Lt.notD rfl)
      | 8, _ => exact hI.pure 12 8 _ rfl (hall 12 (by decide))
      | 9, _ => exact hI.pure 0 9 _ rfl (hall 0 (by decide))
      | 10, _ => exact hI.pure 1 10 _ rfl (hall 1 (by decide))
      | 11, _ => exact hI.pure 2 11 _ rfl (hall 2 (by decide))
      | 12, _ => exact hI.pure 3 12 _ rfl (hall 3 (by decide))
      | 13, _ => exact hI.pure 4 13 _ rfl (hall 4 (by decide))
      | 14, _ => exact hI.pure 5 14 _ rfl (hall 5 (by decide))
      | 15, _ => exact hI.pure 6 15 _ rfl (hall 6 (by decide))
      | 16, _ => exact hI.pure 7 16 _ rfl (hall 7 (by decide))
      | 17, _ => exact hI.pure 8 17 _ rfl (hall 8 (by decide))
      | 18, _ => exact hI.pure 9 18 _ rfl (hall 9 (by decide))
      | 19, _ => exact hI.pure 10 19 _ rfl (hall 10 (by decide))
      | 20, _ => exact hI.pure 11 20 _ rfl (hall 11 (by decide))
      | 21, _ => exact hI.fix 21 (Lt.notD rfl)
      | 22, _ => exact hI.fix 22 (Lt.notD rfl)
      | 23, _ => exact hI.fix 23 (Lt.notD rfl)
      | 24, _ => exact hI.fix 24 (Lt.notD rfl)
      | 25, _ => exact hI.fix 25 (Lt.notD rfl)
      | 26, _ => exact hI.fix 26 (Lt.notD rfl)
      | 27, _ => exact hI.fix 27 (Lt.notD rfl)
      | 28, _ => exact hI.fix 28 (Lt.notD rfl)
      | 29, _ => exact hI.fix 29 (Lt.notD rfl)
      | q + 30, hq => exact absurd hq (by omega))
    rename_i K2 hK2
    refine hK2 _ _ ?_
    go_wp2_with fail
    go_ret2
    exact ⟨rfl, (K.out _ hw).1⟩
theorem slot_arg2 {s0 s1 s2 s3 s4 s5 : Int} {a b : Int} (H : R5 s0 s1 s2 s3 s4) (ha : 1 ≤ a ∧ a ≤ s0) (hb : ¬ (0 ≤ b ∧ b < s1)) (w : World) : Calls Tryz.prog 71 #[.agg #[.int .i64 s0, .int .i64 s1, .int .i64 s2, .int .i64 s3, .int .i64 s4, .int .i64 s5], .int .i64 a, .int .i64 b] w fun e w' => e = .returned (.tuple #[.int .i64 0, .int .i64 2]) ∧ Below w.heap.size w w' := by
  have HH := hide H
  have T1 := hide (fun w1 : World => within_t ha.1 ha.2 w1)
  have T2 := hide (fun w1 : World => isn_f hb w1)
  clear H ha hb
  obtain ⟨W0, hW0, B0, K⟩ := box w s0 s1 s2 s3 s4 s5
  have HB := hide B0
  obtain ⟨-, l0, x0, x1, x2, x3, x4, x5⟩ := K.out W0 (Below.refl _ _)
  clear B0
  go_enter Tryz.func71, Tryz.ntmps71
  go_wp2_with fail
  go_region_held (fun w' => w'.cell? ⟨w.heap.size, 0, none⟩ = some (.int .i64 s0) ∧ w'.cell? ⟨w.heap.size, 1, none⟩ = some (.int .i64 s1) ∧ w'.cell? ⟨w.heap.size, 2, none⟩ = some (.int .i64 s2) ∧ w'.cell? ⟨w.heap.size, 3, none⟩ = some (.int .i64 s3) ∧ w'.cell? ⟨w.heap.size, 4, none⟩ = some (.int .i64 s4) ∧ w'.cell? ⟨w.heap.size, 5, none⟩ = some (.int .i64 s5)) (go_keep) (first | (go_at_call 12; refine (T1.out _).mono ?_; rintro e wq ⟨rfl, hwq⟩; obtain rfl := hwq.symm) | (go_at_call 81; refine (T2.out _).mono ?_; rintro e wq ⟨rfl, hwq⟩; obtain rfl := hwq.symm) | (go_at_call 11; refine (cw_arg HH.out _).mono ?_; rintro e w1 ⟨rfl, hb1⟩; have HB1 := hide (show Below W0.heap.size W0 w1 from ⟨hb1.os, hb1.tape, hb1.output, hb1.size, hb1.block⟩); clear hb1; obtain ⟨-, m1, y10, y11, y12, y13, y14, y15⟩ := K.out w1 HB1.out))
  all_goals go_wp2_with fail
  all_goals go_ret2
  all_goals exact ⟨rfl, (K.out _ HB1.out).1⟩
theorem slot_ok {o s h r k : Nat} {s5 : Int} {a b p q : Nat} (H : (⟨o, s, h, r, k⟩ : Sh).Ok) (hp : h * r = p) (ha1 : 1 ≤ a) (ha : a ≤ o) (hq : (a - 1) * (3 + s) = q) (hq2 : q ≤ 448) (hb : b < s) (w : World) : Calls Tryz.prog 71 #[.agg #[.int .i64 (o : Int), .int .i64 (s : Int), .int .i64 (h : Int), .int .i64 (r : Int), .int .i64 (k : Int), .int .i64 s5], .int .i64 (a : Int), .int .i64 (b : Int)] w fun e w' => e = .returned (.tuple #[.int .i64 (8 + (h : Int) + (p : Int) + (k : Int) + (q : Int) + 3 + (b : Int)), .int .i64 0]) ∧ Below w.heap.size w w' := by
  have HH := hide (r5 H)
  obtain ⟨b1, b2, b3, b4, b5, b6, b7, b8, b9, b10⟩ := bnds H
  rw [hp] at b6
  have T1 := hide (fun w1 : World => within_t (n := (a : Int)) (lo := 1) (hi := (o : Int)) (by omega) (by omega) w1)
  have T2 := hide (fun w1 : World => isn_t (n := (b : Int)) (c := (s : Int)) (by omega) (by omega) w1)
  have RA := hide (fun w1 => objectAt_any (o := o) (s := s) (h := h) (r := r) (k := k) (s5 := s5) (i := a) (p := p) (q := q) b3 b2 b5 hp (by omega) ha1 (by omega) hq hq2 w1)
  clear hp hq
  clear H b7
  obtain ⟨W0, hW0, B0, K⟩ := box w (o : Int) (s : Int) (h : Int) (r : Int) (k : Int) s5
  have HB := hide B0
  obtain ⟨-, l0, x0, x1, x2, x3, x4, x5⟩ := K.out W0 (Below.refl _ _)
  clear B0
  go_enter Tryz.func71, Tryz.ntmps71
  go_wp2_with fail
  go_region_held (fun w' => w'.cell? ⟨w.heap.size, 0, none⟩ = some (.int .i64 (o : Int)) ∧ w'.cell? ⟨w.heap.size, 1, none⟩ = some (.int .i64 (s : Int)) ∧ w'.cell? ⟨w.heap.size, 2, none⟩ = some (.int .i64 (h : Int)) ∧ w'.cell? ⟨w.heap.size, 3, none⟩ = some (.int .i64 (r : Int)) ∧ w'.cell? ⟨w.heap.size, 4, none⟩ = some (.int .i64 (k : Int)) ∧ w'.cell? ⟨w.heap.size, 5, none⟩ = some (.int .i64 s5)) (go_keep) (first | (go_at_call 12; refine (T1.out _).mono ?_; rintro e wq ⟨rfl, hwq⟩; obtain rfl := hwq.symm) | (go_at_call 81; refine (T2.out _).mono ?_; rintro e wq ⟨rfl, hwq⟩; obtain rfl := hwq.symm) | (go_at_call 11; refine (cw_ok HH.out _).mono ?_; rintro e w1 ⟨rfl, hb1⟩; have HB1 := hide (show Below W0.heap.size W0 w1 from ⟨hb1.os, hb1.tape, hb1.output, hb1.size, hb1.block⟩); clear hb1; obtain ⟨-, m1, y10, y11, y12, y13, y14, y15⟩ := K.out w1 HB1.out))
  all_goals go_wp2_with (go_at_call 13; refine (RA.out _).mono ?_; rintro e w2 ⟨rfl, hb2⟩; have HB2 := hide (HB1.out.trans (hb2.mono HB1.out.size)); clear hb2)
  all_goals go_ret2
  all_goals exact ⟨rfl, (K.out _ HB2.out).1⟩
end Shape
end
section
namespace Hp
theorem natR5 {sh : Shp} (h : Shape.R5 sh.a sh.b sh.c sh.d sh.e) : ∃ o s hh r k : Nat, sh.a = o ∧ sh.b = s ∧ sh.c = hh ∧ sh.d = r ∧ sh.e = k ∧ (⟨o, s, hh, r, k⟩ : Shape.Sh).Ok := by
  obtain ⟨⟨a1, a2⟩, ⟨b1, b2⟩, ⟨c1, c2⟩, ⟨d1, d2⟩, e1, e2⟩ := h
  exact ⟨sh.a.toNat, sh.b.toNat, sh.c.toNat, sh.d.toNat, sh.e.toNat, by omega, by omega, by omega, by omega, by omega, by constructor <;> simp only <;> omega⟩
theorem object_no {sh : Shp} (h : Shape.R5 sh.a sh.b sh.c sh.d sh.e) {i : Int} (ht : ¬ there sh i) (w : World) : Calls Tryz.prog 7 #[sh.val, .int .i64 i] w fun e w' => e = .returned (.tuple #[.int .i64 0, .int .i64 2]) ∧ Below w.heap.size w w' := Shape.object_arg h ht w
theorem object_yes {sh : Shp} (h : Shape.R5 sh.a sh.b sh.c sh.d sh.e) {i : Int} (ht : there sh i) (w : World) : Calls Tryz.prog 7 #[sh.val, .int .i64 i] w fun e w' => e = .returned (.tuple #[.int .i64 (headAt sh i), .int .i64 0]) ∧ Below w.heap.size w w' := by
  obtain ⟨o, s, hh, r, k, e0, e1, e2, e3, e4, H⟩ := natR5 h
  obtain ⟨s0, s1, s2, s3, s4, s5⟩ := sh
  simp only at e0 e1 e2 e3 e4
  subst e0 e1 e2 e3 e4
  obtain ⟨h1, h2⟩ := ht
  simp only at h1 h2
  obtain ⟨a, rfl⟩ := Int.eq_ofNat_of_zero_le (show 0 ≤ i by omega)
  have ho : (a : Int) ≤ (o : Int) := h2
  have hq2 : (a - 1) * (3 + s) ≤ 448 := by
    have o2 : o ≤ 64 := H.o2
    have s2 : s ≤ 4 := H.s2
    exact Nat.mul_le_mul (show a - 1 ≤ 64 by omega) (show 3 + s ≤ 7 by omega)
  have K := Shape.object_ok (s5 := s5) (p := hh * r) H rfl (show 1 ≤ a by omega) (show a ≤ o by omega) rfl hq2 w
  have eq : headAt ⟨o, s, hh, r, k, s5⟩ (a : Int) = 8 + (hh : Int) + ((hh * r : Nat) : Int) + (k : Int) + (((a - 1) * (3 + s) : Nat) : Int) := by
    unfold headAt
    rw [if_pos (show there ⟨o, s, hh, r, k, s5⟩ (a : Int) from ⟨h1, h2⟩)]
    have c : ((a - 1 : Nat) : Int) = (a : Int) - 1 := by omega
    push_cast [c]
    rfl
  rw [eq]
  exact K
theorem slot_no {sh : Shp} (h : Shape.R5 sh.a sh.b sh.c sh.d sh.e) {i s : Int} (ht : ¬ slotIn sh i s) (w : World) : Calls Tryz.prog 71 #[sh.val, .int .i64 i, .int .i64 s] w fun e w' => e = .returned (.tuple #[.int .i64 0, .int .i64 2]) ∧ Below w.heap.size w w' := by
  by_cases h1 : there sh i
  · exact Shape.slot_arg2 h h1 (fun h2 => ht ⟨h1, h2⟩) w
  · exact Shape.slot_arg1 h h1 w
theorem slot_yes {sh : Shp} (h : Shape.R5 sh.a sh.b sh.c sh.d sh.e) {i j : Int} (ht : slotIn sh i j) (w : World) : Calls Tryz.prog 71 #[sh.val, .int .i64 i, .int .i64 j] w fun e w' => e = .returned (.tuple #[.int .i64 (slotAt sh i j), .int .i64 0]) ∧ Below w.heap.size w w' := by
  obtain ⟨o, s, hh, r, k, e0, e1, e2, e3, e4, H⟩ := natR5 h
  obtain ⟨s0, s1, s2, s3, s4, s5⟩ := sh
  simp only at e0 e1 e2 e3 e4
  subst e0 e1 e2 e3 e4
  have ht' := ht
  obtain ⟨⟨h1, h2⟩, h3, h4⟩ := ht
  simp only at h1 h2 h3 h4
  obtain ⟨a, rfl⟩ := Int.eq_ofNat_of_zero_le (show 0 ≤ i by omega)
  obtain ⟨b, rfl⟩ := Int.eq_ofNat_of_zero_le h3
  have ho : (a : Int) ≤ (o : Int) := h2
  have hq2 : (a - 1) * (3 + s) ≤ 448 := by
    have o2 : o ≤ 64 := H.o2
    have s2 : s ≤ 4 := H.s2
    exact Nat.mul_le_mul (show a - 1 ≤ 64 by omega) (show 3 + s ≤ 7 by omega)
  have K := Shape.slot_ok (s5 := s5) (p := hh * r) (b := b) H rfl (show 1 ≤ a by omega) (show a ≤ o by omega) rfl hq2 (by omega) w
  have eq : slotAt ⟨o, s, hh, r, k, s5⟩ (a : Int) (b : Int) = 8 + (hh : Int) + ((hh * r : Nat) : Int) + (k : Int) + (((a - 1) * (3 + s) : Nat) : Int) + 3 + (b : Int) := by
    unfold slotAt
    rw [if_pos ht']
    have c : ((a - 1 : Nat) : Int) = (a : Int) - 1 := by omega
    push_cast [c]
    rfl
  rw [eq]
  exact K
theorem head_bd {sh : Shp} (h : Shape.R5 sh.a sh.b sh.c sh.d sh.e) {i : Int} (ht : there sh i) : 8 ≤ headAt sh i ∧ headAt sh i ≤ 1000 ∧ linkAt sh i = headAt sh i + 1 := by
  obtain ⟨o, s, hh, r, k, e0, e1, e2, e3, e4, H⟩ := natR5 h
  unfold headAt linkAt
  rw [if_pos ht, if_pos ht]
  obtain ⟨⟨a1, a2⟩, ⟨b1, b2⟩, ⟨c1, c2⟩, ⟨d1, d2⟩, f1, f2⟩ := h
  have p1 : 0 ≤ sh.c * sh.d ∧ sh.c * sh.d ≤ 7 * 8 := ⟨Int.mul_nonneg (by omega) (by omega), Int.mul_le_mul c2 d2 (by omega) (by omega)⟩
  have p2 : 0 ≤ (i - 1) * (3 + sh.b) ∧ (i - 1) * (3 + sh.b) ≤ 64 * 7 := ⟨Int.mul_nonneg (by have := ht.1; omega) (by omega), Int.mul_le_mul (by have := ht.2; omega) (by omega) (by omega) (by omega)⟩
  omega
theorem slot_bd {sh : Shp} (h : Shape.R5 sh.a sh.b sh.c sh.d sh.e) {i s : Int} (ht : slotIn sh i s) : slotAt sh i s = headAt sh i + 3 + s := by
  unfold slotAt headAt
  rw [if_pos ht, if_pos ht.1]
theorem placeIf_no (p e : Int) (he : (e != 0) = true) (w : World) : Calls Tryz.prog 72 #[.int .i64 p, .int .i64 e] w fun e w' => e = .returned (.int .i64 (-1)) ∧ w' = w := by
  go_enter Tryz.func72, Tryz.ntmps72
  go_wp2_with fail
  go_ret
  exact ⟨rfl, rfl⟩
theorem placeIf_ok (p : Int) (w : World) : Calls Tryz.prog 72 #[.int .i64 p, .int .i64 0] w fun e w' => e = .returned (.int .i64 p) ∧ w' = w := by
  go_enter Tryz.func72, Tryz.ntmps72
  go_wp2_with fail
  go_ret
  exact ⟨rfl, rfl⟩
theorem headAt_of {sh : Shp} {i p v e : Int} (OB : ∀ w : World, Calls Tryz.prog 7 #[sh.val, .int .i64 i] w fun e' w' => e' = .returned (.tuple #[.int .i64 v, .int .i64 e]) ∧ Below w.heap.size w w')
    (PI : ∀ w : World, Calls Tryz.prog 72 #[.int .i64 v, .int .i64 e] w fun e w' => e = .returned (.int .i64 p) ∧ w' = w) (w : World) : Calls Tryz.prog 68 #[sh.val, .int .i64 i] w fun e w' => e = .returned (.int .i64 p) ∧ Below w.heap.size w w' := by
  have OB := hide OB
  have PI := hide PI
  obtain ⟨s0, s1, s2, s3, s4, s5⟩ := sh
  simp only [Shp.val] at OB ⊢
  obtain ⟨W0, hW0, B0, K⟩ := Shape.box w s0 s1 s2 s3 s4 s5
  have HB := hide B0
  obtain ⟨-, l0, x0, x1, x2, x3, x4, x5⟩ := K.out W0 (Below.refl _ _)
  clear B0
  go_enter Tryz.func68, Tryz.ntmps68
  go_wp2_with (first | (go_at_call 7; refine (OB.out _).mono ?_; rintro e w1 ⟨rfl, hb1⟩; have HB1 := hide (HB.out.trans (hb1.mono HB.out.size)); clear hb1) | (go_at_call 72; refine (PI.out _).mono ?_; rintro e wq ⟨rfl, hwq⟩; obtain rfl := hwq.symm))
  go_ret
  exact ⟨rfl, HB1.out⟩
theorem headAt_any {sh : Shp} (h : Shape.R5 sh.a sh.b sh.c sh.d sh.e) (i : Int) (w : World) : Calls Tryz.prog 68 #[sh.val, .int .i64 i] w fun e w' => e = .returned (.int .i64 (headAt sh i)) ∧ Below w.heap.size w w' := by
  by_cases ht : there sh i
  · exact headAt_of (fun w => object_yes h ht w) (fun w => placeIf_ok _ w) w
  · rw [show headAt sh i = -1 from by simp [headAt, ht]]
    exact headAt_of (fun w => object_no h ht w) (fun w => placeIf_no 0 2 (by decide) w) w
theorem slotAt_of {sh : Shp} {i j p v e : Int} (OB : ∀ w : World, Calls Tryz.prog 71 #[sh.val, .int .i64 i, .int .i64 j] w fun e' w' => e' = .returned (.tuple #[.int .i64 v, .int .i64 e]) ∧ Below w.heap.size w w')
    (PI : ∀ w : World, Calls Tryz.prog 72 #[.int .i64 v, .int .i64 e] w fun e w' => e = .returned (.int .i64 p) ∧ w' = w) (w : World) : Calls Tryz.prog 58 #[sh.val, .int .i64 i, .int .i64 j] w fun e w' => e = .returned (.int .i64 p) ∧ Below w.heap.size w w' := by
  have OB := hide OB
  have PI := hide PI
  obtain ⟨s0, s1, s2, s3, s4, s5⟩ := sh
  simp only [Shp.val] at OB ⊢
  obtain ⟨W0, hW0, B0, K⟩ := Shape.box w s0 s1 s2 s3 s4 s5
  have HB := hide B0
  obtain ⟨-, l0, x0, x1, x2, x3, x4, x5⟩ := K.out W0 (Below.refl _ _)
  clear B0
  go_enter Tryz.func58, Tryz.ntmps58
  go_wp2_with (first | (go_at_call 71; refine (OB.out _).mono ?_; rintro e w1 ⟨rfl, hb1⟩; have HB1 := hide (HB.out.trans (hb1.mono HB.out.size)); clear hb1) | (go_at_call 72; refine (PI.out _).mono ?_; rintro e wq ⟨rfl, hwq⟩; obtain rfl := hwq.symm))
  go_ret
  exact ⟨rfl, HB1.out⟩
theorem slotAt_any {sh : Shp} (h : Shape.R5 sh.a sh.b sh.c sh.d sh.e) (i j : Int) (w : World) : Calls Tryz.prog 58 #[sh.val, .int .i64 i, .int .i64 j] w fun e w' => e = .returned (.int .i64 (slotAt sh i j)) ∧ Below w.heap.size w w' := by
  by_cases ht : slotIn sh i j
  · exact slotAt_of (fun w => slot_yes h ht w) (fun w => placeIf_ok _ w) w
  · rw [show slotAt sh i j = -1 from by simp [slotAt, ht]]
    exact slotAt_of (fun w => slot_no h ht w) (fun w => placeIf_no 0 2 (by decide) w) w
theorem linkAt_of {sh : Shp} {i p v e : Int} (OB : ∀ w : World, Calls Tryz.prog 7 #[sh.val, .int .i64 i] w fun e' w' => e' = .returned (.tuple #[.int .i64 v, .int .i64 e]) ∧ Below w.heap.size w w')
    (hv : wrap64 (v + 1) = v + 1) (PI : ∀ w : World, Calls Tryz.prog 72 #[.int .i64 (v + 1), .int .i64 e] w fun e w' => e = .returned (.int .i64 p) ∧ w' = w) (w : World) : Calls Tryz.prog 88 #[sh.val, .int .i64 i] w fun e w' => e = .returned (.int .i64 p) ∧ Below w.heap.size w w' := by
  have OB := hide OB
  have PI := hide PI
  obtain ⟨s0, s1, s2, s3, s4, s5⟩ := sh
  simp only [Shp.val] at OB ⊢
  obtain ⟨W0, hW0, B0, K⟩ := Shape.box w s0 s1 s2 s3 s4 s5
  have HB := hide B0
  obtain ⟨-, l0, x0, x1, x2, x3, x4, x5⟩ := K.out W0 (Below.refl _ _)
  clear B0
  go_enter Tryz.func88, Tryz.ntmps88
  go_wp2_with (first | (go_at_call 7; refine (OB.out _).mono ?_; rintro e w1 ⟨rfl, hb1⟩; have HB1 := hide (HB.out.trans (hb1.mono HB.out.size)); clear hb1) | (go_at_call 72; refine (PI.out _).mono ?_; rintro e wq ⟨rfl, hwq⟩; obtain rfl := hwq.symm))
  go_ret
  exact ⟨rfl, HB1.out⟩
theorem linkAt_any {sh : Shp} (h : Shape.R5 sh.a sh.b sh.c sh.d sh.e) (i : Int) (w : World) : Calls Tryz.prog 88 #[sh.val, .int .i64 i] w fun e w' => e = .returned (.int .i64 (linkAt sh i)) ∧ Below w.heap.size w w' := by
  by_cases ht : there sh i
  · obtain ⟨hb1, hb2, hb3⟩ := head_bd h ht
    rw [hb3]
    exact linkAt_of (fun w => object_yes h ht w) (by unfold wrap64; omega) (fun w => placeIf_ok _ w) w
  · rw [show linkAt sh i = -1 from by simp [linkAt, ht]]
    exact linkAt_of (fun w => object_no h ht w) (by unfold wrap64; omega) (fun w => placeIf_no _ 2 (by decide) w) w
def nextAt (sh : Shp) (i : Int) : Int := if there sh i then headAt sh i + 2 else -1
theorem nextAt_of {sh : Shp} {i p v e : Int} (OB : ∀ w : World, Calls Tryz.prog 7 #[sh.val, .int .i64 i] w fun e' w' => e' = .returned (.tuple #[.int .i64 v, .int .i64 e]) ∧ Below w.heap.size w w')
    (hv : wrap64 (v + 2) = v + 2) (PI : ∀ w : World, Calls Tryz.prog 72 #[.int .i64 (v + 2), .int .i64 e] w fun e w' => e = .returned (.int .i64 p) ∧ w' = w) (w : World) : Calls Tryz.prog 87 #[sh.val, .int .i64 i] w fun e w' => e = .returned (.int .i64 p) ∧ Below w.heap.size w w' := by
  have OB := hide OB
  have PI := hide PI
  obtain ⟨s0, s1, s2, s3, s4, s5⟩ := sh
  simp only [Shp.val] at OB ⊢
  obtain ⟨W0, hW0, B0, K⟩ := Shape.box w s0 s1 s2 s3 s4 s5
  have HB := hide B0
  obtain ⟨-, l0, x0, x1, x2, x3, x4, x5⟩ := K.out W0 (Below.refl _ _)
  clear B0
  go_enter Tryz.func87, Tryz.ntmps87
  go_wp2_with (first | (go_at_call 7; refine (OB.out _).mono ?_; rintro e w1 ⟨rfl, hb1⟩; have HB1 := hide (HB.out.trans (hb1.mono HB.out.size)); clear hb1) | (go_at_call 72; refine (PI.out _).mono ?_; rintro e wq ⟨rfl, hwq⟩; obtain rfl := hwq.symm))
  go_ret
  exact ⟨rfl, HB1.out⟩
theorem nextAt_any {sh : Shp} (h : Shape.R5 sh.a sh.b sh.c sh.d sh.e) (i : Int) (w : World) : Calls Tryz.prog 87 #[sh.val, .int .i64 i] w fun e w' => e = .returned (.int .i64 (nextAt sh i)) ∧ Below w.heap.size w w' := by
  by_cases ht : there sh i
  · obtain ⟨hb1, hb2, hb3⟩ := head_bd h ht
    rw [show nextAt sh i = headAt sh i + 2 from by simp [nextAt, ht]]
    exact nextAt_of (fun w => object_yes h ht w) (by unfold wrap64; omega) (fun w => placeIf_ok _ w) w
  · rw [show nextAt sh i = -1 from by simp [nextAt, ht]]
    exact nextAt_of (fun w => object_no h ht w) (by unfold wrap64; omega) (fun w => placeIf_no _ 2 (by decide) w) w
def behAt (sh : Shp) (lst i : Int) : Int := if lst = 3 then nextAt sh i else linkAt sh i
theorem behindAt_any {sh : Shp} (h : Shape.R5 sh.a sh.b sh.c sh.d sh.e) (lst i : Int) (w : World) : Calls Tryz.prog 76 #[sh.val, .int .i64 lst, .int .i64 i] w fun e w' => e = .returned (.int .i64 (behAt sh lst i)) ∧ Below w.heap.size w w' := by
  have NX := hide (fun w1 : World => nextAt_any h i w1)
  have LK := hide (fun w1 : World => linkAt_any h i w1)
  clear h
  by_cases hl : lst = 3
  · subst hl
    rw [show behAt sh 3 i = nextAt sh i from by simp [behAt]]
    generalize nextAt sh i = v at NX
    clear LK
    obtain ⟨s0, s1, s2, s3, s4, s5⟩ := sh
    simp only [Shp.val] at NX ⊢
    obtain ⟨W0, hW0, B0, K⟩ := Shape.box w s0 s1 s2 s3 s4 s5
    have HB := hide B0
    obtain ⟨-, l0, x0, x1, x2, x3, x4, x5⟩ := K.out W0 (Below.refl _ _)
    clear B0
    go_enter Tryz.func76, Tryz.ntmps76
    go_wp2_with (go_at_call 87; refine (NX.out _).mono ?_; rintro e w1 ⟨rfl, hb1⟩; have HB1 := hide (HB.out.trans (hb1.mono HB.out.size)); clear hb1)
    go_ret
    exact ⟨rfl, HB1.out⟩
  · rw [show behAt sh lst i = linkAt sh i from by simp [behAt, hl]]
    generalize linkAt sh i = v at LK
    clear NX
    have hl' : (lst == 3) = false := by simp [hl]
    obtain ⟨s0, s1, s2, s3, s4, s5⟩ := sh
    simp only [Shp.val] at LK ⊢
    obtain ⟨W0, hW0, B0, K⟩ := Shape.box w s0 s1 s2 s3 s4 s5
    have HB := hide B0
    obtain ⟨-, l0, x0, x1, x2, x3, x4, x5⟩ := K.out W0 (Below.refl _ _)
    clear B0
    go_enter Tryz.func76, Tryz.ntmps76
    go_wp2_with (go_at_call 88; refine (LK.out _).mono ?_; rintro e w1 ⟨rfl, hb1⟩; have HB1 := hide (HB.out.trans (hb1.mono HB.out.size)); clear hb1)
    go_ret
    exact ⟨rfl, HB1.out⟩
theorem isNumber_any (sh : Shp) (i : Int) (w : World) : Calls Tryz.prog 26 #[sh.val, .int .i64 i] w fun e w' => e = .returned (.bool (decide (there sh i))) ∧ Below w.heap.size w w' := by
  obtain ⟨s0, s1, s2, s3, s4, s5⟩ := sh
  simp only [Shp.val]
  obtain ⟨W0, hW0, B0, K⟩ := Shape.box w s0 s1 s2 s3 s4 s5
  have HB := hide B0
  obtain ⟨-, l0, x0, x1, x2, x3, x4, x5⟩ := K.out W0 (Below.refl _ _)
  clear B0
  by_cases h1 : (1 : Int) ≤ i
  · have g1 : decide (there ⟨s0, s1, s2, s3, s4, s5⟩ i) = decide (i ≤ s0) := by simp [there, h1]
    rw [g1]
    have g2 : decide (i ≥ 1) = true := by simpa using h1
    clear g1
    go_enter Tryz.func26, Tryz.ntmps26
    go_wp2_with fail
    go_ret
    exact ⟨rfl, HB.out⟩
  · have g1 : decide (there ⟨s0, s1, s2, s3, s4, s5⟩ i) = false := by simp [there, h1]
    rw [g1]
    have g2 : decide (i ≥ 1) = false := by simpa using h1
    clear g1
    go_enter Tryz.func26, Tryz.ntmps26
    go_wp2_with fail
    go_ret
    exact ⟨rfl, HB.out⟩
end Hp
end
end Go.Proofs.YtidihnnmdmlgfaaGreat
