/-
  Shape: Name, and the document's Slot.
-/
import Derived.Test.YtfnfoebmpggmdaaDoorShapeH
import Derived.Test.YtfnfoebmpggmdaaDoorShapeR
namespace Go.Proofs.YtfnfoebmpggmdaaDoor
open Go.RowKit
set_option linter.unusedVariables false
set_option linter.unusedSimpArgs false
set_option linter.unnecessarySimpa false
set_option maxRecDepth 20000
namespace Shape

theorem name_bad {s0 s1 s2 s3 s4 s5 : Int} {a : Int} (H : ¬ R5 s0 s1 s2 s3 s4) (w : World) : Calls Tryd.prog 13 #[.agg #[.int .i64 s0, .int .i64 s1, .int .i64 s2, .int .i64 s3, .int .i64 s4, .int .i64 s5], .int .i64 a] w fun e w' => e = .returned (.tuple #[.string ⟨#[]⟩, .int .i64 120]) ∧ Below w.heap.size w w' := by
  have HH := hide H
  clear H
  obtain ⟨W0, hW0, B0, K⟩ := box w s0 s1 s2 s3 s4 s5
  have HB := hide B0
  obtain ⟨-, l0, x0, x1, x2, x3, x4, x5⟩ := K.out W0 (Below.refl _ _)
  clear B0
  go_enter Tryd.func13, Tryd.ntmps13
  go_wp2_with (go_at_call 7; refine (size_bad HH.out _).mono ?_; rintro e w1 ⟨rfl, hb1⟩; have HB1 := hide hb1; clear hb1; obtain ⟨-, m1, y0, y1, y2, y3, y4, y5⟩ := K.out w1 HB1.out)
  go_ret2
  exact ⟨rfl, (K.out _ HB1.out).1⟩
theorem name_place {o s h r k : Nat} {s5 : Int} {a : Int} (H : (⟨o, s, h, r, k⟩ : Sh).Ok) (ha : ¬ (0 ≤ a ∧ a < (size ⟨o, s, h, r, k⟩ : Int))) (w : World) : Calls Tryd.prog 13 #[.agg #[.int .i64 (o : Int), .int .i64 (s : Int), .int .i64 (h : Int), .int .i64 (r : Int), .int .i64 (k : Int), .int .i64 s5], .int .i64 a] w fun e w' => e = .returned (.tuple #[.string ⟨#[]⟩, .int .i64 20]) ∧ Below w.heap.size w w' := by
  have SZ := hide (fun w1 => size_ok (s5 := s5) H w1)
  obtain ⟨z, hz⟩ : ∃ z, size ⟨o, s, h, r, k⟩ = z := ⟨_, rfl⟩
  rw [hz] at SZ ha
  have TS := hide (fun w1 : World => isn_f ha w1)
  clear H ha hz
  obtain ⟨W0, hW0, B0, K⟩ := box w (o : Int) (s : Int) (h : Int) (r : Int) (k : Int) s5
  have HB := hide B0
  obtain ⟨-, l0, x0, x1, x2, x3, x4, x5⟩ := K.out W0 (Below.refl _ _)
  clear B0
  go_enter Tryd.func13, Tryd.ntmps13
  go_wp2_with (first | (go_at_call 7; refine (SZ.out _).mono ?_; rintro e w1 ⟨rfl, hb1⟩; have HB1 := hide hb1; clear hb1; obtain ⟨-, m1, y0, y1, y2, y3, y4, y5⟩ := K.out w1 HB1.out) | (go_at_call 30; refine (TS.out _).mono ?_; rintro e wq ⟨rfl, hwq⟩; obtain rfl := hwq.symm))
  go_ret2
  exact ⟨rfl, (K.out _ HB1.out).1⟩
theorem name_ok {o s h r k : Nat} {s5 : Int} {a : Nat} (H : (⟨o, s, h, r, k⟩ : Sh).Ok) (ha : a < size ⟨o, s, h, r, k⟩) {w : World} (TB : Tab w) : Calls Tryd.prog 13 #[.agg #[.int .i64 (o : Int), .int .i64 (s : Int), .int .i64 (h : Int), .int .i64 (r : Int), .int .i64 (k : Int), .int .i64 s5], .int .i64 (a : Int)] w fun e w' => e = .returned (.tuple #[.string ⟨(nm ⟨o, s, h, r, k⟩ a).toArray⟩, .int .i64 0]) ∧ Below w.heap.size w w' := by
  have SZ := hide (fun w1 => size_ok (s5 := s5) H w1)
  have NO := hide (fun (w1 : World) (T1 : Tab w1) => nameOf_ok (s5 := s5) H ha T1)
  obtain ⟨z, hz⟩ : ∃ z, size ⟨o, s, h, r, k⟩ = z := ⟨_, rfl⟩
  rw [hz] at SZ ha
  have TS := hide (fun w1 : World => isn_t (n := (a : Int)) (c := (z : Int)) (by omega) (by omega) w1)
  have HT := hide TB
  obtain ⟨Y, hY⟩ : ∃ Y : ByteArray, (⟨(nm ⟨o, s, h, r, k⟩ a).toArray⟩ : ByteArray) = Y := ⟨_, rfl⟩
  rw [hY] at NO
  rw [hY]
  clear H ha hz TB hY
  obtain ⟨W0, hW0, B0, K⟩ := box w (o : Int) (s : Int) (h : Int) (r : Int) (k : Int) s5
  have HB := hide B0
  obtain ⟨-, l0, x0, x1, x2, x3, x4, x5⟩ := K.out W0 (Below.refl _ _)
  clear B0
  go_enter Tryd.func13, Tryd.ntmps13
  go_wp2_with (first | (go_at_call 7; refine (SZ.out _).mono ?_; rintro e w1 ⟨rfl, hb1⟩; have HB1 := hide hb1; clear hb1; obtain ⟨-, m1, y0, y1, y2, y3, y4, y5⟩ := K.out w1 HB1.out) | (go_at_call 30; refine (TS.out _).mono ?_; rintro e wq ⟨rfl, hwq⟩; obtain rfl := hwq.symm) | (go_at_call 35; refine (NO.out _ (HT.out.below (K.out _ HB1.out).1 HT.out.1)).mono ?_; rintro e w2 ⟨rfl, hb2⟩; have HB2 := hide (HB1.out.trans (hb2.mono HB1.out.size)); clear hb2))
  go_ret2
  exact ⟨rfl, (K.out _ HB2.out).1⟩

theorem rslot_no {s0 s1 s2 s3 s4 s5 : Int} {a b e : Int} (he : ¬ e = 0) (OB : Hid (∀ w1 : World, Calls Tryd.prog 18 #[.agg #[.int .i64 s0, .int .i64 s1, .int .i64 s2, .int .i64 s3, .int .i64 s4, .int .i64 s5], .int .i64 a] w1 fun e' w' => e' = .returned (.tuple #[.int .i64 0, .int .i64 e]) ∧ Below w1.heap.size w1 w')) (w : World) : Calls Tryd.prog 19 #[.agg #[.int .i64 s0, .int .i64 s1, .int .i64 s2, .int .i64 s3, .int .i64 s4, .int .i64 s5], .int .i64 a, .int .i64 b] w fun e' w' => e' = .returned (.tuple #[.int .i64 0, .int .i64 e]) ∧ Below w.heap.size w w' := by
  have he' : (e == 0) = false := by simpa using he
  obtain ⟨W0, hW0, B0, K⟩ := box w s0 s1 s2 s3 s4 s5
  have HB := hide B0
  obtain ⟨-, l0, x0, x1, x2, x3, x4, x5⟩ := K.out W0 (Below.refl _ _)
  clear B0
  go_enter Tryd.func19, Tryd.ntmps19
  go_wp2_with (go_at_call 18; refine (OB.out _).mono ?_; rintro e w1 ⟨rfl, hb1⟩; have HB1 := hide hb1; clear hb1; obtain ⟨-, m1, y0, y1, y2, y3, y4, y5⟩ := K.out w1 HB1.out)
  go_ret2
  exact ⟨rfl, (K.out _ HB1.out).1⟩

theorem rslot_of {s0 s1 s2 s3 s4 s5 : Int} {a b u v e : Int} {q : Bool} (OB : Hid (∀ w1 : World, Calls Tryd.prog 18 #[.agg #[.int .i64 s0, .int .i64 s1, .int .i64 s2, .int .i64 s3, .int .i64 s4, .int .i64 s5], .int .i64 a] w1 fun e' w' => e' = .returned (.tuple #[.int .i64 u, .int .i64 0]) ∧ Below w1.heap.size w1 w')) (T1 : Hid (∀ w1 : World, Calls Tryd.prog 37 #[.int .i64 b, .int .i64 0, .int .i64 (IntKind.i64.wrap (s1 - 1))] w1 fun e w' => e = .returned (.bool q) ∧ w' = w1)) (PL : Hid (∀ w1 : World, Calls Tryd.prog 36 #[.agg #[.int .i64 s0, .int .i64 s1, .int .i64 s2, .int .i64 s3, .int .i64 s4, .int .i64 s5], .bool q, .int .i64 (IntKind.i64.wrap ((IntKind.i64.wrap (u + 3)) + b))] w1 fun e' w' => e' = .returned (.tuple #[.int .i64 v, .int .i64 e]) ∧ Below w1.heap.size w1 w')) (w : World) : Calls Tryd.prog 19 #[.agg #[.int .i64 s0, .int .i64 s1, .int .i64 s2, .int .i64 s3, .int .i64 s4, .int .i64 s5], .int .i64 a, .int .i64 b] w fun e' w' => e' = .returned (.tuple #[.int .i64 v, .int .i64 e]) ∧ Below w.heap.size w w' := by
  obtain ⟨W0, hW0, B0, K⟩ := box w s0 s1 s2 s3 s4 s5
  have HB := hide B0
  obtain ⟨-, l0, x0, x1, x2, x3, x4, x5⟩ := K.out W0 (Below.refl _ _)
  clear B0
  go_enter Tryd.func19, Tryd.ntmps19
  go_wp2_with (go_at_call 18; refine (OB.out _).mono ?_; rintro e w1 ⟨rfl, hb1⟩; have HB1 := hide hb1; clear hb1; obtain ⟨-, m1, y0, y1, y2, y3, y4, y5⟩ := K.out w1 HB1.out)
  refine Lt.region (ks := [(0, 19), (1, 20), (2, 21), (3, 22), (4, 23), (5, 24), (6, 25), (7, 26), (8, 27), (9, 28), (10, 29), (11, 30), (12, 31), (13, 6), (14, 7)]) (vals := fun iv => match iv with
      | 0 => .agg #[.int .i64 s0, .int .i64 s1, .int .i64 s2, .int .i64 s3, .int .i64 s4, .int .i64 s5]
      | 1 => .int .i64 b
      | 2 => .pointer (some ⟨w.heap.size, 1, none⟩)
      | 3 => .int .i64 s1
      | 4 => .int .i64 (IntKind.i64.wrap (s1 - 1))
      | 5 => .bool q
      | 6 => .int .i64 u
      | 7 => .int .i64 (IntKind.i64.wrap (u + 3))
      | 8 => .int .i64 b
      | 9 => .int .i64 (IntKind.i64.wrap ((IntKind.i64.wrap (u + 3)) + b))
      | 10 => .tuple #[.int .i64 v, .int .i64 e]
      | 11 => .int .i64 v
      | 12 => .int .i64 e
      | 13 => .int .i64 v
      | 14 => .int .i64 e
      | _ => undef) (WI := fun w' => Below W0.heap.size W0 w') (by kernel_rfl) ?bk rfl ?dd (⟨HB1.out.os, HB1.out.tape, HB1.out.output, HB1.out.size, HB1.out.block⟩) ?does ?fin
  case bk =>
    intro iq oq ho
    have hiq : iq < 15 := by have := (Array.getElem?_eq_some_iff.1 ho).1; simpa using this
    match iq, hiq with
    | 0, _ | 1, _ | 2, _ | 3, _ | 4, _ | 5, _ | 6, _ | 7, _ | 8, _ | 9, _ | 10, _ | 11, _ | 12, _ | 13, _ | 14, _ => injection ho with ho; subst ho; simp [Region.binds]
  case dd =>
    intro k hk
    have hk' : k < 32 := by
      simp [Lt.D] at hk
      omega
    simpa using hk'
  case does =>
    intro iq oq ho
    have hiq : iq < 15 := by have := (Array.getElem?_eq_some_iff.1 ho).1; simpa using this
    match iq, hiq with
    | 0, _ => injection ho with ho; subst ho; exact Lt.Does.read rfl (fun Lq aq w' hI hq => Lt.wn0 rfl) (fun Lq aq w' hI hq => Lt.ex_load_row rfl (hI.fix 3 (Lt.notD rfl)) (by obtain ⟨-, -, y0, y1, y2, y3, y4, y5⟩ := K.out w' hI.world; exact rng y0 y1 y2 y3 y4 y5) (by kernel_rfl) (by kernel_rfl))
    | 1, _ => injection ho with ho; subst ho; exact Lt.Does.read rfl (fun Lq aq w' hI hq => Lt.wn0 rfl) (fun Lq aq w' hI hq => Lt.ex_move rfl (hI.fix 2 (Lt.notD rfl)))
    | 2, _ => injection ho with ho; subst ho; exact Lt.Does.read rfl (fun Lq aq w' hI hq => Lt.wn0 rfl) (fun Lq aq w' hI hq => Lt.ex_field rfl (hI.fix 3 (Lt.notD rfl)) (by simp [go_sem]))
    | 3, _ => injection ho with ho; subst ho; exact Lt.Does.read rfl (fun Lq aq w' hI hq => Lt.wn0 rfl) (fun Lq aq w' hI hq => Lt.ex_load rfl (hI.pure 2 _ _ rfl (hq ⟨2, .data⟩ (by simp) rfl)) (by simp [go_sem]) (by obtain ⟨-, -, y0, y1, y2, y3, y4, y5⟩ := K.out w' hI.world; exact y1))
    | 4, _ => injection ho with ho; subst ho; exact Lt.Does.read rfl (fun Lq aq w' hI hq => Lt.wn0 rfl) (fun Lq aq w' hI hq => Lt.ex_subI rfl (hI.pure 3 _ _ rfl (hq ⟨3, .data⟩ (by simp) rfl)) rfl rfl)
    | 5, _ => injection ho with ho; subst ho; exact Lt.Does.call rfl (fun Lq aq w' hI hq => Lt.wn0 rfl) (fun Lq aq w' hI hq => Lt.call3 rfl (hI.pure 1 _ _ rfl (hq ⟨1, .data⟩ (by simp) rfl)) rfl (hI.pure 4 _ _ rfl (hq ⟨4, .data⟩ (by simp) rfl)) rfl (by simp [go_sem])) (fun w1 hw1 => (T1.out w1).mono (by rintro e w2 ⟨rfl, hw2⟩; obtain rfl := hw2.symm; exact ⟨rfl, hw1⟩))
    | 6, _ => injection ho with ho; subst ho; exact Lt.Does.read rfl (fun Lq aq w' hI hq => Lt.wn0 rfl) (fun Lq aq w' hI hq => Lt.ex_move rfl (hI.fix 8 (Lt.notD rfl)))
    | 7, _ => injection ho with ho; subst ho; exact Lt.Does.read rfl (fun Lq aq w' hI hq => Lt.wn0 rfl) (fun Lq aq w' hI hq => Lt.ex_addI rfl (hI.pure 6 _ _ rfl (hq ⟨6, .data⟩ (by simp) rfl)) rfl rfl)
    | 8, _ => injection ho with ho; subst ho; exact Lt.Does.read rfl (fun Lq aq w' hI hq => Lt.wn0 rfl) (fun Lq aq w' hI hq => Lt.ex_move rfl (hI.fix 2 (Lt.notD rfl)))
    | 9, _ => injection ho with ho; subst ho; exact Lt.Does.read rfl (fun Lq aq w' hI hq => Lt.wn0 rfl) (fun Lq aq w' hI hq => Lt.ex_addI rfl (hI.pure 7 _ _ rfl (hq ⟨7, .data⟩ (by simp) rfl)) (hI.pure 8 _ _ rfl (hq ⟨8, .data⟩ (by simp) rfl)) rfl)
    | 10, _ => injection ho with ho; subst ho; exact Lt.Does.call rfl (fun Lq aq w' hI hq => Lt.wn0 rfl) (fun Lq aq w' hI hq => Lt.call3 rfl (hI.pure 0 _ _ rfl (hq ⟨0, .data⟩ (by simp) rfl)) (hI.pure 5 _ _ rfl (hq ⟨5, .data⟩ (by simp) rfl)) (hI.pure 9 _ _ rfl (hq ⟨9, .data⟩ (by simp) rfl)) rfl (by simp [go_sem])) (fun w1 hw1 => (PL.out w1).mono (by rintro e w2 ⟨rfl, hb⟩; exact ⟨rfl, hw1.trans (hb.mono hw1.size)⟩))
    | 11, _ => injection ho with ho; subst ho; exact Lt.Does.read rfl (fun Lq aq w' hI hq => Lt.wn0 rfl) (fun Lq aq w' hI hq => Lt.ex_extract rfl (hI.pure 10 _ _ rfl (hq ⟨10, .data⟩ (by simp) rfl)) rfl)
    | 12, _ => injection ho with ho; subst ho; exact Lt.Does.read rfl (fun Lq aq w' hI hq => Lt.wn0 rfl) (fun Lq aq w' hI hq => Lt.ex_extract rfl (hI.pure 10 _ _ rfl (hq ⟨10, .data⟩ (by simp) rfl)) rfl)
    | 13, _ => injection ho with ho; subst ho; exact Lt.Does.read rfl (fun Lq aq w' hI hq => Lt.wn0 rfl) (fun Lq aq w' hI hq => Lt.ex_assign rfl (hI.pure 11 _ _ rfl (hq ⟨11, .data⟩ (by simp) rfl)))
    | 14, _ => injection ho with ho; subst ho; exact Lt.Does.read rfl (fun Lq aq w' hI hq => Lt.wn0 rfl) (fun Lq aq w' hI hq => Lt.ex_assign rfl (hI.pure 12 _ _ rfl (hq ⟨12, .data⟩ (by simp) rfl)))
  case fin =>
    intro Lq a' w' hI hall
    have hw := hI.world
    obtain rfl : a' = ⟨#[.agg #[.int .i64 s0, .int .i64 s1, .int .i64 s2, .int .i64 s3, .int .i64 s4, .int .i64 s5], .int .i64 a, .int .i64 b, .pointer (some ⟨w.heap.size, 0, none⟩), undef, undef, .int .i64 v, .int .i64 e, .int .i64 u, .int .i64 0, .tuple #[.int .i64 u, .int .i64 0], .agg #[.int .i64 s0, .int .i64 s1, .int .i64 s2, .int .i64 s3, .int .i64 s4, .int .i64 s5], .int .i64 a, .tuple #[.int .i64 u, .int .i64 0], .int .i64 u, .int .i64 0, .int .i64 0, .bool false, undef, .agg #[.int .i64 s0, .int .i64 s1, .int .i64 s2, .int .i64 s3, .int .i64 s4, .int .i64 s5], .int .i64 b, .pointer (some ⟨w.heap.size, 1, none⟩), .int .i64 s1, .int .i64 (IntKind.i64.wrap (s1 - 1)), .bool q, .int .i64 u, .int .i64 (IntKind.i64.wrap (u + 3)), .int .i64 b, .int .i64 (IntKind.i64.wrap ((IntKind.i64.wrap (u + 3)) + b)), .tuple #[.int .i64 v, .int .i64 e], .int .i64 v, .int .i64 e], []⟩ := Lt.act_eq a' [.agg #[.int .i64 s0, .int .i64 s1, .int .i64 s2, .int .i64 s3, .int .i64 s4, .int .i64 s5], .int .i64 a, .int .i64 b, .pointer (some ⟨w.heap.size, 0, none⟩), undef, undef, .int .i64 v, .int .i64 e, .int .i64 u, .int .i64 0, .tuple #[.int .i64 u, .int .i64 0], .agg #[.int .i64 s0, .int .i64 s1, .int .i64 s2, .int .i64 s3, .int .i64 s4, .int .i64 s5], .int .i64 a, .tuple #[.int .i64 u, .int .i64 0], .int .i64 u, .int .i64 0, .int .i64 0, .bool false, undef, .agg #[.int .i64 s0, .int .i64 s1, .int .i64 s2, .int .i64 s3, .int .i64 s4, .int .i64 s5], .int .i64 b, .pointer (some ⟨w.heap.size, 1, none⟩), .int .i64 s1, .int .i64 (IntKind.i64.wrap (s1 - 1)), .bool q, .int .i64 u, .int .i64 (IntKind.i64.wrap (u + 3)), .int .i64 b, .int .i64 (IntKind.i64.wrap ((IntKind.i64.wrap (u + 3)) + b)), .tuple #[.int .i64 v, .int .i64 e], .int .i64 v, .int .i64 e] hI.df (by rw [hI.sz]; rfl) (fun k hk => by
      have hk' : k < 32 := hk
      match k, hk' with
      | 0, _ => exact hI.fix 0 (Lt.notD rfl)
      | 1, _ => exact hI.fix 1 (Lt.notD rfl)
      | 2, _ => exact hI.fix 2 (Lt.notD rfl)
      | 3, _ => exact hI.fix 3 (Lt.notD rfl)
      | 4, _ => exact hI.fix 4 (Lt.notD rfl)
      | 5, _ => exact hI.fix 5 (Lt.notD rfl)
      | 6, _ => exact hI.pure 13 6 _ rfl (hall 13 (by decide))
      | 7, _ => exact hI.pure 14 7 _ rfl (hall 14 (by decide))
      | 8, _ => exact hI.fix 8 (Lt.notD rfl)
      | 9, _ => exact hI.fix 9 (Lt.notD rfl)
      | 10, _ => exact hI.fix 10 (Lt.notD rfl)
      | 11, _ => exact hI.fix 11 (Lt.notD rfl)
      | 12, _ => exact hI.fix 12 (Lt.notD rfl)
      | 13, _ => exact hI.fix 13 (Lt.notD rfl)
      | 14, _ => exact hI.fix 14 (Lt.notD rfl)
      | 15, _ => exact hI.fix 15 (Lt.notD rfl)
      | 16, _ => exact hI.fix 16 (Lt.notD rfl)
      | 17, _ => exact hI.fix 17 (Lt.notD rfl)
      | 18, _ => exact hI.fix 18 (Lt.notD rfl)
      | 19, _ => exact hI.pure 0 19 _ rfl (hall 0 (by decide))
      | 20, _ => exact hI.pure 1 20 _ rfl (hall 1 (by decide))
      | 21, _ => exact hI.pure 2 21 _ rfl (hall 2 (by decide))
      | 22, _ => exact hI.pure 3 22 _ rfl (hall 3 (by decide))
      | 23, _ => exact hI.pure 4 23 _ rfl (hall 4 (by decide))
      | 24, _ => exact hI.pure 5 24 _ rfl (hall 5 (by decide))
      | 25, _ => exact hI.pure 6 25 _ rfl (hall 6 (by decide))
      | 26, _ => exact hI.pure 7 26 _ rfl (hall 7 (by decide))
      | 27, _ => exact hI.pure 8 27 _ rfl (hall 8 (by decide))
      | 28, _ => exact hI.pure 9 28 _ rfl (hall 9 (by decide))
      | 29, _ => exact hI.pure 10 29 _ rfl (hall 10 (by decide))
      | 30, _ => exact hI.pure 11 30 _ rfl (hall 11 (by decide))
      | 31, _ => exact hI.pure 12 31 _ rfl (hall 12 (by decide))
      | q + 32, hq => exact absurd hq (by omega))
    rename_i K2 hK2
    refine hK2 _ _ ?_
    go_wp2_with fail
    go_ret2
    exact ⟨rfl, (K.out _ hw).1⟩
end Shape
end Go.Proofs.YtfnfoebmpggmdaaDoor
