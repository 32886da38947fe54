/-
  Shape: what a word is called: nameOf, Name.
-/
import Derived.Test.YtfnfoebmpggmdaaDoorShapeF
import Derived.Test.YtfnfoebmpggmdaaDoorShapeG
namespace Go.Proofs.YtfnfoebmpggmdaaDoor
open Go.RowKit
set_option linter.unusedVariables false
set_option linter.unusedSimpArgs false
set_option linter.unnecessarySimpa false
set_option maxRecDepth 20000
namespace Shape

/-- The names of the head's words lie in the package's own table. -/
def Tab (w : World) : Prop := 0 < w.heap.size ∧ ∀ i, i < 8 → w.cell? ⟨0, i, none⟩ = some (.string ⟨(heads.getD i []).toArray⟩)
theorem Tab.below {w w' : World} {B : Nat} (h : Tab w) (hb : Below B w w') (hB : 0 < B) : Tab w' := ⟨Nat.lt_of_lt_of_le h.1 hb.size, fun i hi => (hb.cell (p := ⟨0, i, none⟩) hB).trans (h.2 i hi)⟩

theorem wrapD {a d : Nat} {B : Int} (h : (a : Int) - B = (d : Int)) (hd : d ≤ 600) : IntKind.i64.wrap ((a : Int) - B) = (d : Int) := by rw [h]; exact wI (by omega) (by omega)

set_option maxHeartbeats 4000000 in
theorem nameOf_ok {o s h r k : Nat} {s5 : Int} {a : Nat} (H : (⟨o, s, h, r, k⟩ : Sh).Ok) (ha : a < size ⟨o, s, h, r, k⟩) {w : World} (TB : Tab w) : Calls Tryd.prog 35 #[.agg #[.int .i64 (o : Int), .int .i64 (s : Int), .int .i64 (h : Int), .int .i64 (r : Int), .int .i64 (k : Int), .int .i64 s5], .int .i64 (a : Int)] w fun e w' => e = .returned (.string ⟨(nm ⟨o, s, h, r, k⟩ a).toArray⟩) ∧ Below w.heap.size w w' := by
  obtain ⟨b1, b2, b3, b4, b5, b6, b7, b8, b9, b10⟩ := bnds H
  have HOK := hide H
  have HA := hide ha
  have HSZ := hide (sizes H)
  obtain ⟨B1, hB1⟩ : ∃ B1, bR ⟨o, s, h, r, k⟩ = B1 := ⟨_, rfl⟩
  obtain ⟨B2, hB2⟩ : ∃ B2, bK ⟨o, s, h, r, k⟩ = B2 := ⟨_, rfl⟩
  obtain ⟨B3, hB3⟩ : ∃ B3, bO ⟨o, s, h, r, k⟩ = B3 := ⟨_, rfl⟩
  have f1 : 8 + h = B1 := hB1
  have f2 : B1 + h * r = B2 := by rw [← hB1, ← hB2]; rfl
  have f3 : B2 + k = B3 := by rw [← hB2, ← hB3]; rfl
  have AA := hide (fun w1 => ackAt_any (n := 0) (by omega) (by omega) w1)
  have RA := hide (fun w1 => show Calls Tryd.prog 32 #[.agg #[.int .i64 (o : Int), .int .i64 (s : Int), .int .i64 (h : Int), .int .i64 (r : Int), .int .i64 (k : Int), .int .i64 s5], .int .i64 0, .int .i64 0] w1 fun e w' => e = .returned (.int .i64 (B1 : Int)) ∧ Below w1.heap.size w1 w' from by
    have := rootAt_any (o := o) (s := s) (h := h) (r := r) (k := k) (s5 := s5) (i := 0) (j := 0) (p := 0) b3 (by omega) (by simp) (by omega) w1
    rw [show (B1 : Int) = 8 + (h : Int) + ((0 : Nat) : Int) + ((0 : Nat) : Int) by omega]; exact this)
  have WA := hide (fun w1 => show Calls Tryd.prog 33 #[.agg #[.int .i64 (o : Int), .int .i64 (s : Int), .int .i64 (h : Int), .int .i64 (r : Int), .int .i64 (k : Int), .int .i64 s5], .int .i64 0] w1 fun e w' => e = .returned (.int .i64 (B2 : Int)) ∧ Below w1.heap.size w1 w' from by
    have := weakAt_any (o := o) (s := s) (h := h) (r := r) (k := k) (s5 := s5) (i := 0) b3 (by omega) rfl b6 w1
    rw [show (B2 : Int) = 8 + (h : Int) + ((h * r : Nat) : Int) + ((0 : Nat) : Int) by omega]; exact this)
  have OA := hide (fun w1 => show Calls Tryd.prog 28 #[.agg #[.int .i64 (o : Int), .int .i64 (s : Int), .int .i64 (h : Int), .int .i64 (r : Int), .int .i64 (k : Int), .int .i64 s5], .int .i64 1] w1 fun e w' => e = .returned (.int .i64 (B3 : Int)) ∧ Below w1.heap.size w1 w' from by
    have := objectAt_any (o := o) (s := s) (h := h) (r := r) (k := k) (s5 := s5) (i := 1) (q := 0) b3 b2 b5 rfl b6 (by omega) (by omega) (by simp) (by omega) w1
    rw [show (B3 : Int) = 8 + (h : Int) + ((h * r : Nat) : Int) + (k : Int) + ((0 : Nat) : Int) by omega]; exact this)
  have OW := hide (fun w1 => objectWords_any (o := o) (s := s) (h := h) (r := r) (k := k) (s5 := s5) b2 w1)
  have HF := hide (And.intro f1 (And.intro f2 f3))
  have HT := hide TB
  have HB6 := hide (And.intro b6 b7)
  have sB : B3 ≤ 8 + 7 + 56 + 16 := by omega
  have a600 : a ≤ 600 := by have := HSZ.out.2.2.2.2; omega
  clear H ha f1 f2 f3 b6 b7 TB
  obtain ⟨W0, hW0, B0, K⟩ := box w (o : Int) (s : Int) (h : Int) (r : Int) (k : Int) s5
  have HB := hide B0
  obtain ⟨-, l0, x0, x1, x2, x3, x4, x5⟩ := K.out W0 (Below.refl _ _)
  clear B0
  go_enter Tryd.func35, Tryd.ntmps35
  go_wp2_with fail
  refine Lt.region (ks := [(0, 10), (1, 11), (2, 12), (3, 13), (4, 14), (5, 15), (6, 16), (7, 5), (8, 6), (9, 7), (10, 8)]) (vals := fun iv => match iv with
      | 0 => .int .i64 8
      | 1 => .agg #[.int .i64 (o : Int), .int .i64 (s : Int), .int .i64 (h : Int), .int .i64 (r : Int), .int .i64 (k : Int), .int .i64 s5]
      | 2 => .int .i64 (B1 : Int)
      | 3 => .agg #[.int .i64 (o : Int), .int .i64 (s : Int), .int .i64 (h : Int), .int .i64 (r : Int), .int .i64 (k : Int), .int .i64 s5]
      | 4 => .int .i64 (B2 : Int)
      | 5 => .agg #[.int .i64 (o : Int), .int .i64 (s : Int), .int .i64 (h : Int), .int .i64 (r : Int), .int .i64 (k : Int), .int .i64 s5]
      | 6 => .int .i64 (B3 : Int)
      | 7 => .int .i64 8
      | 8 => .int .i64 (B1 : Int)
      | 9 => .int .i64 (B2 : Int)
      | 10 => .int .i64 (B3 : Int)
      | _ => undef) (WI := fun w' => Below W0.heap.size W0 w') (by kernel_rfl) ?bk rfl ?dd (⟨rfl, rfl, rfl, Nat.le_refl _, fun _ _ => rfl⟩) ?does ?fin
  case bk =>
    intro iq oq ho
    have hiq : iq < 11 := by have := (Array.getElem?_eq_some_iff.1 ho).1; simpa using this
    match iq, hiq with
    | 0, _ | 1, _ | 2, _ | 3, _ | 4, _ | 5, _ | 6, _ | 7, _ | 8, _ | 9, _ | 10, _ => injection ho with ho; subst ho; simp [Region.binds]
  case dd =>
    intro k hk
    have hk' : k < 74 := by
      simp [Lt.D] at hk
      omega
    simpa using hk'
  case does =>
    intro iq oq ho
    have hiq : iq < 11 := by have := (Array.getElem?_eq_some_iff.1 ho).1; simpa using this
    match iq, hiq with
    | 0, _ => injection ho with ho; subst ho; exact Lt.Does.call rfl (fun Lq aq w' hI hq => Lt.wn0 rfl) (fun Lq aq w' hI hq => Lt.call1 rfl rfl rfl (by simp [go_sem])) (fun w1 hw1 => (AA.out w1).mono (by rintro e w2 ⟨rfl, hw2⟩; obtain rfl := hw2.symm; exact ⟨rfl, hw1⟩))
    | 1, _ => injection ho with ho; subst ho; exact Lt.Does.read rfl (fun Lq aq w' hI hq => Lt.wn0 rfl) (fun Lq aq w' hI hq => Lt.ex_load_row rfl (hI.fix 2 (Lt.notD rfl)) (by obtain ⟨-, -, y0, y1, y2, y3, y4, y5⟩ := K.out w' hI.world; exact rng y0 y1 y2 y3 y4 y5) (by kernel_rfl) (by kernel_rfl))
    | 2, _ => injection ho with ho; subst ho; exact Lt.Does.call rfl (fun Lq aq w' hI hq => Lt.wn0 rfl) (fun Lq aq w' hI hq => Lt.call3 rfl (hI.pure 1 _ _ rfl (hq ⟨1, .data⟩ (by simp) rfl)) rfl rfl rfl (by simp [go_sem])) (fun w1 hw1 => (RA.out w1).mono (by rintro e w2 ⟨rfl, hb⟩; exact ⟨rfl, hw1.trans (hb.mono hw1.size)⟩))
    | 3, _ => injection ho with ho; subst ho; exact Lt.Does.read rfl (fun Lq aq w' hI hq => Lt.wn0 rfl) (fun Lq aq w' hI hq => Lt.ex_load_row rfl (hI.fix 2 (Lt.notD rfl)) (by obtain ⟨-, -, y0, y1, y2, y3, y4, y5⟩ := K.out w' hI.world; exact rng y0 y1 y2 y3 y4 y5) (by kernel_rfl) (by kernel_rfl))
    | 4, _ => injection ho with ho; subst ho; exact Lt.Does.call rfl (fun Lq aq w' hI hq => Lt.wn0 rfl) (fun Lq aq w' hI hq => Lt.call2 rfl (hI.pure 3 _ _ rfl (hq ⟨3, .data⟩ (by simp) rfl)) rfl rfl (by simp [go_sem])) (fun w1 hw1 => (WA.out w1).mono (by rintro e w2 ⟨rfl, hb⟩; exact ⟨rfl, hw1.trans (hb.mono hw1.size)⟩))
    | 5, _ => injection ho with ho; subst ho; exact Lt.Does.read rfl (fun Lq aq w' hI hq => Lt.wn0 rfl) (fun Lq aq w' hI hq => Lt.ex_load_row rfl (hI.fix 2 (Lt.notD rfl)) (by obtain ⟨-, -, y0, y1, y2, y3, y4, y5⟩ := K.out w' hI.world; exact rng y0 y1 y2 y3 y4 y5) (by kernel_rfl) (by kernel_rfl))
    | 6, _ => injection ho with ho; subst ho; exact Lt.Does.call rfl (fun Lq aq w' hI hq => Lt.wn0 rfl) (fun Lq aq w' hI hq => Lt.call2 rfl (hI.pure 5 _ _ rfl (hq ⟨5, .data⟩ (by simp) rfl)) rfl rfl (by simp [go_sem])) (fun w1 hw1 => (OA.out w1).mono (by rintro e w2 ⟨rfl, hb⟩; exact ⟨rfl, hw1.trans (hb.mono hw1.size)⟩))
    | 7, _ => injection ho with ho; subst ho; exact Lt.Does.read rfl (fun Lq aq w' hI hq => Lt.wn0 rfl) (fun Lq aq w' hI hq => Lt.ex_assign rfl (hI.pure 0 _ _ rfl (hq ⟨0, .data⟩ (by simp) rfl)))
    | 8, _ => injection ho with ho; subst ho; exact Lt.Does.read rfl (fun Lq aq w' hI hq => Lt.wn0 rfl) (fun Lq aq w' hI hq => Lt.ex_assign rfl (hI.pure 2 _ _ rfl (hq ⟨2, .data⟩ (by simp) rfl)))
    | 9, _ => injection ho with ho; subst ho; exact Lt.Does.read rfl (fun Lq aq w' hI hq => Lt.wn0 rfl) (fun Lq aq w' hI hq => Lt.ex_assign rfl (hI.pure 4 _ _ rfl (hq ⟨4, .data⟩ (by simp) rfl)))
    | 10, _ => injection ho with ho; subst ho; exact Lt.Does.read rfl (fun Lq aq w' hI hq => Lt.wn0 rfl) (fun Lq aq w' hI hq => Lt.ex_assign rfl (hI.pure 6 _ _ rfl (hq ⟨6, .data⟩ (by simp) rfl)))
  case fin =>
    intro Lq a' w' hI hall
    have hw := hI.world
    obtain rfl : a' = ⟨#[.agg #[.int .i64 (o : Int), .int .i64 (s : Int), .int .i64 (h : Int), .int .i64 (r : Int), .int .i64 (k : Int), .int .i64 s5], .int .i64 (a : Int), .pointer (some ⟨w.heap.size, 0, none⟩), undef, .string ⟨#[]⟩, .int .i64 8, .int .i64 (B1 : Int), .int .i64 (B2 : Int), .int .i64 (B3 : Int), undef, .int .i64 8, .agg #[.int .i64 (o : Int), .int .i64 (s : Int), .int .i64 (h : Int), .int .i64 (r : Int), .int .i64 (k : Int), .int .i64 s5], .int .i64 (B1 : Int), .agg #[.int .i64 (o : Int), .int .i64 (s : Int), .int .i64 (h : Int), .int .i64 (r : Int), .int .i64 (k : Int), .int .i64 s5], .int .i64 (B2 : Int), .agg #[.int .i64 (o : Int), .int .i64 (s : Int), .int .i64 (h : Int), .int .i64 (r : Int), .int .i64 (k : Int), .int .i64 s5], .int .i64 (B3 : Int), undef, undef, undef, undef, undef, undef, undef, undef, undef, undef, undef, undef, undef, undef, undef, undef, undef, undef, undef, undef, undef, undef, undef, undef, undef, undef, undef, undef, undef, undef, undef, undef, undef, undef, undef, undef, undef, undef, undef, undef, undef, undef, undef, undef, undef, undef, undef, undef, undef, undef, undef, undef, undef, undef, undef, undef, undef], []⟩ := Lt.act_eq a' [.agg #[.int .i64 (o : Int), .int .i64 (s : Int), .int .i64 (h : Int), .int .i64 (r : Int), .int .i64 (k : Int), .int .i64 s5], .int .i64 (a : Int), .pointer (some ⟨w.heap.size, 0, none⟩), undef, .string ⟨#[]⟩, .int .i64 8, .int .i64 (B1 : Int), .int .i64 (B2 : Int), .int .i64 (B3 : Int), undef, .int .i64 8, .agg #[.int .i64 (o : Int), .int .i64 (s : Int), .int .i64 (h : Int), .int .i64 (r : Int), .int .i64 (k : Int), .int .i64 s5], .int .i64 (B1 : Int), .agg #[.int .i64 (o : Int), .int .i64 (s : Int), .int .i64 (h : Int), .int .i64 (r : Int), .int .i64 (k : Int), .int .i64 s5], .int .i64 (B2 : Int), .agg #[.int .i64 (o : Int), .int .i64 (s : Int), .int .i64 (h : Int), .int .i64 (r : Int), .int .i64 (k : Int), .int .i64 s5], .int .i64 (B3 : Int), undef, undef, undef, undef, undef, undef, undef, undef, undef, undef, undef, undef, undef, undef, undef, undef, undef, undef, undef, undef, undef, undef, undef, undef, undef, undef, undef, undef, undef, undef, undef, undef, undef, undef, undef, undef, undef, undef, undef, undef, undef, undef, undef, undef, undef, undef, undef, undef, undef, undef, undef, undef, undef, undef, undef, undef, undef] hI.df (by rw [hI.sz]; rfl) (fun k hk => by
      have hk' : k < 74 := hk
      match k, hk' with
      | 0, _ => exact hI.fix 0 (Lt.notD rfl)
      | 1, _ => exact hI.fix 1 (Lt.notD rfl)
      | 2, _ => exact hI.fix 2 (Lt.notD rfl)
      | 3, _ => exact hI.fix 3 (Lt.notD rfl)
      | 4, _ => exact hI.fix 4 (Lt.notD rfl)
      | 5, _ => exact hI.pure 7 5 _ rfl (hall 7 (by decide))
      | 6, _ => exact hI.pure 8 6 _ rfl (hall 8 (by decide))
      | 7, _ => exact hI.pure 9 7 _ rfl (hall 9 (by decide))
      | 8, _ => exact hI.pure 10 8 _ rfl (hall 10 (by decide))
      | 9, _ => exact hI.fix 9 (Lt.notD rfl)
      | 10, _ => exact hI.pure 0 10 _ rfl (hall 0 (by decide))
      | 11, _ => exact hI.pure 1 11 _ rfl (hall 1 (by decide))
      | 12, _ => exact hI.pure 2 12 _ rfl (hall 2 (by decide))
      | 13, _ => exact hI.pure 3 13 _ rfl (hall 3 (by decide))
      | 14, _ => exact hI.pure 4 14 _ rfl (hall 4 (by decide))
      | 15, _ => exact hI.pure 5 15 _ rfl (hall 5 (by decide))
      | 16, _ => exact hI.pure 6 16 _ rfl (hall 6 (by decide))
      | 17, _ => exact hI.fix 17 (Lt.notD rfl)
      | 18, _ => exact hI.fix 18 (Lt.notD rfl)
      | 19, _ => exact hI.fix 19 (Lt.notD rfl)
      | 20, _ => exact hI.fix 20 (Lt.notD rfl)
      | 21, _ => exact hI.fix 21 (Lt.notD rfl)
      | 22, _ => exact hI.fix 22 (Lt.notD rfl)
      | 23, _ => exact hI.fix 23 (Lt.notD rfl)
      | 24, _ => exact hI.fix 24 (Lt.notD rfl)
      | 25, _ => exact hI.fix 25 (Lt.notD rfl)
      | 26, _ => exact hI.fix 26 (Lt.notD rfl)
      | 27, _ => exact hI.fix 27 (Lt.notD rfl)
      | 28, _ => exact hI.fix 28 (Lt.notD rfl)
      | 29, _ => exact hI.fix 29 (Lt.notD rfl)
      | 30, _ => exact hI.fix 30 (Lt.notD rfl)
      | 31, _ => exact hI.fix 31 (Lt.notD rfl)
      | 32, _ => exact hI.fix 32 (Lt.notD rfl)
      | 33, _ => exact hI.fix 33 (Lt.notD rfl)
      | 34, _ => exact hI.fix 34 (Lt.notD rfl)
      | 35, _ => exact hI.fix 35 (Lt.notD rfl)
      | 36, _ => exact hI.fix 36 (Lt.notD rfl)
      | 37, _ => exact hI.fix 37 (Lt.notD rfl)
      | 38, _ => exact hI.fix 38 (Lt.notD rfl)
      | 39, _ => exact hI.fix 39 (Lt.notD rfl)
      | 40, _ => exact hI.fix 40 (Lt.notD rfl)
      | 41, _ => exact hI.fix 41 (Lt.notD rfl)
      | 42, _ => exact hI.fix 42 (Lt.notD rfl)
      | 43, _ => exact hI.fix 43 (Lt.notD rfl)
      | 44, _ => exact hI.fix 44 (Lt.notD rfl)
      | 45, _ => exact hI.fix 45 (Lt.notD rfl)
      | 46, _ => exact hI.fix 46 (Lt.notD rfl)
      | 47, _ => exact hI.fix 47 (Lt.notD rfl)
      | 48, _ => exact hI.fix 48 (Lt.notD rfl)
      | 49, _ => exact hI.fix 49 (Lt.notD rfl)
      | 50, _ => exact hI.fix 50 (Lt.notD rfl)
      | 51, _ => exact hI.fix 51 (Lt.notD rfl)
      | 52, _ => exact hI.fix 52 (Lt.notD rfl)
      | 53, _ => exact hI.fix 53 (Lt.notD rfl)
      | 54, _ => exact hI.fix 54 (Lt.notD rfl)
      | 55, _ => exact hI.fix 55 (Lt.notD rfl)
      | 56, _ => exact hI.fix 56 (Lt.notD rfl)
      | 57, _ => exact hI.fix 57 (Lt.notD rfl)
      | 58, _ => exact hI.fix 58 (Lt.notD rfl)
      | 59, _ => exact hI.fix 59 (Lt.notD rfl)
      | 60, _ => exact hI.fix 60 (Lt.notD rfl)
      | 61, _ => exact hI.fix 61 (Lt.notD rfl)
      | 62, _ => exact hI.fix 62 (Lt.notD rfl)
      | 63, _ => exact hI.fix 63 (Lt.notD rfl)
      | 64, _ => exact hI.fix 64 (Lt.notD rfl)
      | 65, _ => exact hI.fix 65 (Lt.notD rfl)
      | 66, _ => exact hI.fix 66 (Lt.notD rfl)
      | 67, _ => exact hI.fix 67 (Lt.notD rfl)
      | 68, _ => exact hI.fix 68 (Lt.notD rfl)
      | 69, _ => exact hI.fix 69 (Lt.notD rfl)
      | 70, _ => exact hI.fix 70 (Lt.notD rfl)
      | 71, _ => exact hI.fix 71 (Lt.notD rfl)
      | 72, _ => exact hI.fix 72 (Lt.notD rfl)
      | 73, _ => exact hI.fix 73 (Lt.notD rfl)
      | q + 74, hq => exact absurd hq (by omega))
    rename_i K2 hK2
    refine hK2 _ _ ?_
    have HW := hide hw
    obtain ⟨-, m1, z0, z1, z2, z3, z4, z5⟩ := K.out w' hw
    have TW := hide (HT.out.below (K.out w' hw).1 HT.out.1)
    clear hw hI hall l0 x0 x1 x2 x3 x4 x5 hW0
    by_cases h1 : a < 8
    · have h1' : (a : Int) < 8 := by omega
      have tc := TW.out.2 a h1
      have t0 := TW.out.1
      go_wp2_with fail
      go_ret
      refine ⟨?_, (K.out _ HW.out).1⟩
      have e : nm ⟨o, s, h, r, k⟩ a = heads.getD a [] := by unfold nm word; rw [if_pos h1]; simp [render, tail]
      rw [e]; rfl
    · have h1' : ¬ (a : Int) < 8 := by omega
      by_cases h2 : a < B1
      · have h2' : (a : Int) < B1 := by omega
        obtain ⟨d, hd⟩ : ∃ d : Nat, (a : Int) - 8 = (d : Int) := ⟨a - 8, by omega⟩
        have hd2 : d < 100 := by have := HF.out.1; omega
        have NU := hide (fun (w1 : World) (b : Nat) (hb : b < w1.heap.size) (hc : w1.cell? ⟨b, 0, none⟩ = some (.int .i64 (d : Int))) => show Calls Tryd.prog 41 #[.string ⟨#[97, 99, 107]⟩, .slice (some ⟨b, 0, none⟩) 1 1] w1 fun e w' => e = .returned (.string ⟨(render (tAck, [d])).toArray⟩) ∧ w' = w1 from num1 tAck (by decide) d hd2 w1 hb hc)
        have EN := hide (show nm ⟨o, s, h, r, k⟩ a = render (tAck, [d]) from by unfold nm word; rw [if_neg h1, hB1, if_pos h2, show a - 8 = d by omega])
        go_wp2_with (go_at_call 41; refine (NU.out _ _ (by simp) (by simp)).mono ?_; rintro e wq ⟨rfl, hwq⟩; obtain rfl := hwq.symm)
        go_ret
        exact ⟨by rw [EN.out]; rfl, (K.out _ (HW.out.alloc HW.out.size _)).1⟩
      · have h2' : ¬ (a : Int) < B1 := by omega
        by_cases h3 : a < B2
        · have h3' : (a : Int) < B2 := by omega
          obtain ⟨d, hd⟩ : ∃ d : Nat, (a : Int) - B1 = (d : Int) := ⟨a - B1, by omega⟩
          obtain ⟨i, hi⟩ : ∃ i, d / r = i := ⟨_, rfl⟩
          obtain ⟨j, hj⟩ : ∃ j, d % r = j := ⟨_, rfl⟩
          have r0 : ¬ (r : Int) = 0 := by omega
          have ei : (d : Int).tdiv (r : Int) = (i : Int) := by rw [Int.tdiv_eq_ediv_of_nonneg (by omega), ← hi]; simp
          have ej : (d : Int).tmod (r : Int) = (j : Int) := by rw [Int.tmod_eq_emod_of_nonneg (by omega), ← hj]; simp
          have hd2 : d < 100 := by have := HF.out.2.1; have := HB6.out.1; omega
          have hi2 : i < 100 := by rw [← hi]; exact Nat.lt_of_le_of_lt (Nat.div_le_self _ _) hd2
          have hj2 : j < 100 := by rw [← hj]; have := Nat.mod_lt d (show r > 0 by omega); omega
          have NU := hide (fun (w1 : World) (b : Nat) (hb : b < w1.heap.size) (hc : w1.cell? ⟨b, 0, none⟩ = some (.int .i64 (i : Int))) (hc' : w1.cell? ⟨b, 1, none⟩ = some (.int .i64 (j : Int))) => show Calls Tryd.prog 41 #[.string ⟨#[114, 111, 111, 116]⟩, .slice (some ⟨b, 0, none⟩) 2 2] w1 fun e w' => e = .returned (.string ⟨(render (tRoot, [i, j])).toArray⟩) ∧ w' = w1 from num2 tRoot (by decide) i j hi2 hj2 w1 hb hc hc')
          have EN := hide (show nm ⟨o, s, h, r, k⟩ a = render (tRoot, [i, j]) from by unfold nm word; rw [if_neg h1, hB1, if_neg h2, hB2, if_pos h3, show a - B1 = d by omega, hi, hj])
          have wi : IntKind.i64.wrap (i : Int) = (i : Int) := wI (by omega) (by omega)
          have ej2 : (d : Int) % (r : Int) = (j : Int) := by rw [← hj]; simp
          clear hi hj
          go_wp2_with fail
          go_region_held (fun w2 => w2.cell? ⟨w.heap.size, 3, none⟩ = some (.int .i64 (r : Int))) (go_keep) (first | (go_at_call 41; refine (NU.out _ _ (by simp) (by simp [wi]) (by simp [ej2])).mono ?_; rintro e wq ⟨rfl, hwq⟩; obtain rfl := hwq.symm))
          all_goals go_wp2_with fail
          all_goals go_ret
          all_goals exact ⟨by rw [EN.out]; rfl, (K.out _ ((HW.out.alloc HW.out.size _).drew)).1⟩
        · have h3' : ¬ (a : Int) < B2 := by omega
          by_cases h4 : a < B3
          · have h4' : (a : Int) < B3 := by omega
            obtain ⟨d, hd⟩ : ∃ d : Nat, (a : Int) - B2 = (d : Int) := ⟨a - B2, by omega⟩
            have hd2 : d < 100 := by have := HF.out.2.2; omega
            have NU := hide (fun (w1 : World) (b : Nat) (hb : b < w1.heap.size) (hc : w1.cell? ⟨b, 0, none⟩ = some (.int .i64 (d : Int))) => show Calls Tryd.prog 41 #[.string ⟨#[119, 101, 97, 107]⟩, .slice (some ⟨b, 0, none⟩) 1 1] w1 fun e w' => e = .returned (.string ⟨(render (tWeak, [d])).toArray⟩) ∧ w' = w1 from num1 tWeak (by decide) d hd2 w1 hb hc)
            have EN := hide (show nm ⟨o, s, h, r, k⟩ a = render (tWeak, [d]) from by unfold nm word; rw [if_neg h1, hB1, if_neg h2, hB2, if_neg h3, hB3, if_pos h4, show a - B2 = d by omega])
            go_wp2_with (go_at_call 41; refine (NU.out _ _ (by simp) (by simp)).mono ?_; rintro e wq ⟨rfl, hwq⟩; obtain rfl := hwq.symm)
            go_ret
            exact ⟨by rw [EN.out]; rfl, (K.out _ (HW.out.alloc HW.out.size _)).1⟩
          · have h4' : ¬ (a : Int) < B3 := by omega
            obtain ⟨d, hd⟩ : ∃ d : Nat, (a : Int) - B3 = (d : Int) := ⟨a - B3, by omega⟩
            obtain ⟨i, hi⟩ : ∃ i, d / (3 + s) = i := ⟨_, rfl⟩
            obtain ⟨j, hj⟩ : ∃ j, d % (3 + s) = j := ⟨_, rfl⟩
            have r0 : ¬ (3 + (s : Int)) = 0 := by omega
            have ei : (d : Int).tdiv (3 + (s : Int)) = (i : Int) := by rw [Int.tdiv_eq_ediv_of_nonneg (by omega), ← hi, Int.natCast_ediv]; rfl
            have ej : (d : Int).tmod (3 + (s : Int)) = (j : Int) := by rw [Int.tmod_eq_emod_of_nonneg (by omega), ← hj, Int.natCast_emod]; rfl
            have hi2 : i < 64 := by
              rw [← hi]
              have hlt : d < o * (3 + s) := by
                have := HA.out
                unfold size ow at this
                rw [hB3] at this
                simp only at this
                generalize o * (3 + s) = Z at this ⊢
                omega
              have : d / (3 + s) < o := by rw [Nat.div_lt_iff_lt_mul (by omega)]; exact hlt
              omega
            have hj2 : j < 10 := by rw [← hj]; have := Nat.mod_lt d (show 3 + s > 0 by omega); omega
            have NU := hide (fun (w1 : World) => show Calls Tryd.prog 42 #[.int .i64 ((i : Int) + 1), .int .i64 (j : Int)] w1 fun e w' => e = .returned (.string ⟨(render (oword (i + 1) j)).toArray⟩) ∧ Below w1.heap.size w1 w' from by
              have := own_ok (i + 1) j (by omega) (by omega) w1
              simpa using this)
            have EN := hide (show nm ⟨o, s, h, r, k⟩ a = render (oword (i + 1) j) from by unfold nm word; rw [if_neg h1, hB1, if_neg h2, hB2, if_neg h3, hB3, if_neg h4, show a - B3 = d by omega]; show render (oword (d / (3 + s) + 1) (d % (3 + s))) = _; rw [hi, hj])
            clear hi hj
            go_wp2_with (go_at_call 40; refine (OW.out _).mono ?_; rintro e w2 ⟨rfl, hb2⟩; have HW2 := hide (HW.out.trans (hb2.mono HW.out.size)); clear hb2)
            have dB : d ≤ 600 := by omega
            have WF := hide (show IntKind.i64.wrap ((a : Int) - (B3 : Int)) = (d : Int) ∧ IntKind.i64.wrap ((d : Int).tdiv (3 + (s : Int))) = (i : Int) ∧ IntKind.i64.wrap ((i : Int) + 1) = (i : Int) + 1 ∧ (d : Int).tmod (3 + (s : Int)) = (j : Int) from ⟨wrapD hd dB, by rw [ei]; exact wI (by omega) (by omega), wI (by omega) (by omega), ej⟩)
            have CALL := hide (fun (w1 : World) (hw1 : Below W0.heap.size W0 w1) => show Calls Tryd.prog 42 #[.int .i64 ((i : Int) + 1), .int .i64 (j : Int)] w1 fun e w' => e = .returned (.string ⟨(render (oword (i + 1) j)).toArray⟩) ∧ Below W0.heap.size W0 w' from (NU.out w1).mono (by rintro e w2 ⟨rfl, hb⟩; exact ⟨rfl, hw1.trans (hb.mono hw1.size)⟩))
            refine Lt.region (ks := [(0, 62), (1, 63), (2, 64), (3, 65), (4, 66), (5, 67), (6, 68), (7, 69), (8, 70), (9, 71), (10, 72), (11, 73), (12, 4)]) (vals := fun iv => match iv with
                | 0 => .int .i64 (a : Int)
                | 1 => .int .i64 (B3 : Int)
                | 2 => .int .i64 (d : Int)
                | 3 => .int .i64 (3 + (s : Int))
                | 4 => .int .i64 (i : Int)
                | 5 => .int .i64 ((i : Int) + 1)
                | 6 => .int .i64 (a : Int)
                | 7 => .int .i64 (B3 : Int)
                | 8 => .int .i64 (d : Int)
                | 9 => .int .i64 (3 + (s : Int))
                | 10 => .int .i64 (j : Int)
                | 11 => .string ⟨(render (oword (i + 1) j)).toArray⟩
                | 12 => .string ⟨(render (oword (i + 1) j)).toArray⟩
                | _ => undef) (WI := fun w' => Below W0.heap.size W0 w') (by kernel_rfl) ?bk2 rfl ?dd2 (⟨HW2.out.os, HW2.out.tape, HW2.out.output, HW2.out.size, HW2.out.block⟩) ?does2 ?fin2
            case bk2 =>
              intro iq oq ho
              have hiq : iq < 13 := by have := (Array.getElem?_eq_some_iff.1 ho).1; simpa using this
              match iq, hiq with
              | 0, _ | 1, _ | 2, _ | 3, _ | 4, _ | 5, _ | 6, _ | 7, _ | 8, _ | 9, _ | 10, _ | 11, _ | 12, _ => injection ho with ho; subst ho; simp [Region.binds]
            case dd2 =>
              intro k hk
              have hk' : k < 74 := by
                simp [Lt.D] at hk
                omega
              simpa using hk'
            case does2 =>
              intro iq oq ho
              have hiq : iq < 13 := by have := (Array.getElem?_eq_some_iff.1 ho).1; simpa using this
              match iq, hiq with
              | 0, _ => injection ho with ho; subst ho; exact Lt.Does.read rfl (fun Lq aq w' hI hq => Lt.wn0 rfl) (fun Lq aq w' hI hq => Lt.ex_move rfl (hI.fix 1 (Lt.notD rfl)))
              | 1, _ => injection ho with ho; subst ho; exact Lt.Does.read rfl (fun Lq aq w' hI hq => Lt.wn0 rfl) (fun Lq aq w' hI hq => Lt.ex_move rfl (hI.fix 8 (Lt.notD rfl)))
              | 2, _ => injection ho with ho; subst ho; exact Lt.Does.read rfl (fun Lq aq w' hI hq => Lt.wn0 rfl) (fun Lq aq w' hI hq => Lt.ex_subI rfl (hI.pure 0 _ _ rfl (hq ⟨0, .data⟩ (by simp) rfl)) (hI.pure 1 _ _ rfl (hq ⟨1, .data⟩ (by simp) rfl)) WF.out.1)
              | 3, _ => injection ho with ho; subst ho; exact Lt.Does.read rfl (fun Lq aq w' hI hq => Lt.wn0 rfl) (fun Lq aq w' hI hq => Lt.ex_move rfl (hI.fix 9 (Lt.notD rfl)))
              | 4, _ => injection ho with ho; subst ho; exact Lt.Does.read rfl (fun Lq aq w' hI hq => Lt.wn0 rfl) (fun Lq aq w' hI hq => Lt.ex_quoI rfl (hI.pure 2 _ _ rfl (hq ⟨2, .data⟩ (by simp) rfl)) (hI.pure 3 _ _ rfl (hq ⟨3, .data⟩ (by simp) rfl)) r0 WF.out.2.1)
              | 5, _ => injection ho with ho; subst ho; exact Lt.Does.read rfl (fun Lq aq w' hI hq => Lt.wn0 rfl) (fun Lq aq w' hI hq => Lt.ex_addI rfl (hI.pure 4 _ _ rfl (hq ⟨4, .data⟩ (by simp) rfl)) rfl WF.out.2.2.1)
              | 6, _ => injection ho with ho; subst ho; exact Lt.Does.read rfl (fun Lq aq w' hI hq => Lt.wn0 rfl) (fun Lq aq w' hI hq => Lt.ex_move rfl (hI.fix 1 (Lt.notD rfl)))
              | 7, _ => injection ho with ho; subst ho; exact Lt.Does.read rfl (fun Lq aq w' hI hq => Lt.wn0 rfl) (fun Lq aq w' hI hq => Lt.ex_move rfl (hI.fix 8 (Lt.notD rfl)))
              | 8, _ => injection ho with ho; subst ho; exact Lt.Does.read rfl (fun Lq aq w' hI hq => Lt.wn0 rfl) (fun Lq aq w' hI hq => Lt.ex_subI rfl (hI.pure 6 _ _ rfl (hq ⟨6, .data⟩ (by simp) rfl)) (hI.pure 7 _ _ rfl (hq ⟨7, .data⟩ (by simp) rfl)) WF.out.1)
              | 9, _ => injection ho with ho; subst ho; exact Lt.Does.read rfl (fun Lq aq w' hI hq => Lt.wn0 rfl) (fun Lq aq w' hI hq => Lt.ex_move rfl (hI.fix 9 (Lt.notD rfl)))
              | 10, _ => injection ho with ho; subst ho; exact Lt.Does.read rfl (fun Lq aq w' hI hq => Lt.wn0 rfl) (fun Lq aq w' hI hq => Lt.ex_remI rfl (hI.pure 8 _ _ rfl (hq ⟨8, .data⟩ (by simp) rfl)) (hI.pure 9 _ _ rfl (hq ⟨9, .data⟩ (by simp) rfl)) r0 WF.out.2.2.2)
              | 11, _ => injection ho with ho; subst ho; exact Lt.Does.call rfl (fun Lq aq w' hI hq => Lt.wn0 rfl) (fun Lq aq w' hI hq => Lt.call2 rfl (hI.pure 5 _ _ rfl (hq ⟨5, .data⟩ (by simp) rfl)) (hI.pure 10 _ _ rfl (hq ⟨10, .data⟩ (by simp) rfl)) rfl (by simp [go_sem])) (CALL.out)
              | 12, _ => injection ho with ho; subst ho; exact Lt.Does.read rfl (fun Lq aq w' hI hq => Lt.wn0 rfl) (fun Lq aq w' hI hq => Lt.ex_assign rfl (hI.pure 11 _ _ rfl (hq ⟨11, .data⟩ (by simp) rfl)))
            case fin2 =>
              intro Lq a' w' hI hall
              have hw := hI.world
              obtain rfl : a' = ⟨#[.agg #[.int .i64 (o : Int), .int .i64 (s : Int), .int .i64 (h : Int), .int .i64 (r : Int), .int .i64 (k : Int), .int .i64 s5], .int .i64 (a : Int), .pointer (some ⟨w.heap.size, 0, none⟩), undef, .string ⟨(render (oword (i + 1) j)).toArray⟩, .int .i64 8, .int .i64 (B1 : Int), .int .i64 (B2 : Int), .int .i64 (B3 : Int), .int .i64 (3 + (s : Int)), .int .i64 8, .agg #[.int .i64 (o : Int), .int .i64 (s : Int), .int .i64 (h : Int), .int .i64 (r : Int), .int .i64 (k : Int), .int .i64 s5], .int .i64 (B1 : Int), .agg #[.int .i64 (o : Int), .int .i64 (s : Int), .int .i64 (h : Int), .int .i64 (r : Int), .int .i64 (k : Int), .int .i64 s5], .int .i64 (B2 : Int), .agg #[.int .i64 (o : Int), .int .i64 (s : Int), .int .i64 (h : Int), .int .i64 (r : Int), .int .i64 (k : Int), .int .i64 s5], .int .i64 (B3 : Int), .bool false, .int .i64 (a : Int), .int .i64 8, .bool false, undef, undef, undef, .bool false, .int .i64 (a : Int), .int .i64 (B1 : Int), .bool false, undef, undef, undef, undef, undef, .bool false, .int .i64 (a : Int), .int .i64 (B2 : Int), .bool false, undef, undef, undef, undef, undef, undef, undef, undef, undef, undef, undef, undef, undef, undef, .bool false, .int .i64 (a : Int), .int .i64 (B3 : Int), .bool false, undef, undef, undef, undef, undef, .agg #[.int .i64 (o : Int), .int .i64 (s : Int), .int .i64 (h : Int), .int .i64 (r : Int), .int .i64 (k : Int), .int .i64 s5], .int .i64 (3 + (s : Int)), .int .i64 (a : Int), .int .i64 (B3 : Int), .int .i64 (d : Int), .int .i64 (3 + (s : Int)), .int .i64 (i : Int), .int .i64 ((i : Int) + 1), .int .i64 (a : Int), .int .i64 (B3 : Int), .int .i64 (d : Int), .int .i64 (3 + (s : Int)), .int .i64 (j : Int), .string ⟨(render (oword (i + 1) j)).toArray⟩], []⟩ := Lt.act_eq a' [.agg #[.int .i64 (o : Int), .int .i64 (s : Int), .int .i64 (h : Int), .int .i64 (r : Int), .int .i64 (k : Int), .int .i64 s5], .int .i64 (a : Int), .pointer (some ⟨w.heap.size, 0, none⟩), undef, .string ⟨(render (oword (i + 1) j)).toArray⟩, .int .i64 8, .int .i64 (B1 : Int), .int .i64 (B2 : Int), .int .i64 (B3 : Int), .int .i64 (3 + (s : Int)), .int .i64 8, .agg #[.int .i64 (o : Int), .int .i64 (s : Int), .int .i64 (h : Int), .int .i64 (r : Int), .int .i64 (k : Int), .int .i64 s5], .int .i64 (B1 : Int), .agg #[.int .i64 (o : Int), .int .i64 (s : Int), .int .i64 (h : Int), .int .i64 (r : Int), .int .i64 (k : Int), .int .i64 s5], .int .i64 (B2 : Int), .agg #[.int .i64 (o : Int), .int .i64 (s : Int), .int .i64 (h : Int), .int .i64 (r : Int), .int .i64 (k : Int), .int .i64 s5], .int .i64 (B3 : Int), .bool false, .int .i64 (a : Int), .int .i64 8, .bool false, undef, undef, undef, .bool false, .int .i64 (a : Int), .int .i64 (B1 : Int), .bool false, undef, undef, undef, undef, undef, .bool false, .int .i64 (a : Int), .int .i64 (B2 : Int), .bool false, undef, undef, undef, undef, undef, undef, undef, undef, undef, undef, undef, undef, undef, undef, .bool false, .int .i64 (a : Int), .int .i64 (B3 : Int), .bool false, undef, undef, undef, undef, undef, .agg #[.int .i64 (o : Int), .int .i64 (s : Int), .int .i64 (h : Int), .int .i64 (r : Int), .int .i64 (k : Int), .int .i64 s5], .int .i64 (3 + (s : Int)), .int .i64 (a : Int), .int .i64 (B3 : Int), .int .i64 (d : Int), .int .i64 (3 + (s : Int)), .int .i64 (i : Int), .int .i64 ((i : Int) + 1), .int .i64 (a : Int), .int .i64 (B3 : Int), .int .i64 (d : Int), .int .i64 (3 + (s : Int)), .int .i64 (j : Int), .string ⟨(render (oword (i + 1) j)).toArray⟩] hI.df (by rw [hI.sz]; rfl) (fun k hk => by
                have hk' : k < 74 := hk
                match k, hk' with
                | 0, _ => exact hI.fix 0 (Lt.notD rfl)
                | 1, _ => exact hI.fix 1 (Lt.notD rfl)
                | 2, _ => exact hI.fix 2 (Lt.notD rfl)
                | 3, _ => exact hI.fix 3 (Lt.notD rfl)
                | 4, _ => exact hI.pure 12 4 _ rfl (hall 12 (by decide))
                | 5, _ => exact hI.fix 5 (Lt.notD rfl)
                | 6, _ => exact hI.fix 6 (Lt.notD rfl)
                | 7, _ => exact hI.fix 7 (Lt.notD rfl)
                | 8, _ => exact hI.fix 8 (Lt.notD rfl)
                | 9, _ => exact hI.fix 9 (Lt.notD rfl)
                | 10, _ => exact hI.fix 10 (Lt.notD rfl)
                | 11, _ => exact hI.fix 11 (Lt.notD rfl)
                | 12, _ => exact hI.fix 12 (Lt.notD rfl)
                | 13, _ => exact hI.fix 13 (Lt.notD rfl)
                | 14, _ => exact hI.fix 14 (Lt.notD rfl)
                | 15, _ => exact hI.fix 15 (Lt.notD rfl)
                | 16, _ => exact hI.fix 16 (Lt.notD rfl)
                | 17, _ => exact hI.fix 17 (Lt.notD rfl)
                | 18, _ => exact hI.fix 18 (Lt.notD rfl)
                | 19, _ => exact hI.fix 19 (Lt.notD rfl)
                | 20, _ => exact hI.fix 20 (Lt.notD rfl)
                | 21, _ => exact hI.fix 21 (Lt.notD rfl)
                | 22, _ => exact hI.fix 22 (Lt.notD rfl)
                | 23, _ => exact hI.fix 23 (Lt.notD rfl)
                | 24, _ => exact hI.fix 24 (Lt.notD rfl)
                | 25, _ => exact hI.fix 25 (Lt.notD rfl)
                | 26, _ => exact hI.fix 26 (Lt.notD rfl)
                | 27, _ => exact hI.fix 27 (Lt.notD rfl)
                | 28, _ => exact hI.fix 28 (Lt.notD rfl)
                | 29, _ => exact hI.fix 29 (Lt.notD rfl)
                | 30, _ => exact hI.fix 30 (Lt.notD rfl)
                | 31, _ => exact hI.fix 31 (Lt.notD rfl)
                | 32, _ => exact hI.fix 32 (Lt.notD rfl)
                | 33, _ => exact hI.fix 33 (Lt.notD rfl)
                | 34, _ => exact hI.fix 34 (Lt.notD rfl)
                | 35, _ => exact hI.fix 35 (Lt.notD rfl)
                | 36, _ => exact hI.fix 36 (Lt.notD rfl)
                | 37, _ => exact hI.fix 37 (Lt.notD rfl)
                | 38, _ => exact hI.fix 38 (Lt.notD rfl)
                | 39, _ => exact hI.fix 39 (Lt.notD rfl)
                | 40, _ => exact hI.fix 40 (Lt.notD rfl)
                | 41, _ => exact hI.fix 41 (Lt.notD rfl)
                | 42, _ => exact hI.fix 42 (Lt.notD rfl)
                | 43, _ => exact hI.fix 43 (Lt.notD rfl)
                | 44, _ => exact hI.fix 44 (Lt.notD rfl)
                | 45, _ => exact hI.fix 45 (Lt.notD rfl)
                | 46, _ => exact hI.fix 46 (Lt.notD rfl)
                | 47, _ => exact hI.fix 47 (Lt.notD rfl)
                | 48, _ => exact hI.fix 48 (Lt.notD rfl)
                | 49, _ => exact hI.fix 49 (Lt.notD rfl)
                | 50, _ => exact hI.fix 50 (Lt.notD rfl)
                | 51, _ => exact hI.fix 51 (Lt.notD rfl)
                | 52, _ => exact hI.fix 52 (Lt.notD rfl)
                | 53, _ => exact hI.fix 53 (Lt.notD rfl)
                | 54, _ => exact hI.fix 54 (Lt.notD rfl)
                | 55, _ => exact hI.fix 55 (Lt.notD rfl)
                | 56, _ => exact hI.fix 56 (Lt.notD rfl)
                | 57, _ => exact hI.fix 57 (Lt.notD rfl)
                | 58, _ => exact hI.fix 58 (Lt.notD rfl)
                | 59, _ => exact hI.fix 59 (Lt.notD rfl)
                | 60, _ => exact hI.fix 60 (Lt.notD rfl)
                | 61, _ => exact hI.fix 61 (Lt.notD rfl)
                | 62, _ => exact hI.pure 0 62 _ rfl (hall 0 (by decide))
                | 63, _ => exact hI.pure 1 63 _ rfl (hall 1 (by decide))
                | 64, _ => exact hI.pure 2 64 _ rfl (hall 2 (by decide))
                | 65, _ => exact hI.pure 3 65 _ rfl (hall 3 (by decide))
                | 66, _ => exact hI.pure 4 66 _ rfl (hall 4 (by decide))
                | 67, _ => exact hI.pure 5 67 _ rfl (hall 5 (by decide))
                | 68, _ => exact hI.pure 6 68 _ rfl (hall 6 (by decide))
                | 69, _ => exact hI.pure 7 69 _ rfl (hall 7 (by decide))
                | 70, _ => exact hI.pure 8 70 _ rfl (hall 8 (by decide))
                | 71, _ => exact hI.pure 9 71 _ rfl (hall 9 (by decide))
                | 72, _ => exact hI.pure 10 72 _ rfl (hall 10 (by decide))
                | 73, _ => exact hI.pure 11 73 _ rfl (hall 11 (by decide))
                | q + 74, hq => exact absurd hq (by omega))
              rename_i K3 hK3
              refine hK3 _ _ ?_
              go_wp2_with fail
              go_ret
              exact ⟨by rw [EN.out]; rfl, (K.out _ hw).1⟩
end Shape
end Go.Proofs.YtfnfoebmpggmdaaDoor
