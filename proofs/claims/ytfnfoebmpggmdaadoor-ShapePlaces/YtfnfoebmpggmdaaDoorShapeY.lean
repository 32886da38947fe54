/-
  Shape: the package and the document tell the same places and names.
-/
import Derived.Test.YtfnfoebmpggmdaaDoorShapeK
import Derived.Test.YtfnfoebmpggmdaaDoorShapeL
import Derived.Test.YtfnfoebmpggmdaaDoorShapeS
namespace Go.Proofs.YtfnfoebmpggmdaaDoor
open Go.RowKit
set_option linter.unusedVariables false
set_option linter.unusedSimpArgs false
set_option linter.unnecessarySimpa false
set_option maxRecDepth 20000
namespace Shape
/-- A row's first cells are these. -/
def Pre (F : Nat → Value) (xs : List Value) : Prop := ∀ i u, xs[i]? = some u → F i = u

theorem row_of_owns {w : World} {n size base : Nat} {e : TypeId} {v : Value} {xs : List Value} (h : w.ownsRow base e size v n xs) (hn : 0 < n) :
    ∃ g cap F, v = .slice (some ⟨g, 0, none⟩) n cap ∧ base ≤ g ∧ w.rowIs g e (cap * size) F ∧ Pre F xs ∧ n ≤ cap ∧ cap ≤ maxLen := by
  obtain ⟨hl, h | ⟨g, cap, cur, rfl, hb, hg, hc, hm, hs, ht⟩⟩ := h
  · omega
  · refine ⟨g, cap, fun i => cur[i]?.getD default, rfl, hb, ⟨cur, hg, hs, fun i hi => ?_⟩, fun i u hu => ?_, hc, hm⟩
    · have : i < cur.size := by omega
      simp [this]
    · rw [← ht, List.getElem?_take] at hu
      split at hu
      · simp at hu
        simp [hu]
      · cases hu

/-- 'append' of one element of several cells: as one step of a region that draws, or of one that does not. -/

theorem own_cell {w : World} {base n a : Nat} {v : Value} {xs : List Value} {e : TypeId} {u : Value} (h : w.ownsRow base e 1 v n xs) (hx : xs[a]? = some u) (ha : a < n) : ∃ g cap, v = .slice (some ⟨g, 0, none⟩) n cap ∧ g < w.heap.size ∧ w.cell? ⟨g, a, none⟩ = some u := by
  obtain ⟨g, cap, F, e1, hb, R, hp, hc, _⟩ := row_of_owns h (by omega)
  refine ⟨g, cap, e1, R.lt, ?_⟩
  rw [R.cell (i := a) (by omega), hp a u hx]

theorem rname_bad {s0 s1 s2 s3 s4 s5 : Int} {a : Int} (H : ¬ R5 s0 s1 s2 s3 s4) (w : World) : Calls Tryd.prog 20 #[.agg #[.int .i64 s0, .int .i64 s1, .int .i64 s2, .int .i64 s3, .int .i64 s4, .int .i64 s5], .int .i64 a] w fun e w' => e = .returned (.tuple #[.string ⟨#[]⟩, .int .i64 120]) ∧ Below w.heap.size w w' := by
  have HH := hide H
  clear H
  obtain ⟨W0, hW0, B0, K⟩ := box w s0 s1 s2 s3 s4 s5
  have HB := hide B0
  obtain ⟨-, l0, x0, x1, x2, x3, x4, x5⟩ := K.out W0 (Below.refl _ _)
  clear B0
  go_enter Tryd.func20, Tryd.ntmps20
  go_wp2_with (go_at_call 22; refine (rcheck_bad HH.out _).mono ?_; rintro e w1 ⟨rfl, hb1⟩; have HB1 := hide hb1; clear hb1; obtain ⟨-, m1, y0, y1, y2, y3, y4, y5⟩ := K.out w1 HB1.out)
  go_ret2
  exact ⟨rfl, (K.out _ HB1.out).1⟩

theorem rname_lo {o s h r k : Nat} {s5 : Int} {a : Int} (H : (⟨o, s, h, r, k⟩ : Sh).Ok) (ha : a < 0) (w : World) : Calls Tryd.prog 20 #[.agg #[.int .i64 (o : Int), .int .i64 (s : Int), .int .i64 (h : Int), .int .i64 (r : Int), .int .i64 (k : Int), .int .i64 s5], .int .i64 a] w fun e w' => e = .returned (.tuple #[.string ⟨#[]⟩, .int .i64 20]) ∧ Below w.heap.size w w' := by
  have HH := hide (r5 H)
  have NA := hide (fun w1 => rnames (s5 := s5) H w1)
  obtain ⟨z, hz⟩ : ∃ z, size ⟨o, s, h, r, k⟩ = z := ⟨_, rfl⟩
  rw [hz] at NA
  have f1 : a < 0 := ha
  clear H hz
  obtain ⟨W0, hW0, B0, K⟩ := box w (o : Int) (s : Int) (h : Int) (r : Int) (k : Int) s5
  have HB := hide B0
  obtain ⟨-, l0, x0, x1, x2, x3, x4, x5⟩ := K.out W0 (Below.refl _ _)
  clear B0
  go_enter Tryd.func20, Tryd.ntmps20
  go_wp2_with (first | (go_at_call 22; refine (rcheck_ok HH.out _).mono ?_; rintro e w1 ⟨rfl, hb1⟩; have HB1 := hide hb1; clear hb1; obtain ⟨-, m1, y0, y1, y2, y3, y4, y5⟩ := K.out w1 HB1.out) | (go_at_call 38; refine (NA.out _).mono ?_; rintro e w2 ⟨v, rfl, hown, hb2⟩; have HB2 := hide (HB1.out.trans (hb2.mono HB1.out.size)); have HO := hide hown; clear hb2 hown; obtain ⟨ao, cp, rfl⟩ := own_slice HO.out))
  go_ret2
  exact ⟨rfl, (K.out _ HB2.out).1⟩

theorem rname_hi {o s h r k : Nat} {s5 : Int} {a : Int} (H : (⟨o, s, h, r, k⟩ : Sh).Ok) (h0 : 0 ≤ a) (ha : (size ⟨o, s, h, r, k⟩ : Int) ≤ a) (w : World) : Calls Tryd.prog 20 #[.agg #[.int .i64 (o : Int), .int .i64 (s : Int), .int .i64 (h : Int), .int .i64 (r : Int), .int .i64 (k : Int), .int .i64 s5], .int .i64 a] w fun e w' => e = .returned (.tuple #[.string ⟨#[]⟩, .int .i64 20]) ∧ Below w.heap.size w w' := by
  have HH := hide (r5 H)
  have NA := hide (fun w1 => rnames (s5 := s5) H w1)
  obtain ⟨z, hz⟩ : ∃ z, size ⟨o, s, h, r, k⟩ = z := ⟨_, rfl⟩
  rw [hz] at NA ha
  have f0 : ¬ a < 0 := by omega
  have f1 : (z : Int) ≤ a := ha
  clear H hz
  obtain ⟨W0, hW0, B0, K⟩ := box w (o : Int) (s : Int) (h : Int) (r : Int) (k : Int) s5
  have HB := hide B0
  obtain ⟨-, l0, x0, x1, x2, x3, x4, x5⟩ := K.out W0 (Below.refl _ _)
  clear B0
  go_enter Tryd.func20, Tryd.ntmps20
  go_wp2_with (first | (go_at_call 22; refine (rcheck_ok HH.out _).mono ?_; rintro e w1 ⟨rfl, hb1⟩; have HB1 := hide hb1; clear hb1; obtain ⟨-, m1, y0, y1, y2, y3, y4, y5⟩ := K.out w1 HB1.out) | (go_at_call 38; refine (NA.out _).mono ?_; rintro e w2 ⟨v, rfl, hown, hb2⟩; have HB2 := hide (HB1.out.trans (hb2.mono HB1.out.size)); have HO := hide hown; clear hb2 hown; obtain ⟨ao, cp, rfl⟩ := own_slice HO.out))
  go_ret2
  exact ⟨rfl, (K.out _ HB2.out).1⟩

theorem rname_ok {o s h r k : Nat} {s5 : Int} {a : Nat} (H : (⟨o, s, h, r, k⟩ : Sh).Ok) (ha : a < size ⟨o, s, h, r, k⟩) (w : World) : Calls Tryd.prog 20 #[.agg #[.int .i64 (o : Int), .int .i64 (s : Int), .int .i64 (h : Int), .int .i64 (r : Int), .int .i64 (k : Int), .int .i64 s5], .int .i64 (a : Int)] w fun e w' => e = .returned (.tuple #[.string ⟨(nm ⟨o, s, h, r, k⟩ a).toArray⟩, .int .i64 0]) ∧ Below w.heap.size w w' := by
  have HH := hide (r5 H)
  have NA := hide (fun w1 => rnames (s5 := s5) H w1)
  have GT := hide (nl_get ⟨o, s, h, r, k⟩ ha)
  obtain ⟨z, hz⟩ : ∃ z, size ⟨o, s, h, r, k⟩ = z := ⟨_, rfl⟩
  rw [hz] at NA ha GT
  obtain ⟨Y, hY⟩ : ∃ Y : ByteArray, (⟨(nm ⟨o, s, h, r, k⟩ a).toArray⟩ : ByteArray) = Y := ⟨_, rfl⟩
  rw [hY] at GT
  rw [hY]
  have f0 : ¬ (a : Int) < 0 := by omega
  have f1 : ¬ (z : Int) ≤ (a : Int) := by omega
  have f2 : (a : Int) < (z : Int) := by omega
  have HA := hide ha
  clear H hz hY ha
  obtain ⟨W0, hW0, B0, K⟩ := box w (o : Int) (s : Int) (h : Int) (r : Int) (k : Int) s5
  have HB := hide B0
  obtain ⟨-, l0, x0, x1, x2, x3, x4, x5⟩ := K.out W0 (Below.refl _ _)
  clear B0
  go_enter Tryd.func20, Tryd.ntmps20
  go_wp2_with (first | (go_at_call 22; refine (rcheck_ok HH.out _).mono ?_; rintro e w1 ⟨rfl, hb1⟩; have HB1 := hide hb1; clear hb1; obtain ⟨-, m1, y0, y1, y2, y3, y4, y5⟩ := K.out w1 HB1.out) | (go_at_call 38; refine (NA.out _).mono ?_; rintro e w2 ⟨v, rfl, hown, hb2⟩; have HB2 := hide (HB1.out.trans (hb2.mono HB1.out.size)); obtain ⟨g, cp, rfl, lg, cg⟩ := own_cell hown GT.out HA.out; clear hb2 hown))
  go_ret2
  exact ⟨rfl, (K.out _ HB2.out).1⟩

theorem wI2 {x y : Int} (h : x = y) (h1 : -9223372036854775808 ≤ y) (h2 : y ≤ 9223372036854775807) : IntKind.i64.wrap x = y := by rw [h]; exact wI h1 h2

/-- Both sides answer so. -/
def Both (f g : FuncId) (args : Array Value) (x : Value) : Prop := (∀ w : World, Calls Tryd.prog f args w fun e w' => e = .returned x ∧ Below w.heap.size w w') ∧ ∀ w : World, Calls Tryd.prog g args w fun e w' => e = .returned x ∧ Below w.heap.size w w'

theorem size_same {s0 s1 s2 s3 s4 s5 : Int} : ∃ v e : Int, Both 7 14 #[.agg #[.int .i64 s0, .int .i64 s1, .int .i64 s2, .int .i64 s3, .int .i64 s4, .int .i64 s5]] (.tuple #[.int .i64 v, .int .i64 e]) := by
  by_cases H : R5 s0 s1 s2 s3 s4
  · obtain ⟨o, s, h, r, k, rfl, rfl, rfl, rfl, rfl, H'⟩ := nat_of H
    exact ⟨_, _, size_ok H', rsize_ok H'⟩
  · exact ⟨_, _, size_bad H, rsize_bad H⟩
theorem check_same {s0 s1 s2 s3 s4 s5 : Int} : ∃ e : Int, Both 21 22 #[.agg #[.int .i64 s0, .int .i64 s1, .int .i64 s2, .int .i64 s3, .int .i64 s4, .int .i64 s5]] (.int .i64 e) := by
  by_cases H : R5 s0 s1 s2 s3 s4
  · exact ⟨_, check_ok H, rcheck_ok H⟩
  · exact ⟨_, check_bad H, rcheck_bad H⟩
theorem rwithin_f {n lo hi : Int} (h : ¬ (lo ≤ n ∧ n ≤ hi)) (w : World) : Calls Tryd.prog 37 #[.int .i64 n, .int .i64 lo, .int .i64 hi] w fun e w' => e = .returned (.bool false) ∧ w' = w := by
  have := rwithin_any (n := n) (lo := lo) (hi := hi) w
  rwa [decide_eq_false h] at this
theorem ack_same {s0 s1 s2 s3 s4 s5 : Int} {a : Int} : ∃ v e : Int, Both 8 15 #[.agg #[.int .i64 s0, .int .i64 s1, .int .i64 s2, .int .i64 s3, .int .i64 s4, .int .i64 s5], .int .i64 a] (.tuple #[.int .i64 v, .int .i64 e]) := by
  by_cases H : R5 s0 s1 s2 s3 s4
  · obtain ⟨o, s, h, r, k, rfl, rfl, rfl, rfl, rfl, H'⟩ := nat_of H
    obtain ⟨b1, b2, b3, b4, b5, b6, b7, b8, b9, b10⟩ := bnds H'
    have eb : IntKind.i64.wrap ((h : Int) - 1) = (h : Int) - 1 := wI (by omega) (by omega)
    by_cases ha : 0 ≤ a ∧ a < (h : Int)
    · obtain ⟨n, rfl⟩ : ∃ n : Nat, a = n := ⟨a.toNat, by omega⟩
      refine ⟨_, _, ack_ok H' rfl (by omega), rack_of (q := true) (fun w1 => ?_) (fun w1 => ?_)⟩
      · rw [eb]; exact rwithin_t (by omega) (by omega) w1
      · rw [wI2 (y := 8 + (n : Int)) rfl (by omega) (by omega)]; exact place_ok H _ w1
    · refine ⟨_, _, ack_arg H ha, rack_of (q := false) (fun w1 => ?_) (fun w1 => place_arg H _ w1)⟩
      rw [eb]; exact rwithin_f (by omega) w1
  · exact ⟨_, _, ack_bad H, rack_of (fun w1 => rwithin_any w1) (fun w1 => place_bad H _ _ w1)⟩
theorem weak_same {s0 s1 s2 s3 s4 s5 : Int} {a : Int} : ∃ v e : Int, Both 10 17 #[.agg #[.int .i64 s0, .int .i64 s1, .int .i64 s2, .int .i64 s3, .int .i64 s4, .int .i64 s5], .int .i64 a] (.tuple #[.int .i64 v, .int .i64 e]) := by
  by_cases H : R5 s0 s1 s2 s3 s4
  · obtain ⟨o, s, h, r, k, rfl, rfl, rfl, rfl, rfl, H'⟩ := nat_of H
    obtain ⟨b1, b2, b3, b4, b5, b6, b7, b8, b9, b10⟩ := bnds H'
    have eb : IntKind.i64.wrap ((k : Int) - 1) = (k : Int) - 1 := wI (by omega) (by omega)
    by_cases ha : 0 ≤ a ∧ a < (k : Int)
    · obtain ⟨n, rfl⟩ : ∃ n : Nat, a = n := ⟨a.toNat, by omega⟩
      refine ⟨_, _, weak_ok H' rfl (by omega), rweak_of (q := true) (fun w1 => ?_) (fun w1 => ?_)⟩
      · rw [eb]; exact rwithin_t (by omega) (by omega) w1
      · rw [wI2 (x := 8 + (h : Int)) rfl (by omega) (by omega), wI2 (x := (h : Int) * (r : Int)) (y := ((h * r : Nat) : Int)) (by simp) (by omega) (by omega), wI2 (x := 8 + (h : Int) + ((h * r : Nat) : Int)) rfl (by omega) (by omega), wI2 (x := 8 + (h : Int) + ((h * r : Nat) : Int) + (n : Int)) rfl (by omega) (by omega)]; exact place_ok H _ w1
    · refine ⟨_, _, weak_arg H ha, rweak_of (q := false) (fun w1 => ?_) (fun w1 => place_arg H _ w1)⟩
      rw [eb]; exact rwithin_f (by omega) w1
  · exact ⟨_, _, weak_bad H, rweak_of (fun w1 => rwithin_any w1) (fun w1 => place_bad H _ _ w1)⟩
theorem robj_at {o s h r k : Nat} {s5 : Int} (H : (⟨o, s, h, r, k⟩ : Sh).Ok) {n : Nat} (h1 : 1 ≤ n) (h2 : n ≤ o) (w : World) : Calls Tryd.prog 18 #[.agg #[.int .i64 (o : Int), .int .i64 (s : Int), .int .i64 (h : Int), .int .i64 (r : Int), .int .i64 (k : Int), .int .i64 s5], .int .i64 (n : Int)] w fun e w' => e = .returned (.tuple #[.int .i64 (8 + (h : Int) + ((h * r : Nat) : Int) + (k : Int) + (((n - 1) * (3 + s) : Nat) : Int)), .int .i64 0]) ∧ Below w.heap.size w w' := by
  obtain ⟨m, rfl⟩ : ∃ m, n = m + 1 := ⟨n - 1, by omega⟩
  have := robj_ok (s5 := s5) H m (by omega) w
  rw [show ((bO ⟨o, s, h, r, k⟩ + m * ow ⟨o, s, h, r, k⟩ : Nat) : Int) = 8 + (h : Int) + ((h * r : Nat) : Int) + (k : Int) + (((m + 1 - 1) * (3 + s) : Nat) : Int) from by simp only [bO, bK, bR, ow, Nat.add_sub_cancel]; omega, show ((m : Int) + 1) = ((m + 1 : Nat) : Int) by omega] at this
  exact this
theorem object_same {s0 s1 s2 s3 s4 s5 : Int} {a : Int} : ∃ v e : Int, Both 11 18 #[.agg #[.int .i64 s0, .int .i64 s1, .int .i64 s2, .int .i64 s3, .int .i64 s4, .int .i64 s5], .int .i64 a] (.tuple #[.int .i64 v, .int .i64 e]) := by
  by_cases H : R5 s0 s1 s2 s3 s4
  · obtain ⟨o, s, h, r, k, rfl, rfl, rfl, rfl, rfl, H'⟩ := nat_of H
    obtain ⟨b1, b2, b3, b4, b5, b6, b7, b8, b9, b10⟩ := bnds H'
    by_cases ha : 1 ≤ a ∧ a ≤ (o : Int)
    · obtain ⟨n, rfl⟩ : ∃ n : Nat, a = n := ⟨a.toNat, by omega⟩
      have hq : (n - 1) * (3 + s) ≤ 448 := Nat.le_trans (Nat.mul_le_mul_right _ (by omega)) b7
      exact ⟨_, _, object_ok H' rfl (by omega) (by omega) rfl hq, robj_at H' (by omega) (by omega)⟩
    · refine ⟨_, _, object_arg H ha, robject_of (q := false) (fun w1 => ?_) (fun w1 => place_arg H _ w1)⟩
      exact rwithin_f ha w1
  · exact ⟨_, _, object_bad H, robject_of (fun w1 => rwithin_any w1) (fun w1 => place_bad H _ _ w1)⟩
theorem root_same {s0 s1 s2 s3 s4 s5 : Int} {a b : Int} : ∃ v e : Int, Both 9 16 #[.agg #[.int .i64 s0, .int .i64 s1, .int .i64 s2, .int .i64 s3, .int .i64 s4, .int .i64 s5], .int .i64 a, .int .i64 b] (.tuple #[.int .i64 v, .int .i64 e]) := by
  by_cases H : R5 s0 s1 s2 s3 s4
  · obtain ⟨o, s, h, r, k, rfl, rfl, rfl, rfl, rfl, H'⟩ := nat_of H
    obtain ⟨b1, b2, b3, b4, b5, b6, b7, b8, b9, b10⟩ := bnds H'
    have eb : IntKind.i64.wrap ((h : Int) - 1) = (h : Int) - 1 := wI (by omega) (by omega)
    have eb2 : IntKind.i64.wrap ((r : Int) - 1) = (r : Int) - 1 := wI (by omega) (by omega)
    by_cases ha : 0 ≤ a ∧ a < (h : Int)
    · by_cases hb : 0 ≤ b ∧ b < (r : Int)
      · obtain ⟨n, rfl⟩ : ∃ n : Nat, a = n := ⟨a.toNat, by omega⟩
        obtain ⟨m, rfl⟩ : ∃ m : Nat, b = m := ⟨b.toNat, by omega⟩
        have hp : n * r ≤ 56 := Nat.le_trans (Nat.mul_le_mul_right _ (by omega)) b6
        refine ⟨_, _, root_ok H' rfl hp (by omega) (by omega), rroot_t (q2 := true) (fun w1 => ?_) (fun w1 => ?_) (fun w1 => ?_)⟩
        · rw [eb]; exact rwithin_t (by omega) (by omega) w1
        · rw [eb2]; exact rwithin_t (by omega) (by omega) w1
        · rw [wI2 (x := 8 + (h : Int)) rfl (by omega) (by omega), wI2 (x := (n : Int) * (r : Int)) (y := ((n * r : Nat) : Int)) (by simp) (by omega) (by omega), wI2 (x := 8 + (h : Int) + ((n * r : Nat) : Int)) rfl (by omega) (by omega), wI2 (x := 8 + (h : Int) + ((n * r : Nat) : Int) + (m : Int)) rfl (by omega) (by omega)]; exact place_ok H _ w1
      · refine ⟨_, _, root_arg2 H ha hb, rroot_t (q2 := false) (fun w1 => ?_) (fun w1 => ?_) (fun w1 => place_arg H _ w1)⟩
        · rw [eb]; exact rwithin_t ha.1 (by omega) w1
        · rw [eb2]; exact rwithin_f (by omega) w1
    · refine ⟨_, _, root_arg1 H ha, rroot_f (fun w1 => ?_) (fun w1 => place_arg H _ w1)⟩
      rw [eb]; exact rwithin_f (by omega) w1
  · by_cases ha : 0 ≤ a ∧ a ≤ IntKind.i64.wrap (s2 - 1)
    · exact ⟨_, _, root_bad H, rroot_t (fun w1 => rwithin_t ha.1 ha.2 w1) (fun w1 => rwithin_any w1) (fun w1 => place_bad H _ _ w1)⟩
    · exact ⟨_, _, root_bad H, rroot_f (fun w1 => rwithin_f ha w1) (fun w1 => place_bad H _ _ w1)⟩
theorem slot_same {s0 s1 s2 s3 s4 s5 : Int} {a b : Int} : ∃ v e : Int, Both 12 19 #[.agg #[.int .i64 s0, .int .i64 s1, .int .i64 s2, .int .i64 s3, .int .i64 s4, .int .i64 s5], .int .i64 a, .int .i64 b] (.tuple #[.int .i64 v, .int .i64 e]) := by
  by_cases H : R5 s0 s1 s2 s3 s4
  · obtain ⟨o, s, h, r, k, rfl, rfl, rfl, rfl, rfl, H'⟩ := nat_of H
    obtain ⟨b1, b2, b3, b4, b5, b6, b7, b8, b9, b10⟩ := bnds H'
    have eb2 : IntKind.i64.wrap ((s : Int) - 1) = (s : Int) - 1 := wI (by omega) (by omega)
    by_cases ha : 1 ≤ a ∧ a ≤ (o : Int)
    · by_cases hb : 0 ≤ b ∧ b < (s : Int)
      · obtain ⟨n, rfl⟩ : ∃ n : Nat, a = n := ⟨a.toNat, by omega⟩
        obtain ⟨m, rfl⟩ : ∃ m : Nat, b = m := ⟨b.toNat, by omega⟩
        have hq : (n - 1) * (3 + s) ≤ 448 := Nat.le_trans (Nat.mul_le_mul_right _ (by omega)) b7
        refine ⟨_, _, slot_ok H' rfl (by omega) (by omega) rfl hq (by omega), rslot_of (q := true) (fun w1 => robj_at H' (by omega) (by omega) w1) (fun w1 => ?_) (fun w1 => ?_)⟩
        · rw [eb2]; exact rwithin_t (by omega) (by omega) w1
        · rw [wI2 (x := 8 + (h : Int) + ((h * r : Nat) : Int) + (k : Int) + (((n - 1) * (3 + s) : Nat) : Int) + 3) rfl (by omega) (by omega), wI2 (x := 8 + (h : Int) + ((h * r : Nat) : Int) + (k : Int) + (((n - 1) * (3 + s) : Nat) : Int) + 3 + (m : Int)) rfl (by omega) (by omega)]; exact place_ok H _ w1
      · obtain ⟨n, rfl⟩ : ∃ n : Nat, a = n := ⟨a.toNat, by omega⟩
        refine ⟨_, _, slot_arg2 H ha hb, rslot_of (q := false) (fun w1 => robj_at H' (by omega) (by omega) w1) (fun w1 => ?_) (fun w1 => place_arg H _ w1)⟩
        rw [eb2]; exact rwithin_f (by omega) w1
    · exact ⟨_, _, slot_arg1 H ha, rslot_no (by decide) (fun w1 => robject_of (q := false) (fun w2 => rwithin_f ha w2) (fun w2 => place_arg H _ w2) w1)⟩
  · exact ⟨_, _, slot_bad H, rslot_no (by decide) (fun w1 => robject_of (fun w2 => rwithin_any w2) (fun w2 => place_bad H _ _ w2) w1)⟩
theorem name_same {s0 s1 s2 s3 s4 s5 : Int} {a : Int} : ∃ (v : ByteArray) (e : Int), (∀ w : World, Tab w → Calls Tryd.prog 13 #[.agg #[.int .i64 s0, .int .i64 s1, .int .i64 s2, .int .i64 s3, .int .i64 s4, .int .i64 s5], .int .i64 a] w fun e' w' => e' = .returned (.tuple #[.string v, .int .i64 e]) ∧ Below w.heap.size w w') ∧ ∀ w : World, Calls Tryd.prog 20 #[.agg #[.int .i64 s0, .int .i64 s1, .int .i64 s2, .int .i64 s3, .int .i64 s4, .int .i64 s5], .int .i64 a] w fun e' w' => e' = .returned (.tuple #[.string v, .int .i64 e]) ∧ Below w.heap.size w w' := by
  by_cases H : R5 s0 s1 s2 s3 s4
  · obtain ⟨o, s, h, r, k, rfl, rfl, rfl, rfl, rfl, H'⟩ := nat_of H
    by_cases ha : 0 ≤ a ∧ a < (size ⟨o, s, h, r, k⟩ : Int)
    · obtain ⟨n, rfl⟩ : ∃ n : Nat, a = n := ⟨a.toNat, by omega⟩
      exact ⟨_, _, fun w T => name_ok H' (by omega) T, rname_ok H' (by omega)⟩
    · refine ⟨_, _, fun w _ => name_place H' ha w, fun w => ?_⟩
      by_cases h0 : a < 0
      · exact rname_lo H' h0 w
      · exact rname_hi H' (by omega) (by omega) w
  · exact ⟨_, _, fun w _ => name_bad H w, rname_bad H⟩
end Shape
end Go.Proofs.YtfnfoebmpggmdaaDoor
