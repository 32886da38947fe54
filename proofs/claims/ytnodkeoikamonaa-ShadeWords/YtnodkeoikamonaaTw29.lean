/-
  Lemmas: ShadeP.
-/
import Derived.Test.YtnodkeoikamonaaTw20
import Derived.Test.YtnodkeoikamonaaTw24
/-
  Shading and pulling: where an object's head and link stand.
-/
namespace Go.Proofs.Ytnodkeoikamonaa
open Go.RowKit
set_option linter.unusedVariables false
set_option linter.unusedSimpArgs false
set_option maxRecDepth 20000
namespace Shd
theorem natR5 {sh : Shp} (h : Shape.R5 sh.a sh.b sh.c sh.d sh.e) : ∃ o s hh r k : Nat, sh.a = o ∧ sh.b = s ∧ sh.c = hh ∧ sh.d = r ∧ sh.e = k ∧ (⟨o, s, hh, r, k⟩ : Shape.Sh).Ok := by
  obtain ⟨⟨a1, a2⟩, ⟨b1, b2⟩, ⟨c1, c2⟩, ⟨d1, d2⟩, e1, e2⟩ := h
  exact ⟨sh.a.toNat, sh.b.toNat, sh.c.toNat, sh.d.toNat, sh.e.toNat, by omega, by omega, by omega, by omega, by omega, by constructor <;> simp only <;> omega⟩
theorem object_no {sh : Shp} (h : Shape.R5 sh.a sh.b sh.c sh.d sh.e) {i : Int} (ht : ¬ there sh i) (w : World) : Calls Try.prog 105 #[sh.val, .int .i64 i] w fun e w' => e = .returned (.tuple #[.int .i64 0, .int .i64 2]) ∧ Below w.heap.size w w' := Shape.object_arg h ht w
theorem object_yes {sh : Shp} (h : Shape.R5 sh.a sh.b sh.c sh.d sh.e) {i : Int} (ht : there sh i) (w : World) : Calls Try.prog 105 #[sh.val, .int .i64 i] w fun e w' => e = .returned (.tuple #[.int .i64 (headAt sh i), .int .i64 0]) ∧ Below w.heap.size w w' := by
  obtain ⟨o, s, hh, r, k, e0, e1, e2, e3, e4, H⟩ := natR5 h
  obtain ⟨s0, s1, s2, s3, s4, s5⟩ := sh
  simp only at e0 e1 e2 e3 e4
  subst e0 e1 e2 e3 e4
  obtain ⟨h1, h2⟩ := ht
  simp only at h1 h2
  obtain ⟨a, rfl⟩ := Int.eq_ofNat_of_zero_le (show 0 ≤ i by omega)
  have ho : (a : Int) ≤ (o : Int) := h2
  have hq2 : (a - 1) * (3 + s) ≤ 448 := by
    have o2 : o ≤ 64 := H.o2
    have s2 : s ≤ 4 := H.s2
    exact Nat.mul_le_mul (show a - 1 ≤ 64 by omega) (show 3 + s ≤ 7 by omega)
  have K := Shape.object_ok (s5 := s5) (p := hh * r) H rfl (show 1 ≤ a by omega) (show a ≤ o by omega) rfl hq2 w
  have eq : headAt ⟨o, s, hh, r, k, s5⟩ (a : Int) = 8 + (hh : Int) + ((hh * r : Nat) : Int) + (k : Int) + (((a - 1) * (3 + s) : Nat) : Int) := by
    unfold headAt
    rw [if_pos (show there ⟨o, s, hh, r, k, s5⟩ (a : Int) from ⟨h1, h2⟩)]
    have c : ((a - 1 : Nat) : Int) = (a : Int) - 1 := by omega
    push_cast [c]
    rfl
  rw [eq]
  exact K
set_option maxHeartbeats 4000000 in
theorem places_no {sh : Shp} (h : Shape.R5 sh.a sh.b sh.c sh.d sh.e) {i : Int} (ht : ¬ there sh i) (w : World) : Calls Try.prog 77 #[sh.val, .int .i64 i] w fun e w' => e = .returned (.tuple #[.int .i64 (headAt sh i), .int .i64 (linkAt sh i), .bool false]) ∧ Below w.heap.size w w' := by
  have OB := hide (fun w1 : World => object_no h ht w1)
  rw [show headAt sh i = -1 from by simp [headAt, ht], show linkAt sh i = -1 from by simp [linkAt, ht]]
  clear h ht
  obtain ⟨s0, s1, s2, s3, s4, s5⟩ := sh
  simp only [Shp.val] at OB ⊢
  obtain ⟨W0, hW0, B0, K⟩ := Shape.box w s0 s1 s2 s3 s4 s5
  have HB := hide B0
  obtain ⟨-, l0, x0, x1, x2, x3, x4, x5⟩ := K.out W0 (Below.refl _ _)
  clear B0
  go_enter Try.func77, Try.ntmps77
  go_wp2_with (go_at_call 105; refine (OB.out _).mono ?_; rintro e w1 ⟨rfl, hb1⟩; have HB1 := hide (HB.out.trans (hb1.mono HB.out.size)); clear hb1)
  go_ret3
  exact ⟨rfl, HB1.out⟩
set_option maxHeartbeats 4000000 in
theorem places_yes {sh : Shp} (h : Shape.R5 sh.a sh.b sh.c sh.d sh.e) {i : Int} (ht : there sh i) (w : World) : Calls Try.prog 77 #[sh.val, .int .i64 i] w fun e w' => e = .returned (.tuple #[.int .i64 (headAt sh i), .int .i64 (linkAt sh i), .bool true]) ∧ Below w.heap.size w w' := by
  have OB := hide (fun w1 : World => object_yes h ht w1)
  have hb : 8 ≤ headAt sh i ∧ headAt sh i ≤ 1000 ∧ linkAt sh i = headAt sh i + 1 := by
    obtain ⟨o, s, hh, r, k, e0, e1, e2, e3, e4, H⟩ := natR5 h
    unfold headAt linkAt
    rw [if_pos ht, if_pos ht]
    obtain ⟨⟨a1, a2⟩, ⟨b1, b2⟩, ⟨c1, c2⟩, ⟨d1, d2⟩, f1, f2⟩ := h
    have p1 : 0 ≤ sh.c * sh.d ∧ sh.c * sh.d ≤ 7 * 8 := ⟨Int.mul_nonneg (by omega) (by omega), Int.mul_le_mul c2 d2 (by omega) (by omega)⟩
    have p2 : 0 ≤ (i - 1) * (3 + sh.b) ∧ (i - 1) * (3 + sh.b) ≤ 64 * 7 := ⟨Int.mul_nonneg (by have := ht.1; omega) (by omega), Int.mul_le_mul (by have := ht.2; omega) (by omega) (by omega) (by omega)⟩
    omega
  obtain ⟨hb1, hb2, hb3⟩ := hb
  rw [hb3]
  obtain ⟨p, hp⟩ : ∃ p, headAt sh i = p := ⟨_, rfl⟩
  rw [hp] at hb1 hb2 OB ⊢
  clear h ht hp hb3
  obtain ⟨s0, s1, s2, s3, s4, s5⟩ := sh
  simp only [Shp.val] at OB ⊢
  have g1 : wrap64 (p + 1) = p + 1 := by unfold wrap64; omega
  obtain ⟨W0, hW0, B0, K⟩ := Shape.box w s0 s1 s2 s3 s4 s5
  have HB := hide B0
  obtain ⟨-, l0, x0, x1, x2, x3, x4, x5⟩ := K.out W0 (Below.refl _ _)
  clear B0
  go_enter Try.func77, Try.ntmps77
  go_wp2_with (go_at_call 105; refine (OB.out _).mono ?_; rintro e w1 ⟨rfl, hb1'⟩; have HB1 := hide (HB.out.trans (hb1'.mono HB.out.size)); clear hb1')
  go_ret3
  exact ⟨rfl, HB1.out⟩
end Shd
end Go.Proofs.Ytnodkeoikamonaa
