/-
  View: the example: a fresh memory is seen, and is sound
-/
import Derived.Test.YtbffhfmhjnflbaaVwQ
namespace Go.Proofs.Ytbffhfmhjnflbaa
open Go.RowKit
set_option linter.unusedVariables false
set_option linter.unusedSimpArgs false
set_option linter.unnecessarySimpa false
set_option maxRecDepth 20000
namespace Vw
open Shape

theorem ok2 : (⟨2, 1, 1, 1, 0⟩ : Sh).Ok := ⟨by decide, by decide, by decide, by decide, by decide, by decide, by decide, by decide⟩
theorem sz2 : size ⟨2, 1, 1, 1, 0⟩ = 18 := rfl
/-- The lookers' contracts at the example. -/
theorem fresh2 (w : World) : Calls Try.prog 19 #[.agg #[.int .i64 2, .int .i64 1, .int .i64 1, .int .i64 1, .int .i64 0, .int .i64 0]] w fun e w' => (∃ g, e = .returned (.tuple #[.slice (some ⟨g, 0, none⟩) 18 18, .int .i64 0]) ∧ IsRow w' g 18 18 (F ⟨2, 1, 1, 1, 0⟩ 1)) ∧ Below w.heap.size w w' := by
  have := fresh_ok (s5 := 0) ok2 w
  refine Calls.mono (R := _) (by simpa [sz2] using this) ?_
  intro e w' h
  obtain ⟨g, h1, h2, h3, h4⟩ := h
  exact ⟨⟨g, h1, h2⟩, h4⟩
theorem row_bnd {w : World} {g n cap : Nat} {f : Nat → Int} (h : IsRow w g n cap f) : ∀ i, i < n → 0 ≤ f i ∧ f i < 18446744073709551616 := fun i hi => by have := h.word hi; omega
theorem look2 {w : World} {g : Nat} (h : IsRow w g 18 18 (F ⟨2, 1, 1, 1, 0⟩ 1)) : Calls Try.prog 9 #[.agg #[.int .i64 2, .int .i64 1, .int .i64 1, .int .i64 1, .int .i64 0, .int .i64 0], .slice (some ⟨g, 0, none⟩) 18 18] w fun e w' => (∃ (c : Cv) (a : Av) (b0 o0 b1 o1 c1 : Nat) (a1 : Option Addr), e = .returned (.tuple #[.agg #[.int .i64 c.ph, .int .i64 c.co, .int .u64 c.ro, .slice a.aa c.na a.ca, .slice a.ra c.nr a.cr, .slice a.wa c.nw a.cw, .slice (some ⟨b1, o1, none⟩) 2 a.cb, .slice (some ⟨b0, o0, none⟩) 2 a.cf, .slice a.ga c.gr.length a.cg, .slice a.qa c.qu.length a.cq, .int .u64 (c.cn 0), .int .u64 (c.cn 1), .int .u64 (c.cn 2), .int .u64 (c.cn 3)], .int .i64 0]) ∧ b0 < w'.heap.size ∧ b1 < w'.heap.size ∧ w'.cell? ⟨b0, o0, none⟩ = some (.int .i64 1) ∧ w'.cell? ⟨b0, o0 + 1, none⟩ = some (.int .i64 2) ∧ w'.cell? ⟨b1, o1 + 9 + 8, none⟩ = some (.slice a1 1 c1)) ∧ Below w.heap.size w w' := by
  have := Look_ok (s5 := 0) ok2 sz2 (Nat.le_refl 18) w h.sees (Nat.le_refl _) (row_bnd h)
  refine Calls.mono this ?_
  rintro e w' ⟨⟨a, rfl, HO⟩, hb⟩
  have hfr : (cv ⟨2, 1, 1, 1, 0⟩ (F ⟨2, 1, 1, 1, 0⟩ 1)).fr = [1, 2] := congrArg Prod.fst (fresh_free ok2)
  have hS := HO.out.shows
  obtain ⟨b0, o0, e0, l0, c0⟩ := hS.fr 0 1 (by rw [hfr]; rfl)
  obtain ⟨b0', o0', e0', l0', c0'⟩ := hS.fr 1 2 (by rw [hfr]; rfl)
  rw [e0] at e0'
  cases e0'
  obtain ⟨b1, o1, a1, c1, e1, l1, hc1, _⟩ := hS.ob 1 (by decide)
  refine ⟨⟨cv ⟨2, 1, 1, 1, 0⟩ (F ⟨2, 1, 1, 1, 0⟩ 1), a, b0, o0, b1, o1, c1, a1, ?_, l0, l1, by simpa using c0, c0', hc1 8 (by decide)⟩, hb⟩
  unfold vl
  rw [e0, e1, hfr]
  rfl
theorem check2 {w : World} {g : Nat} (h : IsRow w g 18 18 (F ⟨2, 1, 1, 1, 0⟩ 1)) : Calls Try.prog 11 #[.agg #[.int .i64 2, .int .i64 1, .int .i64 1, .int .i64 1, .int .i64 0, .int .i64 0], .slice (some ⟨g, 0, none⟩) 18 18] w fun e w' => e = .returned (.int .i64 0) ∧ Below w.heap.size w w' :=
  check_yes (s5 := 0) ok2 sz2 (Nat.le_refl 18) h.sees (Nat.le_refl _) (row_bnd h) (fresh_sound ok2)

set_option maxHeartbeats 4000000 in
theorem awake_ok (w : World) : Calls Try.prog 6 #[] w fun e w' => e = .returned (.bool true) ∧ Below w.heap.size w w' := by
  go_enter Try.func6, Try.ntmps6
  go_upto_region 2 with (fail)
  obtain ⟨W0, hW0, B0, K⟩ := box w 2 1 1 1 0 0
  have HB := hide B0
  obtain ⟨-, l0, x0, x1, x2, x3, x4, x5⟩ := K.out W0 (Below.refl _ _)
  simp only [hW0]
  clear B0 hW0
  go_upto_region 3 with (go_at_call 19; refine (fresh2 _).mono ?_; rintro e w1 ⟨⟨g, rfl, R1⟩, hb1⟩; have HB1 := hide hb1; have HR1 := hide R1; clear hb1 R1)
  obtain ⟨hbw, l1, y0, y1, y2, y3, y4, y5⟩ := K.out w1 HB1.out
  clear hbw x0 x1 x2 x3 x4 x5
  have LK := hide (look2 HR1.out)
  go_upto_region 4 with (go_at_call 9; refine LK.out.mono ?_; rintro e w2 ⟨⟨c, a, b0, o0, b1, o1, c1, a1, rfl, hb0, hb1', hc0, hc0', hc1⟩, hb2⟩; have HB2 := hide hb2; clear hb2)
  obtain ⟨W3, hW3⟩ : ∃ W3, w2.alloc (.cells #[.int .i64 c.ph, .int .i64 c.co, .int .u64 c.ro, .slice a.aa c.na a.ca, .slice a.ra c.nr a.cr, .slice a.wa c.nw a.cw, .slice (some ⟨b1, o1, none⟩) 2 a.cb, .slice (some ⟨b0, o0, none⟩) 2 a.cf, .slice a.ga c.gr.length a.cg, .slice a.qa c.qu.length a.cq, .int .u64 (c.cn 0), .int .u64 (c.cn 1), .int .u64 (c.cn 2), .int .u64 (c.cn 3)] 33) = W3 := ⟨_, rfl⟩
  have B3 : Below w2.heap.size w2 W3 := by rw [← hW3]; exact (Below.refl _ w2).alloc (Nat.le_refl _) _
  have R3 : W3.rowIs w2.heap.size 33 14 (lrow [.int .i64 c.ph, .int .i64 c.co, .int .u64 c.ro, .slice a.aa c.na a.ca, .slice a.ra c.nr a.cr, .slice a.wa c.nw a.cw, .slice (some ⟨b1, o1, none⟩) 2 a.cb, .slice (some ⟨b0, o0, none⟩) 2 a.cf, .slice a.ga c.gr.length a.cg, .slice a.qa c.qu.length a.cq, .int .u64 (c.cn 0), .int .u64 (c.cn 1), .int .u64 (c.cn 2), .int .u64 (c.cn 3)]) := by rw [← hW3]; exact rowL_alloc w2 [.int .i64 c.ph, .int .i64 c.co, .int .u64 c.ro, .slice a.aa c.na a.ca, .slice a.ra c.nr a.cr, .slice a.wa c.nw a.cw, .slice (some ⟨b1, o1, none⟩) 2 a.cb, .slice (some ⟨b0, o0, none⟩) 2 a.cf, .slice a.ga c.gr.length a.cg, .slice a.qa c.qu.length a.cq, .int .u64 (c.cn 0), .int .u64 (c.cn 1), .int .u64 (c.cn 2), .int .u64 (c.cn 3)] _ rfl
  have HB3 := hide (HB2.out.trans (B3.mono HB2.out.size))
  have HB13 := hide (HB1.out.trans (HB3.out.mono HB1.out.size))
  have z6 : W3.cell? ⟨w2.heap.size, 6, none⟩ = some (.slice (some ⟨b1, o1, none⟩) 2 a.cb) := R3.cell (i := 6) (by decide)
  have z7 : W3.cell? ⟨w2.heap.size, 7, none⟩ = some (.slice (some ⟨b0, o0, none⟩) 2 a.cf) := R3.cell (i := 7) (by decide)
  have k0 : W3.cell? ⟨b0, o0, none⟩ = some (.int .i64 1) := (B3.cell (p := ⟨b0, o0, none⟩) hb0).trans hc0
  have k1 : W3.cell? ⟨b0, o0 + 1, none⟩ = some (.int .i64 2) := (B3.cell (p := ⟨b0, o0 + 1, none⟩) hb0).trans hc0'
  have k2 : W3.cell? ⟨b1, o1 + 9 + 8, none⟩ = some (.slice a1 1 c1) := (B3.cell (p := ⟨b1, o1 + 9 + 8, none⟩) hb1').trans hc1
  have R13 := hide (HR1.out.below HB3.out)
  have CK := hide (check2 R13.out)
  simp only [hW3]
  clear hW3 B3 R3 y0 y1 y2 y3 y4 y5 hc0 hc0' hc1
  obtain ⟨-, -, y0, y1, y2, y3, y4, y5⟩ := K.out W3 HB13.out
  go_wp2_with (go_at_call 11; refine CK.out.mono ?_; rintro e w5 ⟨rfl, hb5⟩; have HB5 := hide hb5; clear hb5)
  go_ret
  exact ⟨rfl, (K.out _ (HB13.out.trans (HB5.out.mono HB13.out.size))).1⟩
end Vw
end Go.Proofs.Ytbffhfmhjnflbaa
