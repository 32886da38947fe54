/-
  View: Check of the package
-/
import Derived.Test.YtbffhfmhjnflbaaVwZ
namespace Go.Proofs.Ytbffhfmhjnflbaa
open Go.RowKit
set_option linter.unusedVariables false
set_option linter.unusedSimpArgs false
set_option linter.unnecessarySimpa false
set_option maxRecDepth 20000
namespace Vw
open Shape

set_option maxHeartbeats 2000000 in
theorem check_yes {o s h r k b off z cap : Nat} {s5 : Int} {B : Nat} {f : Nat → Int} (H : (⟨o, s, h, r, k⟩ : Sh).Ok) (hz : size ⟨o, s, h, r, k⟩ = z) (hc : z ≤ cap) {w : World} (hS : Sees w B (some ⟨b, off, none⟩) z f) (hB : B ≤ w.heap.size) (hf : ∀ i, i < z → 0 ≤ f i ∧ f i < 18446744073709551616) (hs : Sound ⟨o, s, h, r, k⟩ f) :
    Calls Try.prog 11 #[.agg #[.int .i64 (o : Int), .int .i64 (s : Int), .int .i64 (h : Int), .int .i64 (r : Int), .int .i64 (k : Int), .int .i64 s5], .slice (some ⟨b, off, none⟩) z cap] w fun e w' => e = .returned (.int .i64 0) ∧ Below w.heap.size w w' := by
  obtain ⟨W0, hW0, B0, K⟩ := box w (o : Int) (s : Int) (h : Int) (r : Int) (k : Int) s5
  have HB := hide B0
  have MO := hide (fun w1 => memoryOf_ok (s5 := s5) H (some ⟨b, off, none⟩) z cap hz w1)
  have IS := hide (fun (V : World) (hb : Below w.heap.size w V) => call_yes (isSound_ok (b := b) (off := off) (s5 := s5) H hz hc (w := V) (hS.below hb hB) (by have := hb.size; omega) hf) hs)
  clear H hz hS hB hf hs
  obtain ⟨-, l0, x0, x1, x2, x3, x4, x5⟩ := K.out W0 (Below.refl _ _)
  clear B0
  go_enter Try.func11, Try.ntmps11
  go_upto_region 2 with (go_at_call 30; refine (MO.out _).mono ?_; rintro e w2 ⟨rfl, hb2⟩; have HB2 := hide hb2; clear hb2)
  obtain ⟨W3, hW3⟩ : ∃ W3, w2.alloc (.cells #[.int .i64 (o : Int), .int .i64 (s : Int), .int .i64 (h : Int), .int .i64 (r : Int), .int .i64 (k : Int), .int .i64 s5, .slice (some ⟨b, off, none⟩) z cap] 70) = W3 := ⟨_, rfl⟩
  have HB3 := hide (show Below w.heap.size w W3 by rw [← hW3]; exact (HB.out.trans (HB2.out.mono HB.out.size)).trans ((Below.refl _ w2).alloc (by have := HB.out.size; have := HB2.out.size; omega) _))
  have R3 : W3.rowIs w2.heap.size 70 7 (lrow [.int .i64 (o : Int), .int .i64 (s : Int), .int .i64 (h : Int), .int .i64 (r : Int), .int .i64 (k : Int), .int .i64 s5, .slice (some ⟨b, off, none⟩) z cap]) := by rw [← hW3]; exact rowL_alloc w2 [.int .i64 (o : Int), .int .i64 (s : Int), .int .i64 (h : Int), .int .i64 (r : Int), .int .i64 (k : Int), .int .i64 s5, .slice (some ⟨b, off, none⟩) z cap] _ rfl
  have d0 := R3.cell (i := 0) (by decide)
  have d1 := R3.cell (i := 1) (by decide)
  have d2 := R3.cell (i := 2) (by decide)
  have d3 := R3.cell (i := 3) (by decide)
  have d4 := R3.cell (i := 4) (by decide)
  have d5 := R3.cell (i := 5) (by decide)
  have d6 := R3.cell (i := 6) (by decide)
  simp only [lrow] at d0 d1 d2 d3 d4 d5 d6
  simp only [hW3]
  clear hW3 R3
  go_wp2_with (go_at_call 35; refine (IS.out _ HB3.out).mono ?_; rintro e w4 ⟨rfl, hb4⟩; have HB4 := hide hb4; clear hb4)
  go_ret
  exact ⟨rfl, HB3.out.trans (HB4.out.mono HB3.out.size)⟩

set_option maxHeartbeats 2000000 in
theorem check_no {o s h r k b off z cap : Nat} {s5 : Int} {B : Nat} {f : Nat → Int} (H : (⟨o, s, h, r, k⟩ : Sh).Ok) (hz : size ⟨o, s, h, r, k⟩ = z) (hc : z ≤ cap) {w : World} (hS : Sees w B (some ⟨b, off, none⟩) z f) (hB : B ≤ w.heap.size) (hf : ∀ i, i < z → 0 ≤ f i ∧ f i < 18446744073709551616) (hs : ¬ Sound ⟨o, s, h, r, k⟩ f) :
    Calls Try.prog 11 #[.agg #[.int .i64 (o : Int), .int .i64 (s : Int), .int .i64 (h : Int), .int .i64 (r : Int), .int .i64 (k : Int), .int .i64 s5], .slice (some ⟨b, off, none⟩) z cap] w fun e w' => e = .returned (.int .i64 130) ∧ Below w.heap.size w w' := by
  obtain ⟨W0, hW0, B0, K⟩ := box w (o : Int) (s : Int) (h : Int) (r : Int) (k : Int) s5
  have HB := hide B0
  have MO := hide (fun w1 => memoryOf_ok (s5 := s5) H (some ⟨b, off, none⟩) z cap hz w1)
  have IS := hide (fun (V : World) (hb : Below w.heap.size w V) => call_no (isSound_ok (b := b) (off := off) (s5 := s5) H hz hc (w := V) (hS.below hb hB) (by have := hb.size; omega) hf) hs)
  clear H hz hS hB hf hs
  obtain ⟨-, l0, x0, x1, x2, x3, x4, x5⟩ := K.out W0 (Below.refl _ _)
  clear B0
  go_enter Try.func11, Try.ntmps11
  go_upto_region 2 with (go_at_call 30; refine (MO.out _).mono ?_; rintro e w2 ⟨rfl, hb2⟩; have HB2 := hide hb2; clear hb2)
  obtain ⟨W3, hW3⟩ : ∃ W3, w2.alloc (.cells #[.int .i64 (o : Int), .int .i64 (s : Int), .int .i64 (h : Int), .int .i64 (r : Int), .int .i64 (k : Int), .int .i64 s5, .slice (some ⟨b, off, none⟩) z cap] 70) = W3 := ⟨_, rfl⟩
  have HB3 := hide (show Below w.heap.size w W3 by rw [← hW3]; exact (HB.out.trans (HB2.out.mono HB.out.size)).trans ((Below.refl _ w2).alloc (by have := HB.out.size; have := HB2.out.size; omega) _))
  have R3 : W3.rowIs w2.heap.size 70 7 (lrow [.int .i64 (o : Int), .int .i64 (s : Int), .int .i64 (h : Int), .int .i64 (r : Int), .int .i64 (k : Int), .int .i64 s5, .slice (some ⟨b, off, none⟩) z cap]) := by rw [← hW3]; exact rowL_alloc w2 [.int .i64 (o : Int), .int .i64 (s : Int), .int .i64 (h : Int), .int .i64 (r : Int), .int .i64 (k : Int), .int .i64 s5, .slice (some ⟨b, off, none⟩) z cap] _ rfl
  have d0 := R3.cell (i := 0) (by decide)
  have d1 := R3.cell (i := 1) (by decide)
  have d2 := R3.cell (i := 2) (by decide)
  have d3 := R3.cell (i := 3) (by decide)
  have d4 := R3.cell (i := 4) (by decide)
  have d5 := R3.cell (i := 5) (by decide)
  have d6 := R3.cell (i := 6) (by decide)
  simp only [lrow] at d0 d1 d2 d3 d4 d5 d6
  simp only [hW3]
  clear hW3 R3
  go_wp2_with (go_at_call 35; refine (IS.out _ HB3.out).mono ?_; rintro e w4 ⟨rfl, hb4⟩; have HB4 := hide hb4; clear hb4)
  go_ret
  exact ⟨rfl, HB3.out.trans (HB4.out.mono HB3.out.size)⟩
end Vw
end Go.Proofs.Ytbffhfmhjnflbaa
