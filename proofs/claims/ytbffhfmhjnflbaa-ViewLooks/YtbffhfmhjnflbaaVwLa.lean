/-
  View: ViewLooks: the errors of Check, the document's Check
-/
import Derived.Test.YtbffhfmhjnflbaaVwRw
import Derived.Test.YtbffhfmhjnflbaaVwQ
import Derived.Test.YtbffhfmhjnflbaaVwSq
namespace Go.Proofs.Ytbffhfmhjnflbaa
open Go.RowKit
set_option linter.unusedVariables false
set_option linter.unusedSimpArgs false
set_option linter.unnecessarySimpa false
set_option maxRecDepth 20000
namespace Vw
open Shape

theorem Szs.of {c : Cv} (h : c.Ok) (hn : c.na ≤ 70000) : Szs c := ⟨hn, h.nr, h.rn, h.nw, h.no, h.ns, h.fr, h.gr, h.qu⟩
theorem cv0_ok : cv0.Ok := by
  refine ⟨?_, ?_, ?_, ?_, ?_, ?_, ?_, ?_, ?_, ?_, ?_, ?_⟩ <;> simp [cv0]
set_option maxHeartbeats 2000000 in
theorem check_err {s0 s1 s2 s3 s4 s5 er : Int} {ao : Option Addr} {n cap : Nat} {w : World} (MO : Hid (∀ w1, Calls Try.prog 30 #[.agg #[.int .i64 s0, .int .i64 s1, .int .i64 s2, .int .i64 s3, .int .i64 s4, .int .i64 s5], .slice ao n cap] w1 fun e w' => e = .returned (.tuple #[.agg #[.int .i64 0, .int .i64 0, .int .i64 0, .int .i64 0, .int .i64 0, .int .i64 0, .slice none 0 0], .int .i64 er]) ∧ Below w1.heap.size w1 w')) (he : (er != 0) = true) : Calls Try.prog 11 #[.agg #[.int .i64 s0, .int .i64 s1, .int .i64 s2, .int .i64 s3, .int .i64 s4, .int .i64 s5], .slice ao n cap] w fun e w' => e = .returned (.int .i64 er) ∧ Below w.heap.size w w' := by
  obtain ⟨W0, hW0, B0, K⟩ := box w s0 s1 s2 s3 s4 s5
  have HB := hide B0
  obtain ⟨-, l0, x0, x1, x2, x3, x4, x5⟩ := K.out W0 (Below.refl _ _)
  clear B0
  go_enter Try.func11, Try.ntmps11
  go_wp2_with (go_at_call 30; refine (MO.out _).mono ?_; rintro e w2 ⟨rfl, hb2⟩; have HB2 := hide (HB.out.trans (hb2.mono HB.out.size)); clear hb2)
  go_ret
  exact ⟨rfl, HB2.out.alloc HB2.out.size _⟩
set_option maxHeartbeats 2000000 in
theorem rcheck_err {s0 s1 s2 s3 s4 s5 er : Int} {ao : Option Addr} {n cap : Nat} {w : World} {c : Cv} (LK : Hid (∀ w1, Below w.heap.size w w1 → Calls Try.prog 8 #[.agg #[.int .i64 s0, .int .i64 s1, .int .i64 s2, .int .i64 s3, .int .i64 s4, .int .i64 s5], .slice ao n cap] w1 fun e w' => (∃ a, e = .returned (.tuple #[vl c a, .int .i64 er]) ∧ Hid (Owns w' w1.heap.size c a)) ∧ Below w1.heap.size w1 w')) (he : (er != 0) = true) : Calls Try.prog 12 #[.agg #[.int .i64 s0, .int .i64 s1, .int .i64 s2, .int .i64 s3, .int .i64 s4, .int .i64 s5], .slice ao n cap] w fun e w' => e = .returned (.int .i64 er) ∧ Below w.heap.size w w' := by
  obtain ⟨W0, hW0, B0, K⟩ := box w s0 s1 s2 s3 s4 s5
  have HB := hide B0
  obtain ⟨-, l0, x0, x1, x2, x3, x4, x5⟩ := K.out W0 (Below.refl _ _)
  clear B0
  go_enter Try.func12, Try.ntmps12
  go_wp2_with (go_at_call 8; refine (LK.out _ HB.out).mono ?_; rintro e w2 ⟨⟨a, rfl, -⟩, hb2⟩; simp only [vl]; have HB2 := hide (HB.out.trans (hb2.mono HB.out.size)); clear hb2)
  go_ret
  exact ⟨rfl, HB2.out.alloc HB2.out.size _⟩
set_option maxHeartbeats 2000000 in
theorem rcheck_sound {s0 s1 s2 s3 s4 s5 ec : Int} {ao : Option Addr} {n cap : Nat} {w : World} {c : Cv} {so : Bool} (LK : Hid (∀ w1, Below w.heap.size w w1 → Calls Try.prog 8 #[.agg #[.int .i64 s0, .int .i64 s1, .int .i64 s2, .int .i64 s3, .int .i64 s4, .int .i64 s5], .slice ao n cap] w1 fun e w' => (∃ a, e = .returned (.tuple #[vl c a, .int .i64 0]) ∧ Hid (Owns w' w1.heap.size c a)) ∧ Below w1.heap.size w1 w')) (SO : Hid (∀ w1 a, Below w.heap.size w w1 → Shows w1 c a → Calls Try.prog 36 #[vl c a, .slice ao n cap] w1 fun e w' => e = .returned (.bool so) ∧ Below w1.heap.size w1 w')) (he : (if so then 0 else 130) = ec) : Calls Try.prog 12 #[.agg #[.int .i64 s0, .int .i64 s1, .int .i64 s2, .int .i64 s3, .int .i64 s4, .int .i64 s5], .slice ao n cap] w fun e w' => e = .returned (.int .i64 ec) ∧ Below w.heap.size w w' := by
  obtain ⟨W0, hW0, B0, K⟩ := box w s0 s1 s2 s3 s4 s5
  have HB := hide B0
  obtain ⟨-, l0, x0, x1, x2, x3, x4, x5⟩ := K.out W0 (Below.refl _ _)
  clear B0
  have HE := hide he
  clear he
  go_enter Try.func12, Try.ntmps12
  go_upto_region 2 with (go_at_call 8; refine (LK.out _ HB.out).mono ?_; rintro e w2 ⟨⟨a, rfl, HO⟩, hb2⟩; simp only [vl]; have HB2 := hide (HB.out.trans (hb2.mono HB.out.size)); clear hb2)
  obtain ⟨W3, hW3⟩ : ∃ W3, w2.alloc (.cells #[.int .i64 c.ph, .int .i64 c.co, .int .u64 c.ro, .slice a.aa c.na a.ca, .slice a.ra c.nr a.cr, .slice a.wa c.nw a.cw, .slice a.oa c.no a.cb, .slice a.fa c.fr.length a.cf, .slice a.ga c.gr.length a.cg, .slice a.qa c.qu.length a.cq, .int .u64 (c.cn 0), .int .u64 (c.cn 1), .int .u64 (c.cn 2), .int .u64 (c.cn 3)] 33) = W3 := ⟨_, rfl⟩
  have B3 : Below w2.heap.size w2 W3 := by rw [← hW3]; exact (Below.refl _ _).alloc (Nat.le_refl _) _
  have R3 : W3.rowIs w2.heap.size 33 14 (lrow [.int .i64 c.ph, .int .i64 c.co, .int .u64 c.ro, .slice a.aa c.na a.ca, .slice a.ra c.nr a.cr, .slice a.wa c.nw a.cw, .slice a.oa c.no a.cb, .slice a.fa c.fr.length a.cf, .slice a.ga c.gr.length a.cg, .slice a.qa c.qu.length a.cq, .int .u64 (c.cn 0), .int .u64 (c.cn 1), .int .u64 (c.cn 2), .int .u64 (c.cn 3)]) := by rw [← hW3]; exact rowL_alloc w2 [.int .i64 c.ph, .int .i64 c.co, .int .u64 c.ro, .slice a.aa c.na a.ca, .slice a.ra c.nr a.cr, .slice a.wa c.nw a.cw, .slice a.oa c.no a.cb, .slice a.fa c.fr.length a.cf, .slice a.ga c.gr.length a.cg, .slice a.qa c.qu.length a.cq, .int .u64 (c.cn 0), .int .u64 (c.cn 1), .int .u64 (c.cn 2), .int .u64 (c.cn 3)] _ rfl
  have HB3 := hide (HB2.out.trans (B3.mono HB2.out.size))
  have SH := hide (HO.out.below B3).shows
  have SO2 := hide (SO.out W3 a HB3.out SH.out)
  simp only [vl] at SO2
  have d0 := R3.cell (i := 0) (by decide)
  have d1 := R3.cell (i := 1) (by decide)
  have d2 := R3.cell (i := 2) (by decide)
  have d3 := R3.cell (i := 3) (by decide)
  have d4 := R3.cell (i := 4) (by decide)
  have d5 := R3.cell (i := 5) (by decide)
  have d6 := R3.cell (i := 6) (by decide)
  have d7 := R3.cell (i := 7) (by decide)
  have d8 := R3.cell (i := 8) (by decide)
  have d9 := R3.cell (i := 9) (by decide)
  have d10 := R3.cell (i := 10) (by decide)
  have d11 := R3.cell (i := 11) (by decide)
  have d12 := R3.cell (i := 12) (by decide)
  have d13 := R3.cell (i := 13) (by decide)
  simp only [lrow] at d0 d1 d2 d3 d4 d5 d6 d7 d8 d9 d10 d11 d12 d13
  try simp only [hW3]
  clear hW3 R3 B3 HO SH LK SO
  have he2 := HE.out
  cases so with
  | true =>
    simp only [if_true] at he2
    subst he2
    go_wp2_with (go_at_call 36; refine SO2.out.mono ?_; rintro e w4 ⟨rfl, hb4⟩; have HB4 := hide (HB3.out.trans (hb4.mono HB3.out.size)); clear hb4)
    go_ret
    exact ⟨rfl, HB4.out⟩
  | false =>
    simp only [Bool.false_eq_true, if_false] at he2
    subst he2
    go_wp2_with (go_at_call 36; refine SO2.out.mono ?_; rintro e w4 ⟨rfl, hb4⟩; have HB4 := hide (HB3.out.trans (hb4.mono HB3.out.size)); clear hb4)
    go_ret
    exact ⟨rfl, HB4.out⟩
end Vw
end Go.Proofs.Ytbffhfmhjnflbaa
