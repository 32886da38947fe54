/-
  View: the document's Good
-/
import Derived.Test.YtbffhfmhjnflbaaVwRa
namespace Go.Proofs.Ytbffhfmhjnflbaa
open Go.RowKit
set_option linter.unusedVariables false
set_option linter.unusedSimpArgs false
set_option linter.unnecessarySimpa false
set_option maxRecDepth 20000
namespace Vw
open Shape
theorem good13 {c : Cv} {a : Av} {w : World} (hS : Shows w c a) (hc : c.Ok) {u : Int} (h0 : 0 ≤ u) (h1 : u < 18446744073709551616) : Calls Try.prog 90 #[vl c a, .int .u64 u] w fun e w' => Tells e (good c u) ∧ Below w.heap.size w w' := by
  obtain ⟨aa, ca, ra, cr, wa, cw, oa, cb, fa, cf, ga, cg, qa, cq⟩ := a
  simp only [vl]
  have HS := hide hS
  have HC := hide hc
  have hno := hc.no
  clear hS hc
  obtain ⟨W0, hW0, B0, R0⟩ := vbox w c ⟨aa, ca, ra, cr, wa, cw, oa, cb, fa, cf, ga, cg, qa, cq⟩
  simp only at hW0 R0
  have HB := hide B0
  have HR := hide R0
  have l0 : w.heap.size < W0.heap.size := R0.lt

  have c6 : W0.cell? ⟨w.heap.size, 6, none⟩ = some (.slice oa c.no cb) := R0.cell (i := 6) (by decide)
  clear B0 R0
  have IX := hide (fun w1 => index_ref u h0 h1 w1)
  have GX := hide (fun w1 => gen_ref u h0 h1 w1)
  obtain ⟨x, hx⟩ : ∃ x, u % 4294967296 = x := ⟨_, rfl⟩
  obtain ⟨y, hy⟩ : ∃ y, u / 4294967296 = y := ⟨_, rfl⟩
  have hx0 : 0 ≤ x ∧ x < 4294967296 := by omega
  rw [hx] at IX
  rw [hy] at GX
  have GD := hide (show good c u ↔ 1 ≤ x ∧ x ≤ (c.no : Int) ∧ (c.ob (x.toNat - 1)).us = true ∧ (c.ob (x.toNat - 1)).ge = y by unfold good; rw [hx, hy])
  clear hx hy h0 h1
  by_cases q1 : 1 ≤ x
  · by_cases q2 : x ≤ (c.no : Int)
    · obtain ⟨k, rfl⟩ : ∃ k : Nat, x = (k : Int) + 1 := ⟨x.toNat - 1, by omega⟩
      have hko : k < c.no := by omega
      have hko2 : (k : Int) < (c.no : Int) := by omega
      have Sw := HS.out.below HB.out
      obtain ⟨b, off, ai, ci, hoa, hbl, hoc, hse⟩ := Sw.ob k hko
      simp only at hoa
      subst hoa
      cases hobx : c.ob k with
      | mk us li fi ta ag ge lk nx ns sl =>
      simp only [hobx] at hoc
      simp only [Ob.cell] at hoc
      have o0 : W0.cell? ⟨b, off + k * 9, none⟩ = some (.bool us) := by simpa using hoc 0 (by decide)
      have o1 : W0.cell? ⟨b, off + k * 9 + 1, none⟩ = some (.bool li) := by simpa using hoc 1 (by decide)
      have o2 : W0.cell? ⟨b, off + k * 9 + 2, none⟩ = some (.bool fi) := by simpa using hoc 2 (by decide)
      have o3 : W0.cell? ⟨b, off + k * 9 + 3, none⟩ = some (.bool ta) := by simpa using hoc 3 (by decide)
      have o4 : W0.cell? ⟨b, off + k * 9 + 4, none⟩ = some (.int .i64 ag) := by simpa using hoc 4 (by decide)
      have o5 : W0.cell? ⟨b, off + k * 9 + 5, none⟩ = some (.int .u64 ge) := by simpa using hoc 5 (by decide)
      have o6 : W0.cell? ⟨b, off + k * 9 + 6, none⟩ = some (.int .u64 lk) := by simpa using hoc 6 (by decide)
      have o7 : W0.cell? ⟨b, off + k * 9 + 7, none⟩ = some (.int .u64 nx) := by simpa using hoc 7 (by decide)
      have o8 : W0.cell? ⟨b, off + k * 9 + 8, none⟩ = some (.slice ai ns ci) := by simpa using hoc 8 (by decide)

      have IFF := hide (show good c u ↔ us = true ∧ ge = y by
        rw [GD.out, show ((k : Int) + 1).toNat - 1 = k by omega, hobx]
        constructor
        · intro h; exact h.2.2
        · intro h; exact ⟨q1, q2, h⟩)
      have l1 : 1 ≤ (k : Int) + 1 := by omega
      have l2 : (k : Int) + 1 ≤ (c.no : Int) := by omega
      have l3 : IntKind.i64.wrap (k : Int) = (k : Int) := by rw [IntKind.wrap_i64]; omega
      clear hobx hoc hse Sw
      go_enter Try.func90, Try.ntmps90
      go_upto_region 2 with (go_at_call 48; refine (IX.out _).mono ?_; rintro e w1 ⟨rfl, hq⟩; obtain rfl := hq.symm; clear hq)
      cases us
      · have NO := hide (show ¬ good c u from fun h => absurd (IFF.out.1 h).1 (by simp))
        go_quiet (fail)
        go_wp2
        go_ret
        exact ⟨Tells.no NO.out, below_drewN HB.out _⟩
      · by_cases hg : ge = y
        · have hg2 : (ge == y) = true := by simp [hg]
          have YES := hide (IFF.out.2 ⟨rfl, hg⟩)
          clear IFF hg
          go_quiet ((go_at_call 104; exact Calls.quiet_of_same (GX.out _)))
          go_wp2
          go_ret
          exact ⟨Tells.yes YES.out, below_drewN HB.out _⟩
        · have hg2 : (ge == y) = false := by simp [hg]
          have NO := hide (show ¬ good c u from fun h => hg (IFF.out.1 h).2)
          clear IFF hg
          go_quiet ((go_at_call 104; exact Calls.quiet_of_same (GX.out _)))
          go_wp2
          go_ret
          exact ⟨Tells.no NO.out, below_drewN HB.out _⟩
    · have NO := hide (show ¬ good c u from fun h => q2 (GD.out.1 h).2.1)
      have d2 : decide (x ≤ (c.no : Int)) = false := by simp only [decide_eq_false_iff_not]; exact q2
      have q2 := hide q2
      go_enter Try.func90, Try.ntmps90
      go_upto_region 2 with (go_at_call 48; refine (IX.out _).mono ?_; rintro e w1 ⟨rfl, hq⟩; obtain rfl := hq.symm; clear hq)
      go_quiet (fail)
      go_wp2
      go_ret
      exact ⟨Tells.no NO.out, below_drewN HB.out _⟩
  · have NO := hide (show ¬ good c u from fun h => q1 (GD.out.1 h).1)
    have d1 : decide (1 ≤ x) = false := by simp only [decide_eq_false_iff_not]; exact q1
    have q1 := hide q1
    go_enter Try.func90, Try.ntmps90
    go_upto_region 2 with (go_at_call 48; refine (IX.out _).mono ?_; rintro e w1 ⟨rfl, hq⟩; obtain rfl := hq.symm; clear hq)
    go_quiet (fail)
    go_wp2
    go_ret
    exact ⟨Tells.no NO.out, below_drewN HB.out _⟩
end Vw
end Go.Proofs.Ytbffhfmhjnflbaa
