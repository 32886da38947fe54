/-
  Lemmas: VwRt, VwRu.
-/
import Derived.Test.YtecjegjnnahddaaGreatTp22
import Derived.Test.YtecjegjnnahddaaGreatTp20
/-
  View: the document's Sound is the package's
-/
namespace Go.Proofs.YtecjegjnnahddaaGreat
open Go.RowKit
set_option linter.unusedVariables false
set_option linter.unusedSimpArgs false
set_option linter.unnecessarySimpa false
set_option maxRecDepth 20000
namespace Vw
open Shape

theorem lkE_cv (x : Sh) (f : Nat → Int) (i : Nat) : lkE (cv x f) (f i) = lst x f i 1 := rfl
theorem nxE_cv (x : Sh) (f : Nat → Int) (i : Nat) : nxE (cv x f) (f i) = lst x f i 2 := rfl
theorem sound_iff {x : Sh} {f : Nat → Int} (H : x.Ok) (hf : ∀ i, i < size x → 0 ≤ f i ∧ f i < 18446744073709551616) :
    ((cv x f).ph = 0 ∧ (lkE (cv x f) (f 1)).2 = 0 ∧ (lkE (cv x f) (f 2)).2 = 0 ∧ (nxE (cv x f) (f 3)).2 = 0 ∧ (cv x f).gr = [] ∧ (∀ j, j < (cv x f).no → Pk (cv x f) j) ∧ (∀ j, j < (cv x f).nr → ∀ i, i < (cv x f).rn j → hOk (cv x f) ((cv x f).rt j i)) ∧ (∀ i, i < (cv x f).nw → hOk (cv x f) ((cv x f).wk i))) ↔ Sound x f := by
  have hc := cv_ok H hf
  rw [lkE_cv, lkE_cv, nxE_cv]
  unfold Sound
  constructor
  · rintro ⟨h1, h2, h3, h4, h5, h6, h7, h8⟩
    refine ⟨h1, ⟨h2, h3, h4⟩, h5, fun j hj => (h6 j hj).1, fun i hi => ?_, ⟨h8, h7, fun j hj => (h6 j hj).2.2⟩⟩
    have hr := hc.qr i hi
    obtain ⟨j, rfl⟩ : ∃ j : Nat, i = (j : Int) + 1 := ⟨i.toNat - 1, by omega⟩
    exact (h6 j (by omega)).2.1 hi
  · rintro ⟨h1, ⟨h2, h3, h4⟩, h5, h6, h7, h8⟩
    exact ⟨h1, h2, h3, h4, h5, fun j hj => ⟨h6 j hj, fun hq => h7 _ hq, h8.ob j hj⟩, h8.rt, h8.wk⟩
theorem cv_links {x : Sh} {f : Nat → Int} (H : x.Ok) (hf : ∀ i, i < size x → 0 ≤ f i ∧ f i < 18446744073709551616) : ∀ j, j < (cv x f).no → (0 ≤ ((cv x f).ob j).lk ∧ ((cv x f).ob j).lk < 18446744073709551616) ∧ 0 ≤ ((cv x f).ob j).nx ∧ ((cv x f).ob j).nx < 18446744073709551616 := by
  intro j hj
  simp only [cv, obAt] at hj ⊢
  have h1 := (at_obj H hj).1
  simp only [ow] at h1
  exact ⟨hf _ (by simp only [pO, ow] at h1 ⊢; omega), hf _ (by simp only [pO, ow] at h1 ⊢; omega)⟩
end Vw
end Go.Proofs.YtecjegjnnahddaaGreat

/-
  View: the document's Look of a wrong shape and of a wrong length
-/
namespace Go.Proofs.YtecjegjnnahddaaGreat
open Go.RowKit
set_option linter.unusedVariables false
set_option linter.unusedSimpArgs false
set_option linter.unnecessarySimpa false
set_option maxRecDepth 20000
namespace Vw
open Shape

set_option maxHeartbeats 4000000 in
theorem rlook_bad {s0 s1 s2 s3 s4 s5 : Int} (H : ¬ R5 s0 s1 s2 s3 s4) (ao : Option Addr) (n cap : Nat) (w : World) : Calls Tryz.prog 19 #[.agg #[.int .i64 s0, .int .i64 s1, .int .i64 s2, .int .i64 s3, .int .i64 s4, .int .i64 s5], .slice ao n cap] w fun e w' => e = .returned (.tuple #[vl cv0 av0, .int .i64 120]) ∧ Below w.heap.size w w' := by
  have CH := hide (fun w1 => rcheck_bad (s5 := s5) H w1)
  clear H
  obtain ⟨W0, hW0, B0, K⟩ := box w s0 s1 s2 s3 s4 s5
  obtain ⟨W1, hW1⟩ : ∃ W1, W0.alloc (.cells #[.int .i64 0, .int .i64 0, .int .u64 0, .slice none 0 0, .slice none 0 0, .slice none 0 0, .slice none 0 0, .slice none 0 0, .slice none 0 0, .slice none 0 0, .int .u64 0, .int .u64 0, .int .u64 0, .int .u64 0] 31) = W1 := ⟨_, rfl⟩
  have B1 : Below W0.heap.size W0 W1 := by rw [← hW1]; exact (Below.refl _ W0).alloc (Nat.le_refl _) _
  have HB1 := hide B1
  have R1 : W1.rowIs W0.heap.size 31 14 (lrow [.int .i64 0, .int .i64 0, .int .u64 0, .slice none 0 0, .slice none 0 0, .slice none 0 0, .slice none 0 0, .slice none 0 0, .slice none 0 0, .slice none 0 0, .int .u64 0, .int .u64 0, .int .u64 0, .int .u64 0]) := by rw [← hW1]; exact rowL_alloc W0 [.int .i64 0, .int .i64 0, .int .u64 0, .slice none 0 0, .slice none 0 0, .slice none 0 0, .slice none 0 0, .slice none 0 0, .slice none 0 0, .slice none 0 0, .int .u64 0, .int .u64 0, .int .u64 0, .int .u64 0] _ rfl
  have HR1 := hide R1
  obtain ⟨-, l0, x0, x1, x2, x3, x4, x5⟩ := K.out W1 B1
  have l1 : W0.heap.size < W1.heap.size := R1.lt
  have HB := hide B0
  have l2 : w.heap.size < W0.heap.size := (K.out W0 (Below.refl _ _)).2.1
  clear B0 B1 R1
  go_enter Tryz.func19, Tryz.ntmps19
  go_upto_region 3 with (go_at_call 15; refine (CH.out _).mono ?_; rintro e W3 ⟨rfl, hb3⟩; have HB3 := hide hb3; clear hb3)
  have RA := row_on HR1.out HB3.out
  have d0 := RA.cell (i := 0) (by decide)
  have d1 := RA.cell (i := 1) (by decide)
  have d2 := RA.cell (i := 2) (by decide)
  have d3 := RA.cell (i := 3) (by decide)
  have d4 := RA.cell (i := 4) (by decide)
  have d5 := RA.cell (i := 5) (by decide)
  have d6 := RA.cell (i := 6) (by decide)
  have d7 := RA.cell (i := 7) (by decide)
  have d8 := RA.cell (i := 8) (by decide)
  have d9 := RA.cell (i := 9) (by decide)
  have d10 := RA.cell (i := 10) (by decide)
  have d11 := RA.cell (i := 11) (by decide)
  have d12 := RA.cell (i := 12) (by decide)
  have d13 := RA.cell (i := 13) (by decide)
  have fd : ∀ i, W3.frozen? ⟨W0.heap.size, i, none⟩ = false := fun i => RA.frozen i
  simp only [lrow] at d0 d1 d2 d3 d4 d5 d6 d7 d8 d9 d10 d11 d12 d13
  clear RA
  go_wp2_with fail
  refine bodyPost_ret (v := .tuple #[.agg #[.int .i64 0, .int .i64 0, .int .u64 0, .slice none 0 0, .slice none 0 0, .slice none 0 0, .slice none 0 0, .slice none 0 0, .slice none 0 0, .slice none 0 0, .int .u64 0, .int .u64 0, .int .u64 0, .int .u64 0], .int .i64 120]) (by simp [results, Tryz.results19, go_sem, *]) rfl ⟨rfl, ?_⟩
  repeat' refine Below.setCell ?_ (by simp only; omega) _
  exact (K.out W3 (HB1.out.trans (HB3.out.mono HB1.out.size))).1


set_option maxHeartbeats 4000000 in
theorem rlook_len {o s h r k : Nat} {s5 : Int} (H : (⟨o, s, h, r, k⟩ : Sh).Ok) (ao : Option Addr) (n cap : Nat) (hn : ¬ n = size ⟨o, s, h, r, k⟩) (w : World) : Calls Tryz.prog 19 #[.agg #[.int .i64 (o : Int), .int .i64 (s : Int), .int .i64 (h : Int), .int .i64 (r : Int), .int .i64 (k : Int), .int .i64 s5], .slice ao n cap] w fun e w' => e = .returned (.tuple #[vl cv0 av0, .int .i64 121]) ∧ Below w.heap.size w w' := by
  have CH := hide (fun w1 => rcheck_ok (s5 := s5) (r5 H) w1)
  have SZ := hide (fun w1 => rsize_ok (s5 := s5) H w1)
  obtain ⟨z, hz⟩ : ∃ z, size ⟨o, s, h, r, k⟩ = z := ⟨_, rfl⟩
  rw [hz] at SZ hn
  have hnz : ((n : Int) != (z : Int)) = true := by simp; omega
  clear H hz hn
  obtain ⟨W0, hW0, B0, K⟩ := box w (o : Int) (s : Int) (h : Int) (r : Int) (k : Int) s5
  obtain ⟨W1, hW1⟩ : ∃ W1, W0.alloc (.cells #[.int .i64 0, .int .i64 0, .int .u64 0, .slice none 0 0, .slice none 0 0, .slice none 0 0, .slice none 0 0, .slice none 0 0, .slice none 0 0, .slice none 0 0, .int .u64 0, .int .u64 0, .int .u64 0, .int .u64 0] 31) = W1 := ⟨_, rfl⟩
  have B1 : Below W0.heap.size W0 W1 := by rw [← hW1]; exact (Below.refl _ W0).alloc (Nat.le_refl _) _
  have HB1 := hide B1
  have R1 : W1.rowIs W0.heap.size 31 14 (lrow [.int .i64 0, .int .i64 0, .int .u64 0, .slice none 0 0, .slice none 0 0, .slice none 0 0, .slice none 0 0, .slice none 0 0, .slice none 0 0, .slice none 0 0, .int .u64 0, .int .u64 0, .int .u64 0, .int .u64 0]) := by rw [← hW1]; exact rowL_alloc W0 [.int .i64 0, .int .i64 0, .int .u64 0, .slice none 0 0, .slice none 0 0, .slice none 0 0, .slice none 0 0, .slice none 0 0, .slice none 0 0, .slice none 0 0, .int .u64 0, .int .u64 0, .int .u64 0, .int .u64 0] _ rfl
  have HR1 := hide R1
  obtain ⟨-, l0, x0, x1, x2, x3, x4, x5⟩ := K.out W1 B1
  have l1 : W0.heap.size < W1.heap.size := R1.lt
  have HB := hide B0
  have l2 : w.heap.size < W0.heap.size := (K.out W0 (Below.refl _ _)).2.1
  clear B0 B1 R1
  go_enter Tryz.func19, Tryz.ntmps19
  go_upto_region 6 with (first | (go_at_call 15; refine (CH.out _).mono ?_; rintro e W2 ⟨rfl, hb3⟩; have HB2 := hide hb3; obtain ⟨-, m0, y0, y1, y2, y3, y4, y5⟩ := K.out W2 (HB1.out.trans (hb3.mono HB1.out.size)); clear hb3) | (go_at_call 33; refine (SZ.out _).mono ?_; rintro e W3 ⟨rfl, hb3⟩; have HB3 := hide (HB2.out.trans (hb3.mono HB2.out.size)); clear hb3))
  have RA := row_on HR1.out HB3.out
  have d0 := RA.cell (i := 0) (by decide)
  have d1 := RA.cell (i := 1) (by decide)
  have d2 := RA.cell (i := 2) (by decide)
  have d3 := RA.cell (i := 3) (by decide)
  have d4 := RA.cell (i := 4) (by decide)
  have d5 := RA.cell (i := 5) (by decide)
  have d6 := RA.cell (i := 6) (by decide)
  have d7 := RA.cell (i := 7) (by decide)
  have d8 := RA.cell (i := 8) (by decide)
  have d9 := RA.cell (i := 9) (by decide)
  have d10 := RA.cell (i := 10) (by decide)
  have d11 := RA.cell (i := 11) (by decide)
  have d12 := RA.cell (i := 12) (by decide)
  have d13 := RA.cell (i := 13) (by decide)
  have fd : ∀ i, W3.frozen? ⟨W0.heap.size, i, none⟩ = false := fun i => RA.frozen i
  simp only [lrow] at d0 d1 d2 d3 d4 d5 d6 d7 d8 d9 d10 d11 d12 d13
  clear RA
  go_wp2_with fail
  refine bodyPost_ret (v := .tuple #[.agg #[.int .i64 0, .int .i64 0, .int .u64 0, .slice none 0 0, .slice none 0 0, .slice none 0 0, .slice none 0 0, .slice none 0 0, .slice none 0 0, .slice none 0 0, .int .u64 0, .int .u64 0, .int .u64 0, .int .u64 0], .int .i64 121]) (by simp [results, Tryz.results19, go_sem, *]) rfl ⟨rfl, ?_⟩
  repeat' refine Below.setCell ?_ (by simp only; omega) _
  exact (K.out W3 (HB1.out.trans (HB3.out.mono HB1.out.size))).1

end Vw
end Go.Proofs.YtecjegjnnahddaaGreat
