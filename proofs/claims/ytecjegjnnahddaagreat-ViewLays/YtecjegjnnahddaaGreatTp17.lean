/-
  Lemmas: VwF.
-/
import Derived.Test.YtecjegjnnahddaaGreatTp16
/-
  View: the package's Look.
-/
namespace Go.Proofs.YtecjegjnnahddaaGreat
open Go.RowKit
set_option linter.unusedVariables false
set_option linter.unusedSimpArgs false
set_option linter.unnecessarySimpa false
set_option maxRecDepth 20000
namespace Vw
open Shape

/-- The view of nothing. -/
def cv0 : Cv := ⟨0, 0, 0, 0, fun _ => 0, 0, fun _ => 0, fun _ _ => 0, 0, fun _ => 0, 0, fun _ => ⟨false, false, false, false, 0, 0, 0, 0, 0, fun _ => 0⟩, [], [], [], fun _ => 0⟩
def av0 : Av := ⟨none, 0, none, 0, none, 0, none, 0, none, 0, none, 0, none, 0⟩
theorem owns0 (w : World) (lo : Nat) : Owns w lo cv0 av0 := ⟨World.ownsRow_nil _ _ _ _, ⟨[], World.ownsRow_nil _ _ _ _, fun j hj => absurd hj (by simp [cv0])⟩, World.ownsRow_nil _ _ _ _, ⟨[], World.ownsRow_nil _ _ _ _, fun j hj => absurd hj (by simp [cv0])⟩, World.ownsRow_nil _ _ _ _, World.ownsRow_nil _ _ _ _, World.ownsRow_nil _ _ _ _⟩
theorem Owns.low {w : World} {base lo : Nat} {c : Cv} {a : Av} (h : Owns w base c a) (hl : lo ≤ base) : Owns w lo c a := by
  refine ⟨owns_low h.ac hl, ?_, owns_low h.wk hl, ?_, owns_low h.fr hl, owns_low h.gr hl, owns_low h.qu hl⟩
  · obtain ⟨rs, h1, h2⟩ := h.rt
    exact ⟨rs, owns_low h1 hl, fun j hj => by obtain ⟨ai, ci, h3, h4⟩ := h2 j hj; exact ⟨ai, ci, h3, owns_low h4 hl⟩⟩
  · obtain ⟨os, h1, h2⟩ := h.ob
    exact ⟨os, owns_low h1 hl, fun j hj => by obtain ⟨ai, ci, h3, h4⟩ := h2 j hj; exact ⟨ai, ci, h3, owns_low h4 hl⟩⟩
theorem Owns.set {w : World} {lo : Nat} {c : Cv} {a : Av} (h : Owns w lo c a) {ad : Addr} (hl : ad.block < lo) (u : Value) : Owns (w.setCell ad u) lo c a := h.keep (fun b _ h2 => Below.heap_setCell _ _ _ _ (by omega))
theorem below_allocs {w : World} (o1 o2 : Obj) : Below w.heap.size w ((w.alloc o1).alloc o2) := ((Below.refl _ w).alloc (Nat.le_refl _) _).alloc (by simp) _


set_option maxHeartbeats 1000000 in
theorem memoryOf_bad {s0 s1 s2 s3 s4 s5 : Int} (H : ¬ R5 s0 s1 s2 s3 s4) (ao : Option Addr) (n cap : Nat) (w : World) : Calls Tryz.prog 28 #[.agg #[.int .i64 s0, .int .i64 s1, .int .i64 s2, .int .i64 s3, .int .i64 s4, .int .i64 s5], .slice ao n cap] w fun e w' => e = .returned (.tuple #[.agg #[.int .i64 0, .int .i64 0, .int .i64 0, .int .i64 0, .int .i64 0, .int .i64 0, .slice none 0 0], .int .i64 120]) ∧ Below w.heap.size w w' := by
  have SZ := hide (fun w1 => size_bad (s5 := s5) H w1)
  clear H
  obtain ⟨W0, hW0, B0, K⟩ := box w s0 s1 s2 s3 s4 s5
  obtain ⟨W1, hW1⟩ : ∃ W1, W0.alloc (.cells #[.int .i64 0, .int .i64 0, .int .i64 0, .int .i64 0, .int .i64 0, .int .i64 0, .slice none 0 0] 59) = W1 := ⟨_, rfl⟩
  have B1 : Below W0.heap.size W0 W1 := by rw [← hW1]; exact (Below.refl _ W0).alloc (Nat.le_refl _) _
  have HB1 := hide B1
  have R1 : W1.rowIs W0.heap.size 59 7 (lrow [.int .i64 0, .int .i64 0, .int .i64 0, .int .i64 0, .int .i64 0, .int .i64 0, .slice none 0 0]) := by rw [← hW1]; exact rowL_alloc W0 [.int .i64 0, .int .i64 0, .int .i64 0, .int .i64 0, .int .i64 0, .int .i64 0, .slice none 0 0] _ rfl
  have HR1 := hide R1
  obtain ⟨-, l0, x0, x1, x2, x3, x4, x5⟩ := K.out W1 B1
  have l1 : W0.heap.size < W1.heap.size := R1.lt
  have HB := hide B0
  have l2 : w.heap.size < W0.heap.size := (K.out W0 (Below.refl _ _)).2.1
  clear B0 B1 R1
  go_enter Tryz.func28, Tryz.ntmps28
  go_wp2_with (go_at_call 21; refine (SZ.out _).mono ?_; rintro e w2 ⟨rfl, hb2⟩; have HB2 := hide hb2; clear hb2; have R2 := row_on HR1.out HB2.out; have d0 := R2.cell (i := 0) (by decide); have d1 := R2.cell (i := 1) (by decide); have d2 := R2.cell (i := 2) (by decide); have d3 := R2.cell (i := 3) (by decide); have d4 := R2.cell (i := 4) (by decide); have d5 := R2.cell (i := 5) (by decide); have d6 := R2.cell (i := 6) (by decide); have fd : ∀ i, w2.frozen? ⟨W0.heap.size, i, none⟩ = false := fun i => R2.frozen i; clear R2; simp only [lrow] at d0 d1 d2 d3 d4 d5 d6; obtain ⟨-, -, y0, y1, y2, y3, y4, y5⟩ := K.out w2 (HB1.out.trans (HB2.out.mono HB1.out.size)))
  refine bodyPost_ret (v := .tuple #[.agg #[.int .i64 0, .int .i64 0, .int .i64 0, .int .i64 0, .int .i64 0, .int .i64 0, .slice none 0 0], .int .i64 120]) (by simp [results, Tryz.results28, go_sem, *]) rfl ⟨rfl, ?_⟩
  repeat' refine Below.setCell ?_ (by simp only; omega) _
  exact (K.out w2 (HB1.out.trans (HB2.out.mono HB1.out.size))).1

set_option maxHeartbeats 1000000 in
theorem memoryOf_len {o s h r k : Nat} {s5 : Int} (H : (⟨o, s, h, r, k⟩ : Sh).Ok) (ao : Option Addr) (n cap : Nat) (hn : ¬ n = size ⟨o, s, h, r, k⟩) (w : World) : Calls Tryz.prog 28 #[.agg #[.int .i64 (o : Int), .int .i64 (s : Int), .int .i64 (h : Int), .int .i64 (r : Int), .int .i64 (k : Int), .int .i64 s5], .slice ao n cap] w fun e w' => e = .returned (.tuple #[.agg #[.int .i64 0, .int .i64 0, .int .i64 0, .int .i64 0, .int .i64 0, .int .i64 0, .slice none 0 0], .int .i64 121]) ∧ Below w.heap.size w w' := by
  have SZ := hide (fun w1 => size_ok (s5 := s5) H w1)
  obtain ⟨z, hz⟩ : ∃ z, size ⟨o, s, h, r, k⟩ = z := ⟨_, rfl⟩
  rw [hz] at SZ hn
  have hn2 : ¬ (n : Int) = (z : Int) := by omega
  clear H hz
  obtain ⟨W0, hW0, B0, K⟩ := box w (o : Int) (s : Int) (h : Int) (r : Int) (k : Int) s5
  obtain ⟨W1, hW1⟩ : ∃ W1, W0.alloc (.cells #[.int .i64 0, .int .i64 0, .int .i64 0, .int .i64 0, .int .i64 0, .int .i64 0, .slice none 0 0] 59) = W1 := ⟨_, rfl⟩
  have B1 : Below W0.heap.size W0 W1 := by rw [← hW1]; exact (Below.refl _ W0).alloc (Nat.le_refl _) _
  have HB1 := hide B1
  have R1 : W1.rowIs W0.heap.size 59 7 (lrow [.int .i64 0, .int .i64 0, .int .i64 0, .int .i64 0, .int .i64 0, .int .i64 0, .slice none 0 0]) := by rw [← hW1]; exact rowL_alloc W0 [.int .i64 0, .int .i64 0, .int .i64 0, .int .i64 0, .int .i64 0, .int .i64 0, .slice none 0 0] _ rfl
  have HR1 := hide R1
  obtain ⟨-, l0, x0, x1, x2, x3, x4, x5⟩ := K.out W1 B1
  have l1 : W0.heap.size < W1.heap.size := R1.lt
  have HB := hide B0
  have l2 : w.heap.size < W0.heap.size := (K.out W0 (Below.refl _ _)).2.1
  clear B0 B1 R1
  go_enter Tryz.func28, Tryz.ntmps28
  go_wp2_with (go_at_call 21; refine (SZ.out _).mono ?_; rintro e w2 ⟨rfl, hb2⟩; have HB2 := hide hb2; clear hb2; have R2 := row_on HR1.out HB2.out; have d0 := R2.cell (i := 0) (by decide); have d1 := R2.cell (i := 1) (by decide); have d2 := R2.cell (i := 2) (by decide); have d3 := R2.cell (i := 3) (by decide); have d4 := R2.cell (i := 4) (by decide); have d5 := R2.cell (i := 5) (by decide); have d6 := R2.cell (i := 6) (by decide); have fd : ∀ i, w2.frozen? ⟨W0.heap.size, i, none⟩ = false := fun i => R2.frozen i; clear R2; simp only [lrow] at d0 d1 d2 d3 d4 d5 d6; obtain ⟨-, -, y0, y1, y2, y3, y4, y5⟩ := K.out w2 (HB1.out.trans (HB2.out.mono HB1.out.size)))
  refine bodyPost_ret (v := .tuple #[.agg #[.int .i64 0, .int .i64 0, .int .i64 0, .int .i64 0, .int .i64 0, .int .i64 0, .slice none 0 0], .int .i64 121]) (by simp [results, Tryz.results28, go_sem, *]) rfl ⟨rfl, ?_⟩
  repeat' refine Below.setCell ?_ (by simp only; omega) _
  exact (K.out w2 (HB1.out.trans (HB2.out.mono HB1.out.size))).1

set_option maxHeartbeats 1000000 in
theorem memoryOf_ok {o s h r k : Nat} {s5 : Int} (H : (⟨o, s, h, r, k⟩ : Sh).Ok) (ao : Option Addr) (z cap : Nat) (hz : size ⟨o, s, h, r, k⟩ = z) (w : World) : Calls Tryz.prog 28 #[.agg #[.int .i64 (o : Int), .int .i64 (s : Int), .int .i64 (h : Int), .int .i64 (r : Int), .int .i64 (k : Int), .int .i64 s5], .slice ao z cap] w fun e w' => e = .returned (.tuple #[.agg #[.int .i64 (o : Int), .int .i64 (s : Int), .int .i64 (h : Int), .int .i64 (r : Int), .int .i64 (k : Int), .int .i64 s5, .slice ao z cap], .int .i64 0]) ∧ Below w.heap.size w w' := by
  have SZ := hide (fun w1 => size_ok (s5 := s5) H w1)
  rw [hz] at SZ
  clear H hz
  obtain ⟨W0, hW0, B0, K⟩ := box w (o : Int) (s : Int) (h : Int) (r : Int) (k : Int) s5
  obtain ⟨W1, hW1⟩ : ∃ W1, W0.alloc (.cells #[.int .i64 0, .int .i64 0, .int .i64 0, .int .i64 0, .int .i64 0, .int .i64 0, .slice none 0 0] 59) = W1 := ⟨_, rfl⟩
  have B1 : Below W0.heap.size W0 W1 := by rw [← hW1]; exact (Below.refl _ W0).alloc (Nat.le_refl _) _
  have HB1 := hide B1
  have R1 : W1.rowIs W0.heap.size 59 7 (lrow [.int .i64 0, .int .i64 0, .int .i64 0, .int .i64 0, .int .i64 0, .int .i64 0, .slice none 0 0]) := by rw [← hW1]; exact rowL_alloc W0 [.int .i64 0, .int .i64 0, .int .i64 0, .int .i64 0, .int .i64 0, .int .i64 0, .slice none 0 0] _ rfl
  have HR1 := hide R1
  obtain ⟨-, l0, x0, x1, x2, x3, x4, x5⟩ := K.out W1 B1
  have l1 : W0.heap.size < W1.heap.size := R1.lt
  have HB := hide B0
  have l2 : w.heap.size < W0.heap.size := (K.out W0 (Below.refl _ _)).2.1
  clear B0 B1 R1
  go_enter Tryz.func28, Tryz.ntmps28
  go_wp2_with (go_at_call 21; refine (SZ.out _).mono ?_; rintro e w2 ⟨rfl, hb2⟩; have HB2 := hide hb2; clear hb2; have R2 := row_on HR1.out HB2.out; have d0 := R2.cell (i := 0) (by decide); have d1 := R2.cell (i := 1) (by decide); have d2 := R2.cell (i := 2) (by decide); have d3 := R2.cell (i := 3) (by decide); have d4 := R2.cell (i := 4) (by decide); have d5 := R2.cell (i := 5) (by decide); have d6 := R2.cell (i := 6) (by decide); have fd : ∀ i, w2.frozen? ⟨W0.heap.size, i, none⟩ = false := fun i => R2.frozen i; clear R2; simp only [lrow] at d0 d1 d2 d3 d4 d5 d6; obtain ⟨-, -, y0, y1, y2, y3, y4, y5⟩ := K.out w2 (HB1.out.trans (HB2.out.mono HB1.out.size)))
  refine bodyPost_ret (v := .tuple #[.agg #[.int .i64 (o : Int), .int .i64 (s : Int), .int .i64 (h : Int), .int .i64 (r : Int), .int .i64 (k : Int), .int .i64 s5, .slice ao z cap], .int .i64 0]) (by simp [results, Tryz.results28, go_sem, *]) rfl ⟨rfl, ?_⟩
  repeat' refine Below.setCell ?_ (by simp only; omega) _
  exact (K.out w2 (HB1.out.trans (HB2.out.mono HB1.out.size))).1

set_option maxHeartbeats 2000000 in
theorem look_bad {s0 s1 s2 s3 s4 s5 : Int} (H : ¬ R5 s0 s1 s2 s3 s4) (ao : Option Addr) (n cap : Nat) (w : World) : Calls Tryz.prog 11 #[.agg #[.int .i64 s0, .int .i64 s1, .int .i64 s2, .int .i64 s3, .int .i64 s4, .int .i64 s5], .slice ao n cap] w fun e w' => e = .returned (.tuple #[vl cv0 av0, .int .i64 120]) ∧ Below w.heap.size w w' := by
  have MO := hide (fun w1 => memoryOf_bad (s5 := s5) H ao n cap w1)
  clear H
  obtain ⟨W0, hW0, B0, K⟩ := box w s0 s1 s2 s3 s4 s5
  obtain ⟨W1, hW1⟩ : ∃ W1, W0.alloc (.cells #[.int .i64 0, .int .i64 0, .int .u64 0, .slice none 0 0, .slice none 0 0, .slice none 0 0, .slice none 0 0, .slice none 0 0, .slice none 0 0, .slice none 0 0, .int .u64 0, .int .u64 0, .int .u64 0, .int .u64 0] 31) = W1 := ⟨_, rfl⟩
  have B1 : Below W0.heap.size W0 W1 := by rw [← hW1]; exact (Below.refl _ W0).alloc (Nat.le_refl _) _
  have HB1 := hide B1
  have R1 : W1.rowIs W0.heap.size 31 14 (lrow [.int .i64 0, .int .i64 0, .int .u64 0, .slice none 0 0, .slice none 0 0, .slice none 0 0, .slice none 0 0, .slice none 0 0, .slice none 0 0, .slice none 0 0, .int .u64 0, .int .u64 0, .int .u64 0, .int .u64 0]) := by rw [← hW1]; exact rowL_alloc W0 [.int .i64 0, .int .i64 0, .int .u64 0, .slice none 0 0, .slice none 0 0, .slice none 0 0, .slice none 0 0, .slice none 0 0, .slice none 0 0, .slice none 0 0, .int .u64 0, .int .u64 0, .int .u64 0, .int .u64 0] _ rfl
  have HR1 := hide R1
  obtain ⟨-, l0, x0, x1, x2, x3, x4, x5⟩ := K.out W1 B1
  have l1 : W0.heap.size < W1.heap.size := R1.lt
  have HB := hide B0
  have l2 : w.heap.size < W0.heap.size := (K.out W0 (Below.refl _ _)).2.1
  clear B0 B1 R1
  go_enter Tryz.func11, Tryz.ntmps11
  go_upto_region 2 with (go_at_call 28; refine (MO.out _).mono ?_; rintro e w2 ⟨rfl, hb2⟩; have HB2 := hide hb2; clear hb2)
  obtain ⟨W3, hW3⟩ : ∃ W3, w2.alloc (.cells #[.int .i64 0, .int .i64 0, .int .i64 0, .int .i64 0, .int .i64 0, .int .i64 0, .slice none 0 0] 59) = W3 := ⟨_, rfl⟩
  have HB3 := hide (show Below W1.heap.size W1 W3 by rw [← hW3]; exact HB2.out.trans ((Below.refl _ w2).alloc HB2.out.size _))
  have R3 : W3.rowIs w2.heap.size 59 7 (lrow [.int .i64 0, .int .i64 0, .int .i64 0, .int .i64 0, .int .i64 0, .int .i64 0, .slice none 0 0]) := by rw [← hW3]; exact rowL_alloc w2 [.int .i64 0, .int .i64 0, .int .i64 0, .int .i64 0, .int .i64 0, .int .i64 0, .slice none 0 0] _ rfl
  have RA := row_on HR1.out HB3.out
  have l3 : W1.heap.size ≤ w2.heap.size := HB2.out.size
  have d0 := RA.cell (i := 0) (by decide)
  have d1 := RA.cell (i := 1) (by decide)
  have d2 := RA.cell (i := 2) (by decide)
  have d3 := RA.cell (i := 3) (by decide)
  have d4 := RA.cell (i := 4) (by decide)
  have d5 := RA.cell (i := 5) (by decide)
  have d6 := RA.cell (i := 6) (by decide)
  have d7 := RA.cell (i := 7) (by decide)
  have d8 := RA.cell (i := 8) (by decide)
  have d9 := RA.cell (i := 9) (by decide)
  have d10 := RA.cell (i := 10) (by decide)
  have d11 := RA.cell (i := 11) (by decide)
  have d12 := RA.cell (i := 12) (by decide)
  have d13 := RA.cell (i := 13) (by decide)
  have fd : ∀ i, W3.frozen? ⟨W0.heap.size, i, none⟩ = false := fun i => RA.frozen i
  simp only [lrow] at d0 d1 d2 d3 d4 d5 d6 d7 d8 d9 d10 d11 d12 d13
  simp only [hW3]
  clear hW3 R3 RA
  go_wp2_with fail
  refine bodyPost_ret (v := .tuple #[.agg #[.int .i64 0, .int .i64 0, .int .u64 0, .slice none 0 0, .slice none 0 0, .slice none 0 0, .slice none 0 0, .slice none 0 0, .slice none 0 0, .slice none 0 0, .int .u64 0, .int .u64 0, .int .u64 0, .int .u64 0], .int .i64 120]) (by simp [results, Tryz.results11, go_sem, *]) rfl ⟨rfl, ?_⟩
  repeat' refine Below.setCell ?_ (by simp only; omega) _
  exact (K.out W3 (HB1.out.trans (HB3.out.mono HB1.out.size))).1

set_option maxHeartbeats 2000000 in
theorem look_len {o s h r k : Nat} {s5 : Int} (H : (⟨o, s, h, r, k⟩ : Sh).Ok) (ao : Option Addr) (n cap : Nat) (hn : ¬ n = size ⟨o, s, h, r, k⟩) (w : World) : Calls Tryz.prog 11 #[.agg #[.int .i64 (o : Int), .int .i64 (s : Int), .int .i64 (h : Int), .int .i64 (r : Int), .int .i64 (k : Int), .int .i64 s5], .slice ao n cap] w fun e w' => e = .returned (.tuple #[vl cv0 av0, .int .i64 121]) ∧ Below w.heap.size w w' := by
  have MO := hide (fun w1 => memoryOf_len (s5 := s5) H ao n cap hn w1)
  clear H hn
  obtain ⟨W0, hW0, B0, K⟩ := box w (o : Int) (s : Int) (h : Int) (r : Int) (k : Int) s5
  obtain ⟨W1, hW1⟩ : ∃ W1, W0.alloc (.cells #[.int .i64 0, .int .i64 0, .int .u64 0, .slice none 0 0, .slice none 0 0, .slice none 0 0, .slice none 0 0, .slice none 0 0, .slice none 0 0, .slice none 0 0, .int .u64 0, .int .u64 0, .int .u64 0, .int .u64 0] 31) = W1 := ⟨_, rfl⟩
  have B1 : Below W0.heap.size W0 W1 := by rw [← hW1]; exact (Below.refl _ W0).alloc (Nat.le_refl _) _
  have HB1 := hide B1
  have R1 : W1.rowIs W0.heap.size 31 14 (lrow [.int .i64 0, .int .i64 0, .int .u64 0, .slice none 0 0, .slice none 0 0, .slice none 0 0, .slice none 0 0, .slice none 0 0, .slice none 0 0, .slice none 0 0, .int .u64 0, .int .u64 0, .int .u64 0, .int .u64 0]) := by rw [← hW1]; exact rowL_alloc W0 [.int .i64 0, .int .i64 0, .int .u64 0, .slice none 0 0, .slice none 0 0, .slice none 0 0, .slice none 0 0, .slice none 0 0, .slice none 0 0, .slice none 0 0, .int .u64 0, .int .u64 0, .int .u64 0, .int .u64 0] _ rfl
  have HR1 := hide R1
  obtain ⟨-, l0, x0, x1, x2, x3, x4, x5⟩ := K.out W1 B1
  have l1 : W0.heap.size < W1.heap.size := R1.lt
  have HB := hide B0
  have l2 : w.heap.size < W0.heap.size := (K.out W0 (Below.refl _ _)).2.1
  clear B0 B1 R1
  go_enter Tryz.func11, Tryz.ntmps11
  go_upto_region 2 with (go_at_call 28; refine (MO.out _).mono ?_; rintro e w2 ⟨rfl, hb2⟩; have HB2 := hide hb2; clear hb2)
  obtain ⟨W3, hW3⟩ : ∃ W3, w2.alloc (.cells #[.int .i64 0, .int .i64 0, .int .i64 0, .int .i64 0, .int .i64 0, .int .i64 0, .slice none 0 0] 59) = W3 := ⟨_, rfl⟩
  have HB3 := hide (show Below W1.heap.size W1 W3 by rw [← hW3]; exact HB2.out.trans ((Below.refl _ w2).alloc HB2.out.size _))
  have R3 : W3.rowIs w2.heap.size 59 7 (lrow [.int .i64 0, .int .i64 0, .int .i64 0, .int .i64 0, .int .i64 0, .int .i64 0, .slice none 0 0]) := by rw [← hW3]; exact rowL_alloc w2 [.int .i64 0, .int .i64 0, .int .i64 0, .int .i64 0, .int .i64 0, .int .i64 0, .slice none 0 0] _ rfl
  have RA := row_on HR1.out HB3.out
  have l3 : W1.heap.size ≤ w2.heap.size := HB2.out.size
  have d0 := RA.cell (i := 0) (by decide)
  have d1 := RA.cell (i := 1) (by decide)
  have d2 := RA.cell (i := 2) (by decide)
  have d3 := RA.cell (i := 3) (by decide)
  have d4 := RA.cell (i := 4) (by decide)
  have d5 := RA.cell (i := 5) (by decide)
  have d6 := RA.cell (i := 6) (by decide)
  have d7 := RA.cell (i := 7) (by decide)
  have d8 := RA.cell (i := 8) (by decide)
  have d9 := RA.cell (i := 9) (by decide)
  have d10 := RA.cell (i := 10) (by decide)
  have d11 := RA.cell (i := 11) (by decide)
  have d12 := RA.cell (i := 12) (by decide)
  have d13 := RA.cell (i := 13) (by decide)
  have fd : ∀ i, W3.frozen? ⟨W0.heap.size, i, none⟩ = false := fun i => RA.frozen i
  simp only [lrow] at d0 d1 d2 d3 d4 d5 d6 d7 d8 d9 d10 d11 d12 d13
  simp only [hW3]
  clear hW3 R3 RA
  go_wp2_with fail
  refine bodyPost_ret (v := .tuple #[.agg #[.int .i64 0, .int .i64 0, .int .u64 0, .slice none 0 0, .slice none 0 0, .slice none 0 0, .slice none 0 0, .slice none 0 0, .slice none 0 0, .slice none 0 0, .int .u64 0, .int .u64 0, .int .u64 0, .int .u64 0], .int .i64 121]) (by simp [results, Tryz.results11, go_sem, *]) rfl ⟨rfl, ?_⟩
  repeat' refine Below.setCell ?_ (by simp only; omega) _
  exact (K.out W3 (HB1.out.trans (HB3.out.mono HB1.out.size))).1

set_option maxHeartbeats 2000000 in
theorem Look_ok {o s h r k b off z cap B : Nat} {s5 : Int} {f : Nat → Int} (H : (⟨o, s, h, r, k⟩ : Sh).Ok) (hz : size ⟨o, s, h, r, k⟩ = z) (hcc : z ≤ cap) (w : World)  (hS : Sees w B (some ⟨b, off, none⟩) z f) (hB : B ≤ w.heap.size) (hf : ∀ i, i < z → 0 ≤ f i ∧ f i < 18446744073709551616) : Calls Tryz.prog 11 #[.agg #[.int .i64 (o : Int), .int .i64 (s : Int), .int .i64 (h : Int), .int .i64 (r : Int), .int .i64 (k : Int), .int .i64 s5], .slice (some ⟨b, off, none⟩) z cap] w fun e w' => (∃ a, e = .returned (.tuple #[vl (cv ⟨o, s, h, r, k⟩ f) a, .int .i64 0]) ∧ Hid (Owns w' w.heap.size (cv ⟨o, s, h, r, k⟩ f) a)) ∧ Below w.heap.size w w' := by
  have MO := hide (fun w1 => memoryOf_ok (s5 := s5) H (some ⟨b, off, none⟩) z cap hz w1)
  obtain ⟨c, hcv⟩ : ∃ c, cv ⟨o, s, h, r, k⟩ f = c := ⟨_, rfl⟩
  rw [hcv]
  obtain ⟨W0, hW0, B0, K⟩ := box w (o : Int) (s : Int) (h : Int) (r : Int) (k : Int) s5
  obtain ⟨W1, hW1⟩ : ∃ W1, W0.alloc (.cells #[.int .i64 0, .int .i64 0, .int .u64 0, .slice none 0 0, .slice none 0 0, .slice none 0 0, .slice none 0 0, .slice none 0 0, .slice none 0 0, .slice none 0 0, .int .u64 0, .int .u64 0, .int .u64 0, .int .u64 0] 31) = W1 := ⟨_, rfl⟩
  have B1 : Below W0.heap.size W0 W1 := by rw [← hW1]; exact (Below.refl _ W0).alloc (Nat.le_refl _) _
  have HB1 := hide B1
  have R1 : W1.rowIs W0.heap.size 31 14 (lrow [.int .i64 0, .int .i64 0, .int .u64 0, .slice none 0 0, .slice none 0 0, .slice none 0 0, .slice none 0 0, .slice none 0 0, .slice none 0 0, .slice none 0 0, .int .u64 0, .int .u64 0, .int .u64 0, .int .u64 0]) := by rw [← hW1]; exact rowL_alloc W0 [.int .i64 0, .int .i64 0, .int .u64 0, .slice none 0 0, .slice none 0 0, .slice none 0 0, .slice none 0 0, .slice none 0 0, .slice none 0 0, .slice none 0 0, .int .u64 0, .int .u64 0, .int .u64 0, .int .u64 0] _ rfl
  have HR1 := hide R1
  obtain ⟨-, l0, x0, x1, x2, x3, x4, x5⟩ := K.out W1 B1
  have l1 : W0.heap.size < W1.heap.size := R1.lt
  have HB := hide B0
  have l2 : w.heap.size < W0.heap.size := (K.out W0 (Below.refl _ _)).2.1
  clear B0 B1 R1
  go_enter Tryz.func11, Tryz.ntmps11
  go_upto_region 2 with (go_at_call 28; refine (MO.out _).mono ?_; rintro e w2 ⟨rfl, hb2⟩; have HB2 := hide hb2; clear hb2)
  obtain ⟨W3, hW3⟩ : ∃ W3, w2.alloc (.cells #[.int .i64 (o : Int), .int .i64 (s : Int), .int .i64 (h : Int), .int .i64 (r : Int), .int .i64 (k : Int), .int .i64 s5, .slice (some ⟨b, off, none⟩) z cap] 59) = W3 := ⟨_, rfl⟩
  have HB3 := hide (show Below W1.heap.size W1 W3 by rw [← hW3]; exact HB2.out.trans ((Below.refl _ w2).alloc HB2.out.size _))
  have R3 : W3.rowIs w2.heap.size 59 7 (lrow [.int .i64 (o : Int), .int .i64 (s : Int), .int .i64 (h : Int), .int .i64 (r : Int), .int .i64 (k : Int), .int .i64 s5, .slice (some ⟨b, off, none⟩) z cap]) := by rw [← hW3]; exact rowL_alloc w2 [.int .i64 (o : Int), .int .i64 (s : Int), .int .i64 (h : Int), .int .i64 (r : Int), .int .i64 (k : Int), .int .i64 s5, .slice (some ⟨b, off, none⟩) z cap] _ rfl
  have RA := row_on HR1.out HB3.out
  have l3 : W1.heap.size ≤ w2.heap.size := HB2.out.size
  have d0 := R3.cell (i := 0) (by decide)
  have d1 := R3.cell (i := 1) (by decide)
  have d2 := R3.cell (i := 2) (by decide)
  have d3 := R3.cell (i := 3) (by decide)
  have d4 := R3.cell (i := 4) (by decide)
  have d5 := R3.cell (i := 5) (by decide)
  have d6 := R3.cell (i := 6) (by decide)
  simp only [lrow] at d0 d1 d2 d3 d4 d5 d6
  have HRA := hide RA
  have HB03 := hide (HB1.out.trans (HB3.out.mono HB1.out.size))
  have BW3 := hide (K.out W3 HB03.out).1
  have LO := hide (look_ok (b := b) (off := off) (s5 := s5) H hz hcc (w := W3) (hS.below BW3.out hB) (by have := BW3.out.size; omega) hf)
  rw [hcv] at LO
  have hla : W0.heap.size < W3.heap.size := RA.lt
  simp only [hW3]
  clear hW3 R3 RA hcv hS hf H hz hB
  go_wp2_with (fail)
  refine LO.out.mono ?_
  rintro e w4 ⟨⟨a, rfl, HO4⟩, hb4⟩
  have HB4 := hide hb4
  clear hb4
  have R4 := row_on HRA.out HB4.out
  have g0 := R4.cell (i := 0) (by decide)
  have g1 := R4.cell (i := 1) (by decide)
  have g2 := R4.cell (i := 2) (by decide)
  have g3 := R4.cell (i := 3) (by decide)
  have g4 := R4.cell (i := 4) (by decide)
  have g5 := R4.cell (i := 5) (by decide)
  have g6 := R4.cell (i := 6) (by decide)
  have g7 := R4.cell (i := 7) (by decide)
  have g8 := R4.cell (i := 8) (by decide)
  have g9 := R4.cell (i := 9) (by decide)
  have g10 := R4.cell (i := 10) (by decide)
  have g11 := R4.cell (i := 11) (by decide)
  have g12 := R4.cell (i := 12) (by decide)
  have g13 := R4.cell (i := 13) (by decide)
  have fd : ∀ i, w4.frozen? ⟨W0.heap.size, i, none⟩ = false := fun i => R4.frozen i
  simp only [lrow] at g0 g1 g2 g3 g4 g5 g6 g7 g8 g9 g10 g11 g12 g13
  clear R4
  simp only [vl]
  go_wp2
  refine bodyPost_ret (v := .tuple #[.agg #[.int .i64 c.ph, .int .i64 c.co, .int .u64 c.ro, .slice a.aa c.na a.ca, .slice a.ra c.nr a.cr, .slice a.wa c.nw a.cw, .slice a.oa c.no a.cb, .slice a.fa c.fr.length a.cf, .slice a.ga c.gr.length a.cg, .slice a.qa c.qu.length a.cq, .int .u64 (c.cn 0), .int .u64 (c.cn 1), .int .u64 (c.cn 2), .int .u64 (c.cn 3)], .int .i64 0]) (by simp [results, Tryz.results11, go_sem, *]) rfl ⟨⟨a, rfl, ?_⟩, ?_⟩
  · refine Owns.low (base := W3.heap.size) ?_ (by have := BW3.out.size; omega)
    repeat' refine Owns.set ?_ (by simp only; omega) _
    exact HO4.out
  · repeat' refine Below.setCell ?_ (by simp only; omega) _
    exact BW3.out.trans (HB4.out.mono BW3.out.size)
end Vw
end Go.Proofs.YtecjegjnnahddaaGreat
