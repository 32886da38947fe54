/-
  Lemmas: DealOE.
-/
import Derived.Test.YtdgolkdedghajaaTq21
import Derived.Test.YtdgolkdedghajaaTq22
import Derived.Deep.CutBlock
import Derived.Deep.CutRange
/-
  DealOnce: does the last of a job's steps end it? The law's own function.
-/
namespace Go.Proofs.Ytdgolkdedghajaa
open Go.RowKit
set_option linter.unusedVariables false
set_option linter.unusedSimpArgs false
set_option linter.unnecessarySimpa false
set_option maxRecDepth 20000
namespace Deal

/-- As the law's function reckons it, over all steps. -/
def lend (r : Nat) (kind : Int) (G : Nat → Stp) (n : Nat) : Bool :=
  if kind = 1 then decide (n + 1 = 4 ∨ (n + 1 = 2 ∧ (r : Int) ≤ ahd (G 0).had (G n).had))
  else if kind = 2 then decide (3 < n + 1 ∧ ((G n).act = 2 ∨ ((G n).act = 1 ∧ 0 < ahd (G 1).put (G 2).had)))
  else decide (((G n).act = 5 ∧ (G n).ok = true) ∨ ((G n).act = 1 ∧ (G n).at_ = 1 ∧ 1 < n + 1 ∧ ahd (G n).had (G (n - 1)).had ≤ 0))
theorem lend_of (r : Nat) (kind : Int) (g : Nat → Stp) (n : Nat) (x : Stp) : lend r kind (upd g n x) n = lends r kind g n x := by
  unfold lend lends
  rw [upd_same]
  by_cases k1 : kind = 1
  · rw [if_pos k1, if_pos k1]
    by_cases h : n = 1
    · subst h; rw [upd_other _ _ (show 0 ≠ 1 by omega)]
    · have : ¬ n + 1 = 2 := by omega
      simp [this]
  · rw [if_neg k1, if_neg k1]
    by_cases k2 : kind = 2
    · rw [if_pos k2, if_pos k2]
      by_cases h : 3 < n + 1
      · rw [upd_other _ _ (show 1 ≠ n by omega), upd_other _ _ (show 2 ≠ n by omega)]
      · apply decide_eq_decide.mpr
        constructor <;> (intro q; exact absurd q.1 h)
    · rw [if_neg k2, if_neg k2]
      by_cases h : 1 < n + 1
      · rw [upd_other _ _ (show n - 1 ≠ n by omega)]
      · apply decide_eq_decide.mpr
        constructor <;> (intro q; rcases q with q | ⟨_, _, c, _⟩; exact .inl q; exact absurd c h)

theorem below_drewN {b : Nat} {w wr : World} (h : Below b w wr) (m : Nat) : Below b w (wr.drewN m) := ⟨h.os, h.tape, h.output, h.size, h.block⟩
theorem ah1 (x y : Int) : IntKind.i64.wrap (u64 (x - y)) = ahd x y := by rw [IntKind.wrap_i64]; unfold ahd wrap64; omega
theorem ah2 (x y : Int) : wrap64 (u64 (x - y)) = ahd x y := rfl

set_option maxHeartbeats 4000000 in
theorem ends_ok {w : World} {r n cap : Nat} {kind : Int} {b off : Nat} {G : Nat → Stp} (hn : n ≤ 65536) (hk : kind = 1 ∨ kind = 2 ∨ kind = 3) (lb : b < w.heap.size) (hc : ∀ i, i < n + 1 → ∀ q, q < 6 → w.cell? ⟨b, off + i * 6 + q, none⟩ = some ((G i).cell q)) :
    Calls Try.prog 25 #[.int .i64 (r : Int), .int .i64 kind, .slice (some ⟨b, off, none⟩) (n + 1) cap] w fun e w' => e = .returned (.bool (lend r kind G n)) ∧ Below w.heap.size w w' := by
  have p0 := hc n (by omega) 0 (by decide)
  have p1 := hc n (by omega) 1 (by decide)
  have p2 := hc n (by omega) 2 (by decide)
  have p3 := hc n (by omega) 3 (by decide)
  have p4 := hc n (by omega) 4 (by decide)
  have p5 := hc n (by omega) 5 (by decide)
  have HC := hide hc
  obtain ⟨x, hx⟩ : ∃ x, G n = x := ⟨_, rfl⟩
  have HX := hide hx
  rw [hx] at p0 p1 p2 p3 p4 p5
  obtain ⟨xh, xa, xt, xd, xp, xo⟩ := x
  simp only [Stp.cell, Nat.add_zero] at p0 p1 p2 p3 p4 p5
  obtain ⟨W1, hW1⟩ : ∃ W1, w.alloc (.cells #[.int .i64 xh, .int .i64 xa, .int .i64 xt, .int .u64 xd, .int .u64 xp, .bool xo] 55) = W1 := ⟨_, rfl⟩
  have R1 : W1.rowIs w.heap.size 55 6 (lrow [.int .i64 xh, .int .i64 xa, .int .i64 xt, .int .u64 xd, .int .u64 xp, .bool xo]) := by rw [← hW1]; exact rowL_alloc w [.int .i64 xh, .int .i64 xa, .int .i64 xt, .int .u64 xd, .int .u64 xp, .bool xo] _ rfl
  have B1 := hide (show Below w.heap.size w W1 from by rw [← hW1]; exact (Below.refl _ w).alloc (Nat.le_refl _) _)
  have cw1 : W1.cell? ⟨w.heap.size, 1, none⟩ = some (.int .i64 xa) := R1.cell (i := 1) (by decide)
  have cw2 : W1.cell? ⟨w.heap.size, 2, none⟩ = some (.int .i64 xt) := R1.cell (i := 2) (by decide)
  have cw3 : W1.cell? ⟨w.heap.size, 3, none⟩ = some (.int .u64 xd) := R1.cell (i := 3) (by decide)
  have cw5 : W1.cell? ⟨w.heap.size, 5, none⟩ = some (.bool xo) := R1.cell (i := 5) (by decide)
  have lw1 := R1.lt
  have PP := hide (fun (i : Nat) (hi : i < n + 1) (q : Nat) (hq : q < 6) => (B1.out.cell (p := ⟨b, off + i * 6 + q, none⟩) lb).trans (HC.out i hi q hq))
  have HK := hide hk
  clear hc hx hk R1 HC
  go_enter Try.func25, Try.ntmps25
  go_upto_region 3 with (fail)
  try rw [hW1]
  clear hW1 p0 p1 p2 p3 p4 p5
  rcases HK.out with rfl | rfl | rfl
  · by_cases e : n = 3
    · subst e
      have E1 := hide (show lend r 1 G 3 = true by simp [lend])
      go_wp2_with fail
      go_quiet (fail)
      go_wp2_with fail
      go_ret
      exact ⟨by rw [E1.out]; rfl, below_drewN B1.out _⟩
    · by_cases e2 : n = 1
      · subst e2
        obtain ⟨y, hy⟩ : ∃ y, (G 0).had = y := ⟨_, rfl⟩
        have q3 : W1.cell? ⟨b, off + 3, none⟩ = some (.int .u64 y) := by rw [← hy]; exact PP.out 0 (by decide) 3 (by decide)
        have g1 := wrap_u64' (y - xd)
        have g2 := ah1 y xd
        have g3 := ah2 y xd
        have E1 := hide (show lend r 1 G 1 = decide ((r : Int) ≤ ahd y xd) by have := HX.out; simp [lend, hy, this])
        obtain ⟨a, ha⟩ : ∃ a, ahd y xd = a := ⟨_, rfl⟩
        rw [ha] at g2 g3 E1
        have lb1 : b < W1.heap.size := by have := B1.out.size; omega
        clear hy ha
        by_cases c : (r : Int) ≤ a
        · have E2 := hide (E1.out.trans (decide_eq_true c))
          have d1 : decide ((r : Int) ≤ a) = true := decide_eq_true c
          clear E1
          go_wp2_with fail
          go_quiet (fail)
          go_wp2_with fail
          go_ret
          exact ⟨by rw [E2.out]; rfl, below_drewN B1.out _⟩
        · have E2 := hide (E1.out.trans (decide_eq_false c))
          have d1 : decide ((r : Int) ≤ a) = false := decide_eq_false c
          clear E1
          go_wp2_with fail
          go_quiet (fail)
          go_wp2_with fail
          go_ret
          exact ⟨by rw [E2.out]; rfl, below_drewN B1.out _⟩
      · have e3 : ¬ n + 1 = 4 := by omega
        have e4 : ¬ n + 1 = 2 := by omega
        have E1 := hide (show lend r 1 G n = false by simp [lend]; omega)
        have f1 : ((n : Int) + 1 == 4) = false := by simp; omega
        have f2 : ((n : Int) + 1 == 2) = false := by simp; omega
        clear e e2 e3 e4
        go_wp2_with fail
        go_quiet (fail)
        go_wp2_with fail
        go_ret
        exact ⟨by rw [E1.out]; rfl, below_drewN B1.out _⟩
  · by_cases e : 3 < n + 1
    · have f1 : decide (3 < (n : Int) + 1) = true := by simp; omega
      by_cases a2 : xa = 2
      · subst a2
        have E1 := hide (show lend r 2 G n = true by have := HX.out; simp [lend, this]; omega)
        clear e
        go_wp2_with fail
        go_quiet (fail)
        go_wp2_with fail
        go_ret
        exact ⟨by rw [E1.out]; rfl, below_drewN B1.out _⟩
      · have a2' : (xa == 2) = false := by simpa using a2
        by_cases a1 : xa = 1
        · subst a1
          obtain ⟨y, hy⟩ : ∃ y, (G 1).put = y := ⟨_, rfl⟩
          obtain ⟨z, hz⟩ : ∃ z, (G 2).had = z := ⟨_, rfl⟩
          have q4 : W1.cell? ⟨b, off + 10, none⟩ = some (.int .u64 y) := by rw [← hy]; exact PP.out 1 (by omega) 4 (by decide)
          have q3 : W1.cell? ⟨b, off + 15, none⟩ = some (.int .u64 z) := by rw [← hz]; exact PP.out 2 (by omega) 3 (by decide)
          have g1 := wrap_u64' (y - z)
          have g2 := ah1 y z
          have g3 := ah2 y z
          have E1 := hide (show lend r 2 G n = decide (0 < ahd y z) by have := HX.out; simp [lend, hy, hz, this]; omega)
          obtain ⟨a, ha⟩ : ∃ a, ahd y z = a := ⟨_, rfl⟩
          rw [ha] at g2 g3 E1
          have lb1 : b < W1.heap.size := by have := B1.out.size; omega
          have n2 : (2 : Int) < (n : Int) + 1 := by omega
          have n1 : (1 : Int) < (n : Int) + 1 := by omega
          clear hy hz ha e a2
          by_cases c : 0 < a
          · have E2 := hide (E1.out.trans (decide_eq_true c))
            have d1 : decide (0 < a) = true := decide_eq_true c
            clear E1
            go_wp2_with fail
            go_quiet (fail)
            go_wp2_with fail
            go_ret
            exact ⟨by rw [E2.out]; rfl, below_drewN B1.out _⟩
          · have E2 := hide (E1.out.trans (decide_eq_false c))
            have d1 : decide (0 < a) = false := decide_eq_false c
            clear E1
            go_wp2_with fail
            go_quiet (fail)
            go_wp2_with fail
            go_ret
            exact ⟨by rw [E2.out]; rfl, below_drewN B1.out _⟩
        · have a1' : (xa == 1) = false := by simpa using a1
          have E1 := hide (show lend r 2 G n = false by have := HX.out; simp [lend, this, a1, a2])
          clear e a1 a2
          go_wp2_with fail
          go_quiet (fail)
          go_wp2_with fail
          go_ret
          exact ⟨by rw [E1.out]; rfl, below_drewN B1.out _⟩
    · have f1 : decide (3 < (n : Int) + 1) = false := by simp; omega
      have E1 := hide (show lend r 2 G n = false by simp [lend]; omega)
      clear e
      go_wp2_with fail
      go_quiet (fail)
      go_wp2_with fail
      go_ret
      exact ⟨by rw [E1.out]; rfl, below_drewN B1.out _⟩
  · by_cases a5 : xa = 5
    · subst a5
      cases xo with
      | true =>
        have E1 := hide (show lend r 3 G n = true by have := HX.out; simp [lend, this])
        go_wp2_with fail
        go_quiet (fail)
        go_wp2_with fail
        go_ret
        exact ⟨by rw [E1.out]; rfl, below_drewN B1.out _⟩
      | false =>
        have E1 := hide (show lend r 3 G n = false by have := HX.out; simp [lend, this])
        go_wp2_with fail
        go_quiet (fail)
        go_wp2_with fail
        go_ret
        exact ⟨by rw [E1.out]; rfl, below_drewN B1.out _⟩
    · have a5' : (xa == 5) = false := by simpa using a5
      by_cases a1 : xa = 1
      · subst a1
        by_cases t1 : xt = 1
        · subst t1
          by_cases e : 1 < n + 1
          · obtain ⟨m, rfl⟩ : ∃ m, n = m + 1 := ⟨n - 1, by omega⟩
            have f1 : decide (1 < (m : Int) + 1 + 1) = true := by simp; omega
            obtain ⟨y, hy⟩ : ∃ y, (G m).had = y := ⟨_, rfl⟩
            have q3 : W1.cell? ⟨b, off + m * 6 + 3, none⟩ = some (.int .u64 y) := by rw [← hy]; exact PP.out m (by omega) 3 (by decide)
            have g1 := wrap_u64' (xd - y)
            have g2 := ah1 xd y
            have g3 := ah2 xd y
            have E1 := hide (show lend r 3 G (m + 1) = decide (ahd xd y ≤ 0) by have := HX.out; simp [lend, hy, this])
            obtain ⟨a, ha⟩ : ∃ a, ahd xd y = a := ⟨_, rfl⟩
            rw [ha] at g2 g3 E1
            have lb1 : b < W1.heap.size := by have := B1.out.size; omega
            have n0 : (m : Int) < (m : Int) + 1 + 1 := by omega
            clear hy ha e a5
            by_cases c : a ≤ 0
            · have E2 := hide (E1.out.trans (decide_eq_true c))
              have d1 : decide (a ≤ 0) = true := decide_eq_true c
              clear E1
              go_wp2_with fail
              go_quiet (fail)
              go_wp2_with fail
              go_ret
              exact ⟨by rw [E2.out]; rfl, below_drewN B1.out _⟩
            · have E2 := hide (E1.out.trans (decide_eq_false c))
              have d1 : decide (a ≤ 0) = false := decide_eq_false c
              clear E1
              go_wp2_with fail
              go_quiet (fail)
              go_wp2_with fail
              go_ret
              exact ⟨by rw [E2.out]; rfl, below_drewN B1.out _⟩
          · obtain rfl : n = 0 := by omega
            have E1 := hide (show lend r 3 G 0 = false by have := HX.out; simp [lend, this])
            clear e a5
            go_wp2_with fail
            go_quiet (fail)
            go_wp2_with fail
            go_ret
            exact ⟨by rw [E1.out]; rfl, below_drewN B1.out _⟩
        · have t1' : (xt == 1) = false := by simpa using t1
          have E1 := hide (show lend r 3 G n = false by have := HX.out; simp [lend, this, t1])
          clear t1 a5
          go_wp2_with fail
          go_quiet (fail)
          go_wp2_with fail
          go_ret
          exact ⟨by rw [E1.out]; rfl, below_drewN B1.out _⟩
      · have a1' : (xa == 1) = false := by simpa using a1
        have E1 := hide (show lend r 3 G n = false by have := HX.out; simp [lend, this, a1, a5])
        clear a1 a5
        go_wp2_with fail
        go_quiet (fail)
        go_wp2_with fail
        go_ret
        exact ⟨by rw [E1.out]; rfl, below_drewN B1.out _⟩
end Deal
end Go.Proofs.Ytdgolkdedghajaa
