/-
  Lemmas: PileOW.
-/
import Derived.Test.YtohjlcmekkllgaaTr11
import Derived.Deep.CutBlock
/-
  PileOrder: the law's own walk.
-/
namespace Go.Proofs.Ytohjlcmekkllgaa
open Go.RowKit
set_option linter.unusedVariables false
set_option linter.unusedSimpArgs false
set_option linter.unnecessarySimpa false
set_option maxRecDepth 20000
namespace Pile

variable {w : World} {aoh aos : Option Addr} {caph caps : Nat} {P : Par} {most room : Int}

theorem info3 : (Try.prog.info? 3).map (fun i => (i.zero.map Value.cells, i.size, i.bytes)) = some (some #[.int .i64 0], 1, 8) := by kernel_rfl

set_option maxHeartbeats 8000000 in
theorem order_walk {r : Nat} (hroom : 1 ≤ room ∧ room ≤ 64 → room = (r : Int)) (hn : P.n = 2 + 2 * r) (SH : SeesH w w.heap.size aoh P.nh P.jn P.jb) (hn63 : P.nh ≤ 9223372036854775807) (SI : SeesI w w.heap.size aos P.ns P.sched) (hjw : ∀ h, h < P.nh → ∀ j, j < P.jn h → (P.jb h j).wf) :
    Calls Try.prog 7 #[.int .i64 room, .slice aoh P.nh caph, .slice aos P.ns caps, .int .i64 most] w fun e w' => e = .returned (.bool true) ∧ Below w.heap.size w w' := by
  have FB := hide (fun (h : room < 1 ∨ 64 < room) (w1 : World) => fresh_bad w1 ⟨0, 0, 0, 0, 0, room⟩ h)
  have FO := hide (fun (h1 : 1 ≤ room) (h2 : room ≤ 64) (w1 : World) => fresh_ok w1 ⟨0, 0, 0, 0, 0, room⟩ h1 h2 (want := P.n) (r := r) (hroom ⟨h1, h2⟩).symm hn)
  have PL := hide (fun (h1 : 1 ≤ room) (h2 : room ≤ 64) (w1 : World) (B1 : Below w.heap.size w w1) ao cap (S : Sees w1 w1.heap.size ao P.n (pfr r)) => play_told (sh := ⟨0, 0, 0, 0, 0, room⟩) (caph := caph) (caps := caps) (cap := cap) (most := most) (r := r) (by have := hroom ⟨h1, h2⟩; omega) (by have := hroom ⟨h1, h2⟩; omega) (hroom ⟨h1, h2⟩) hn S ((SH.below B1 (Nat.le_refl _)).up B1.size) hn63 ((SI.below B1 (Nat.le_refl _)).up B1.size) hjw)
  simp only [Shp.val] at FB FO PL
  have HSH := hide SH
  have HJW := hide hjw
  have HN := hide hn
  clear SH SI hjw hn
  go_enter Try.func7, Try.ntmps7
  go_wp2_with fail
  refine (awake_any w).mono ?_
  rintro e w1 ⟨rfl, hb1⟩
  have hs1 := hb1.size
  obtain ⟨W2, hW2⟩ : ∃ W2, w1.alloc (.cells #[.int .i64 0, .int .i64 0, .int .i64 0, .int .i64 0, .int .i64 0, .int .i64 room] 23) = W2 := ⟨_, rfl⟩
  have B2 : Below w.heap.size w W2 := by rw [← hW2]; exact hb1.alloc hs1 _
  have R2 : W2.rowIs w1.heap.size 23 6 (lrow [.int .i64 0, .int .i64 0, .int .i64 0, .int .i64 0, .int .i64 0, .int .i64 room]) := by rw [← hW2]; exact rowL_alloc w1 [.int .i64 0, .int .i64 0, .int .i64 0, .int .i64 0, .int .i64 0, .int .i64 room] _ rfl
  have sz2 : W2.heap.size = w1.heap.size + 1 := by rw [← hW2]; simp
  have c0 : W2.cell? ⟨w1.heap.size, 0, none⟩ = some (.int .i64 0) := R2.cell (i := 0) (by decide)
  have c1 : W2.cell? ⟨w1.heap.size, 1, none⟩ = some (.int .i64 0) := R2.cell (i := 1) (by decide)
  have c2 : W2.cell? ⟨w1.heap.size, 2, none⟩ = some (.int .i64 0) := R2.cell (i := 2) (by decide)
  have c3 : W2.cell? ⟨w1.heap.size, 3, none⟩ = some (.int .i64 0) := R2.cell (i := 3) (by decide)
  have c4 : W2.cell? ⟨w1.heap.size, 4, none⟩ = some (.int .i64 0) := R2.cell (i := 4) (by decide)
  have c5 : W2.cell? ⟨w1.heap.size, 5, none⟩ = some (.int .i64 room) := R2.cell (i := 5) (by decide)
  have HB2 := hide B2
  have HR2 := hide R2
  clear hb1 B2 R2
  by_cases hr : room < 1 ∨ 64 < room
  · have HF := hide (FB.out hr)
    clear FB FO PL
    go_wp2_with fail
    refine (HF.out _).mono ?_
    rintro e w3 ⟨rfl, hg3⟩
    have HG3 := hide hg3
    clear hg3 c0 c1 c2 c3 c4 c5 hW2
    have hv : (decide (room < 1) || decide (room > 64)) = true := by simp; omega
    rcases hr with hr | hr
    · go_wp2_with fail
      go_ret
      exact ⟨rfl, HB2.out.trans ((below_of_grown_none HG3.out _ (Nat.le_refl _)).mono HB2.out.size)⟩
    · have hr' : ¬ room < 1 := by omega
      go_wp2_with fail
      go_ret
      exact ⟨rfl, HB2.out.trans ((below_of_grown_none HG3.out _ (Nat.le_refl _)).mono HB2.out.size)⟩
  · have r1 : 1 ≤ room := by omega
    have r2 : room ≤ 64 := by omega
    have HF := hide (FO.out r1 r2)
    have HP := hide (PL.out r1 r2)
    obtain rfl := hroom ⟨r1, r2⟩
    clear FB FO PL hroom
    go_wp2_with fail
    refine (HF.out _).mono ?_
    rintro e w3 ⟨g, rfl, RW, hg, hg3⟩
    have hs3 := hg3.size
    have B3 := HB2.out.trans ((below_of_grown_none hg3 _ (Nat.le_refl _)).mono HB2.out.size)
    have b3 := below_of_grown_none hg3 _ (Nat.le_refl _)
    have R3 := HR2.out.of_block (b3.block w1.heap.size (by omega))
    have HB3 := hide B3
    have S3 := hide (RW.sees)
    have d0 : w3.cell? ⟨w1.heap.size, 0, none⟩ = some (.int .i64 0) := R3.cell (i := 0) (by decide)
    have d1 : w3.cell? ⟨w1.heap.size, 1, none⟩ = some (.int .i64 0) := R3.cell (i := 1) (by decide)
    have d2 : w3.cell? ⟨w1.heap.size, 2, none⟩ = some (.int .i64 0) := R3.cell (i := 2) (by decide)
    have d3 : w3.cell? ⟨w1.heap.size, 3, none⟩ = some (.int .i64 0) := R3.cell (i := 3) (by decide)
    have d4 : w3.cell? ⟨w1.heap.size, 4, none⟩ = some (.int .i64 0) := R3.cell (i := 4) (by decide)
    have d5 : w3.cell? ⟨w1.heap.size, 5, none⟩ = some (.int .i64 r) := R3.cell (i := 5) (by decide)
    clear hg3 c0 c1 c2 c3 c4 c5 hW2 B3 b3 R3 RW
    go_wp2_with fail
    refine (HP.out w3 HB3.out _ _ S3.out).mono ?_
    rintro e w4 ⟨hb4, hR⟩
    have hs4 := hb4.size
    clear d0 d1 d2 d3 d4 d5
    rcases hR with ⟨er, her, rfl⟩ | ⟨hok, hnh, hjn, hmost, sa, sc, wa, wc, aa, ac, rfl, SS, SW, SA⟩
    · have HB4 := hide (HB3.out.trans (hb4.mono HB3.out.size))
      clear hb4
      unfold errVal
      go_wp2_with fail
      go_ret
      exact ⟨rfl, HB4.out.alloc (by omega) _⟩
    · obtain ⟨K, hK⟩ : ∃ K, (runSt P (st0 kPile P (pfr r)) most.toNat).k = K := ⟨_, rfl⟩
      have hK1 : K ≤ 65536 := by have := (runSt_k P (st0 kPile P (pfr r)) rfl most.toNat).1; omega
      rw [hK] at SS ⊢
      generalize decide (cnt ((runSt P (st0 kPile P (pfr r)) most.toNat).going P) P.nh = 0) = en
      obtain ⟨W5, hW5⟩ : ∃ W5, w4.alloc (.cells #[.slice sa K sc, .slice wa P.n wc, .bool en] 32) = W5 := ⟨_, rfl⟩
      have B45 : Below w4.heap.size w4 W5 := by rw [← hW5]; exact (Below.refl _ w4).alloc (Nat.le_refl _) _
      have R5 : W5.rowIs w4.heap.size 32 3 (lrow [.slice sa K sc, .slice wa P.n wc, .bool en]) := by rw [← hW5]; exact rowL_alloc w4 [.slice sa K sc, .slice wa P.n wc, .bool en] _ rfl
      have sz5 : W5.heap.size = w4.heap.size + 1 := by rw [← hW5]; simp
      have B5 := hide ((HB3.out.trans (hb4.mono HB3.out.size)).trans (B45.mono (by omega)))
      have SS5 := hide (SS.below B45 (Nat.le_refl _))
      have SA5 := hide (SA.below B45 (Nat.le_refl _))
      have SH5 := hide (HSH.out.below B5.out (Nat.le_refl _))
      have HR5 := hide R5
      have HOK := hide hok
      have hmk1 := run_make_z (P := Try.prog) 26 3 _ 1 8 Try.underlying26 info3 P.nh (by omega) (by omega)
      have hmk2 := run_make_z (P := Try.prog) 24 42 _ 1 8 Try.underlying24 info46 P.nh (by omega) (by omega)
      simp only [Nat.mul_one] at hmk1 hmk2
      clear hb4 B45 R5 SS SW SA hok S3 HP HF HSH HR2
      obtain ⟨W6, hW6⟩ : ∃ W6, (W5.alloc (.cells (madeCells #[.int .i64 0] P.nh) 3)).alloc (.cells (madeCells #[.int .u64 0] P.nh) 42) = W6 := ⟨_, rfl⟩
      have D6 : W6.rowIs W5.heap.size 3 P.nh (fun _ => .int .i64 0) := by rw [← hW6]; exact (World.rowIs_made W5 (.int .i64 0) P.nh 3).alloc _
      have P6 : W6.rowIs (W5.heap.size + 1) 42 P.nh (fun _ => .int .u64 0) := by
        rw [← hW6]
        have := World.rowIs_made (W5.alloc (.cells (madeCells #[.int .i64 0] P.nh) 3)) (.int .u64 0) P.nh 42
        rwa [World.size_alloc] at this
      have B56 : Below W5.heap.size W5 W6 := by rw [← hW6]; exact ((Below.refl _ W5).alloc (Nat.le_refl _) _).alloc (by simp) _
      have HD6 := hide D6
      have HP6 := hide P6
      have HB56 := hide B56
      have sz6 : W6.heap.size = W5.heap.size + 2 := by rw [← hW6]; simp
      clear D6 P6 B56
      go_wp2_with fail
      go_loopw [14, 17] (fun vl vi wr => LI r P K W5.heap.size (W5.heap.size + 1) (W5.heap.size + 2) W5.heap.size W5 vl vi wr) (fun _ i _ => K - (intOf i).toNat)
      case atStart =>
        have hr1 : 1 ≤ r := by omega
        have hr2 : r ≤ 64 := by omega
        exact ⟨0, _, _, _, Nat.zero_le _, rfl, pr_start hr1 hr2, by first | exact HD6.out | (simp only [hW6]; exact HD6.out), by simpa [hW6] using HP6.out, World.ownsRow_nil _ _ _ _, by simpa [hW6] using HB56.out⟩
      case round =>
        obtain ⟨i, l, ly, pv, hi, rfl, hPR, hD, hPv, hL, hB⟩ := hrel
        have R5' := HR5.out.of_block (hB.block w4.heap.size (by omega))
        have t0 := R5'.cell (i := 0) (by decide)
        simp only [lrow] at t0
        have HPR := hide hPR
        have HD := hide hD
        have HPv := hide hPv
        have HL := hide hL
        have HBr := hide hB
        clear hPR hD hPv hL hB R5'
        by_cases hlt : i < K
        · have hlt' : (i : Int) < K := by omega
          obtain ⟨h, j, x, l', ly', pv', ee, aa', OSx⟩ := order_step (by omega) HN.out HOK.out HJW.out hmost (by rw [hK]; exact hlt) HPR.out
          have hh := OSx.hh
          obtain ⟨sb, so, esa, hsb, hcs⟩ := (SS5.out.below HBr.out (by omega)) i hlt
          obtain ⟨hb', ho', aj, cj, eah, hbh, hc1, SJ⟩ := (SH5.out.below HBr.out (by have := B5.out.size; omega)) h hh
          obtain ⟨d, hdd⟩ : ∃ d, (runSt P (st0 kPile P (pfr r)) i).done h = d := ⟨_, rfl⟩
          have hd := OSx.hd
          rw [hdd] at hd
          obtain ⟨jb', jo', eaj, hbj, hjc⟩ := SJ d hd
          obtain ⟨jk, ja, jbb, jc, jh⟩ := j
          have hej := OSx.ej
          rw [hdd] at hej
          rw [hej] at hjc
          have hes := OSx.ex
          rw [hes] at hcs
          obtain ⟨xh, xa, xt, xd, xp, xo⟩ := x
          obtain rfl : xh = h := OSx.hand
          have p0 : wr.cell? ⟨sb, so + i * 6, none⟩ = some (.int .i64 h) := hcs 0 (by omega)
          have p1 : wr.cell? ⟨sb, so + i * 6 + 1, none⟩ = some (.int .i64 xa) := hcs 1 (by omega)
          have p2 : wr.cell? ⟨sb, so + i * 6 + 2, none⟩ = some (.int .i64 xt) := hcs 2 (by omega)
          have p3 : wr.cell? ⟨sb, so + i * 6 + 3, none⟩ = some (.int .u64 xd) := hcs 3 (by omega)
          have p4 : wr.cell? ⟨sb, so + i * 6 + 4, none⟩ = some (.int .u64 xp) := hcs 4 (by omega)
          have p5 : wr.cell? ⟨sb, so + i * 6 + 5, none⟩ = some (.bool xo) := hcs 5 (by omega)
          have j0 : wr.cell? ⟨jb', jo' + d * 5, none⟩ = some (.int .i64 jk) := hjc 0 (by omega)
          have j1 : wr.cell? ⟨jb', jo' + d * 5 + 1, none⟩ = some (.int .i64 ja) := hjc 1 (by omega)
          have j2 : wr.cell? ⟨jb', jo' + d * 5 + 2, none⟩ = some (.int .i64 jbb) := hjc 2 (by omega)
          have j3 : wr.cell? ⟨jb', jo' + d * 5 + 3, none⟩ = some (.int .i64 jc) := hjc 3 (by omega)
          have j4 : wr.cell? ⟨jb', jo' + d * 5 + 4, none⟩ = some (.int .u64 jh) := hjc 4 (by omega)
          have dc : wr.cell? ⟨w4.heap.size + 1, h, none⟩ = some (.int .i64 d) := by have := HD.out.cell (i := h) hh; rw [hdd, sz5] at this; exact this
          have pc : wr.cell? ⟨w4.heap.size + 1 + 1, h, none⟩ = some (.int .u64 (pv h)) := by have := HPv.out.cell (i := h) hh; rw [sz5] at this; exact this
          obtain ⟨jnh, hjnh⟩ : ∃ n, P.jn h = n := ⟨_, rfl⟩
          obtain ⟨pvh, hpvh⟩ : ∃ n, pv h = n := ⟨_, rfl⟩
          rw [hjnh] at hd hc1
          rw [hpvh] at pc
          subst esa
          subst eah
          subst eaj
          have hd256 : d < 256 := by have := hjn h hh; omega
          have HOS := hide OSx
          have HKEEP := hide (And.intro hdd (And.intro hjnh hpvh))
          have g1 : ¬ (h : Int) < 0 := by omega
          have g2 : ¬ (P.nh : Int) ≤ (h : Int) := by omega
          have g3 : ¬ P.nh ≤ h := by omega
          have g5 : ¬ (jnh : Int) ≤ (d : Int) := by omega
          have g6 : ¬ jnh ≤ d := by omega
          have hhn : (h : Int) < (P.nh : Int) := by omega
          have hdj : (d : Int) < (jnh : Int) := by omega
          have lr1 : w4.heap.size + 1 < wr.heap.size := by have := HD.out.lt; omega
          have lr2 : w4.heap.size + 1 + 1 < wr.heap.size := by have := HPv.out.lt; omega
          have lr3 : sb < wr.heap.size := by have := HBr.out.size; omega
          have lr4 : jb' < wr.heap.size := World.block_lt_of_cell? _ _ j0
          have lr5 : hb' < wr.heap.size := World.block_lt_of_cell? _ _ hc1
          have lr6 : w4.heap.size < wr.heap.size := by have := HBr.out.size; omega
          clear OSx hcs hjc SJ hej hes hdd hjnh hpvh
          go_wp2_with fail
          go_quiet (fail)
          go_wp2_with fail
          go_region_held (fun w' => w'.cell? ⟨hb', ho' + h, none⟩ = some (.slice (some ⟨jb', jo', none⟩) jnh cj) ∧ w'.cell? ⟨w4.heap.size + 1, h, none⟩ = some (.int .i64 d) ∧ w'.cell? ⟨jb', jo' + d * 5, none⟩ = some (.int .i64 jk) ∧ w'.cell? ⟨jb', jo' + d * 5 + 1, none⟩ = some (.int .i64 ja) ∧ w'.cell? ⟨jb', jo' + d * 5 + 2, none⟩ = some (.int .i64 jbb) ∧ w'.cell? ⟨jb', jo' + d * 5 + 3, none⟩ = some (.int .i64 jc) ∧ w'.cell? ⟨jb', jo' + d * 5 + 4, none⟩ = some (.int .u64 jh)) (go_keep) (fail)
          obtain ⟨Wq, hWq⟩ : ∃ W, ((wr.alloc (.cells #[.int .i64 h, .int .i64 xa, .int .i64 xt, .int .u64 xd, .int .u64 xp, .bool xo] 71)).drewN (nq + 1)).alloc (.cells #[.int .i64 jk, .int .i64 ja, .int .i64 jbb, .int .i64 jc, .int .u64 jh] 44) = W := ⟨_, rfl⟩
          have Tq : Touch wr Wq (fun _ => False) := by rw [← hWq]; exact (((Touch.refl wr (fun _ => False)).alloc _).trans' (c := (wr.alloc (.cells #[.int .i64 h, .int .i64 xa, .int .i64 xt, .int .u64 xd, .int .u64 xp, .bool xo] 71)).drewN (nq + 1)) (S' := fun _ => False) ⟨rfl, rfl, rfl, Nat.le_refl _, fun _ _ _ => rfl⟩ (fun _ _ h => h)).alloc _
          have szq : Wq.heap.size = wr.heap.size + 2 := by rw [← hWq]; simp
          have RSq : Wq.rowIs wr.heap.size 71 6 (lrow [.int .i64 h, .int .i64 xa, .int .i64 xt, .int .u64 xd, .int .u64 xp, .bool xo]) := by rw [← hWq]; exact ((rowL_alloc wr [.int .i64 h, .int .i64 xa, .int .i64 xt, .int .u64 xd, .int .u64 xp, .bool xo] 71 (n := 6) rfl).of_block (w' := (wr.alloc (.cells #[.int .i64 h, .int .i64 xa, .int .i64 xt, .int .u64 xd, .int .u64 xp, .bool xo] 71)).drewN (nq + 1)) rfl).alloc _
          have RJq : Wq.rowIs (wr.heap.size + 1) 44 5 (lrow [.int .i64 jk, .int .i64 ja, .int .i64 jbb, .int .i64 jc, .int .u64 jh]) := by
            rw [← hWq]
            have := rowL_alloc ((wr.alloc (.cells #[.int .i64 h, .int .i64 xa, .int .i64 xt, .int .u64 xd, .int .u64 xp, .bool xo] 71)).drewN (nq + 1)) [.int .i64 jk, .int .i64 ja, .int .i64 jbb, .int .i64 jc, .int .u64 jh] 44 (n := 5) rfl
            simpa using this
          have y0 : Wq.cell? ⟨wr.heap.size, 0, none⟩ = some (.int .i64 h) := RSq.cell (i := 0) (by decide)
          have y1 : Wq.cell? ⟨wr.heap.size, 1, none⟩ = some (.int .i64 xa) := RSq.cell (i := 1) (by decide)
          have y2 : Wq.cell? ⟨wr.heap.size, 2, none⟩ = some (.int .i64 xt) := RSq.cell (i := 2) (by decide)
          have y3 : Wq.cell? ⟨wr.heap.size, 3, none⟩ = some (.int .u64 xd) := RSq.cell (i := 3) (by decide)
          have y4 : Wq.cell? ⟨wr.heap.size, 4, none⟩ = some (.int .u64 xp) := RSq.cell (i := 4) (by decide)
          have y5 : Wq.cell? ⟨wr.heap.size, 5, none⟩ = some (.bool xo) := RSq.cell (i := 5) (by decide)
          have z0 : Wq.cell? ⟨wr.heap.size + 1, 0, none⟩ = some (.int .i64 jk) := RJq.cell (i := 0) (by decide)
          have z1 : Wq.cell? ⟨wr.heap.size + 1, 1, none⟩ = some (.int .i64 ja) := RJq.cell (i := 1) (by decide)
          have z2 : Wq.cell? ⟨wr.heap.size + 1, 2, none⟩ = some (.int .i64 jbb) := RJq.cell (i := 2) (by decide)
          have z3 : Wq.cell? ⟨wr.heap.size + 1, 3, none⟩ = some (.int .i64 jc) := RJq.cell (i := 3) (by decide)
          have z4 : Wq.cell? ⟨wr.heap.size + 1, 4, none⟩ = some (.int .u64 jh) := RJq.cell (i := 4) (by decide)
          have HDq := hide (HD.out.of_block (Tq.block _ HD.out.lt (fun h => h)))
          have HPq := hide (HPv.out.of_block (Tq.block _ HPv.out.lt (fun h => h)))
          have dcq : Wq.cell? ⟨w4.heap.size + 1, h, none⟩ = some (.int .i64 d) := by have := HDq.out.cell (i := h) hh; rw [HKEEP.out.1, sz5] at this; exact this
          have dfq : Wq.frozen? ⟨w4.heap.size + 1, h, none⟩ = false := by have := HDq.out.frozen h; rw [sz5] at this; exact this
          have pcq : Wq.cell? ⟨w4.heap.size + 1 + 1, h, none⟩ = some (.int .u64 pvh) := by have := HPq.out.cell (i := h) hh; rw [HKEEP.out.2.2, sz5] at this; exact this
          have pfq : Wq.frozen? ⟨w4.heap.size + 1 + 1, h, none⟩ = false := by have := HPq.out.frozen h; rw [sz5] at this; exact this
          have HLq := hide (ownsRow_keep HL.out (fun b _ hb => Tq.block b hb (fun h => h)))
          have HBq : Hid (Below W5.heap.size W5 Wq) := ⟨Tq.os.trans HBr.out.os, Tq.tape.trans HBr.out.tape, Tq.output.trans HBr.out.output, Nat.le_trans HBr.out.size Tq.size, fun k hk => (Tq.block k (Nat.lt_of_lt_of_le hk HBr.out.size) (fun h => h)).trans (HBr.out.block k hk)⟩
          obtain ⟨ba, oa, av, ca, eaa, hba, hca, hcc⟩ := (SA5.out.below HBq.out (by omega)) h hh
          subst eaa
          obtain ⟨dn, hdn⟩ : ∃ dn, (runSt P (st0 kPile P (pfr r)) most.toNat).done h = dn := ⟨_, rfl⟩
          rw [hdn] at hca
          have HCC := hide hcc
          have HDN := hide hdn
          obtain ⟨ix, hix⟩ : ∃ ix, xd % 4294967296 = ix := ⟨_, rfl⟩
          have IXC := hide (fun w' : World => index_any xd HOS.out.had.1 (by have := HOS.out.had.2; simp only at this; omega) w')
          rw [hix] at IXC
          have HIX := hide hix
          have lq0 : wr.heap.size < Wq.heap.size := by omega
          have lq1 : wr.heap.size + 1 < Wq.heap.size := by omega
          have lq2 : w4.heap.size + 1 < Wq.heap.size := by omega
          have lq3 : w4.heap.size + 1 + 1 < Wq.heap.size := by omega
          have lq4 : ba < Wq.heap.size := by omega
          have gx1 : wrap64 ((i : Int) + 1) = (i : Int) + 1 := by unfold wrap64; omega
          have gx2 : wrap64 ((d : Int) + 1) = (d : Int) + 1 := by unfold wrap64; omega
          have lyl := pr_len HPR.out
          have lq5 : w4.heap.size < Wq.heap.size := by omega
          have lq6 : W5.heap.size + 2 ≤ Wq.heap.size + 1 := by omega
          have lba : ba < W5.heap.size + 2 := by omega
          have lw4 : w4.heap.size < W5.heap.size + 2 := by omega
          have lgd2 : w4.heap.size + 1 < W5.heap.size + 2 := by omega
          have lgp2 : w4.heap.size + 1 + 1 < W5.heap.size + 2 := by omega
          have lym : ly.length + 1 ≤ maxLen := by unfold maxLen; omega
          have lyb : (ly.length + 1) * 8 ≤ 140737488355328 := by omega
          have lob := hide (ownsRow_block HL.out)
          simp only [hWq]
          clear hWq Tq RSq RJq p0 p1 p2 p3 p4 p5 j0 j1 j2 j3 j4 dc pc hc1 t0 hix hdn hcc g1 g2 g3 g5 g6
          obtain ⟨em, hem1, hem2⟩ : ∃ em : Bool, (xa = 1 ∧ ix = 0 → em = true) ∧ (¬ (xa = 1 ∧ ix = 0) → em = false) := ⟨decide (xa = 1 ∧ ix = 0), fun h => decide_eq_true h, fun h => decide_eq_false h⟩
          obtain ⟨pu, hpu1, hpu2⟩ : ∃ pu : Bool, (xa = 5 ∧ xo = true → pu = true) ∧ (¬ (xa = 5 ∧ xo = true) → pu = false) := ⟨decide (xa = 5 ∧ xo = true), fun h => decide_eq_true h, fun h => decide_eq_false h⟩
          have HEM := hide (And.intro hem1 hem2)
          have HPU := hide (And.intro hpu1 hpu2)
          clear hem1 hem2 hpu1 hpu2
          go_upto_region 21 with (fail)
          go_cut [21] from 64 to 267 (fun s21 wx => s21 = .bool em ∧ wx = Wq)
          case first =>
            as_aux_lemma =>
            by_cases a1 : xa = 1
            · rw [a1] at y1
              by_cases zi : ix = 0
              · rw [zi] at IXC
                go_wp2_with (go_at_call 32; refine (IXC.out _).mono ?_; rintro e w' ⟨rfl, hw'⟩; obtain rfl := hw'.symm)
                go_meet
                case rel => exact ⟨by rw [HEM.out.1 ⟨a1, zi⟩], rfl⟩
              · have zi2 : (ix == 0) = false := beq_false_of_ne zi
                go_wp2_with (first | rw [zi2] | (go_at_call 32; refine (IXC.out _).mono ?_; rintro e w' ⟨rfl, hw'⟩; obtain rfl := hw'.symm))
                go_meet
                case rel => exact ⟨by rw [HEM.out.2 (fun h => zi h.2)], rfl⟩
            · have a12 : (xa == 1) = false := beq_false_of_ne a1
              go_wp2_with (first | rw [a12])
              go_meet
              case rel => exact ⟨by rw [HEM.out.2 (fun h => a1 h.1)], rfl⟩
          case rest =>
          as_aux_lemma =>
          obtain ⟨rfl, hwc⟩ := hcut
          obtain rfl := hwc.symm
          go_upto_region 22 with (fail)
          go_cut [22] from 64 to 267 (fun s22 wx => s22 = .bool pu ∧ wx = Wq)
          case first =>
            as_aux_lemma =>
            by_cases a5 : xa = 5
            · rw [a5] at y1
              rcases Bool.eq_false_or_eq_true xo with o5 | o5
              · rw [o5] at y5
                go_wp2_with fail
                go_meet
                case rel => exact ⟨by rw [HPU.out.1 ⟨a5, o5⟩], rfl⟩
              · rw [o5] at y5
                go_wp2_with fail
                go_meet
                case rel => exact ⟨by rw [HPU.out.2 (fun h => by rw [o5] at h; cases h.2)], rfl⟩
            · have a52 : (xa == 5) = false := beq_false_of_ne a5
              go_wp2_with (first | rw [a52])
              go_meet
              case rel => exact ⟨by rw [HPU.out.2 (fun h => a5 h.1)], rfl⟩
          case rest =>
          as_aux_lemma =>
          obtain ⟨rfl, hwc⟩ := hcut
          obtain rfl := hwc.symm
          go_upto_block 2 with (fail)
          go_cut [14, 21, 22, 23, 24] from 64 to 267 (fun s14 s21 s22 s23 s24 wx => ∃ fi : Bool, s23 = .bool ee ∧ s24 = .bool fi ∧ (ee = true → fi = aa'.ok) ∧ wx.rowIs W5.heap.size 3 P.nh (fun h => .int .i64 ((runSt P (st0 kPile P (pfr r)) i).done h)) ∧ wx.rowIs (W5.heap.size + 1) 42 P.nh (fun h => .int .u64 (pv' h)) ∧ wx.ownsRow (W5.heap.size + 2) 42 1 s14 ly'.length (lyC ly') ∧ Below W5.heap.size W5 wx ∧ wx.cell? ⟨wr.heap.size + 1, 0, none⟩ = some (.int .i64 jk) ∧ wr.heap.size + 1 < wx.heap.size)
          case first =>
            as_aux_lemma =>
            rcases HOS.out.sc with ⟨⟨k, t, c, z⟩, he, ho, hl, hp⟩ | ⟨⟨k, t, c, z⟩, he, ho, hl, hp⟩ | ⟨⟨k, t, c, z⟩, he, ho, hl0, hl, hp⟩ | ⟨⟨k, t, c, z⟩, he, v, hl, hp⟩ | ⟨⟨k, t, c, z⟩, he, ho, hv, hl, hp⟩ | ⟨nA, nB, nC, nD, nE, he, hl, hp⟩
            · skip
              have K1 : jk = 1 := k
              replace t : xt = 1 := t
              rw [K1] at z0
              rw [t] at y2
              have e1 : em = true := HEM.out.1 ⟨c, HIX.out.symm.trans z⟩
              as_aux_lemma =>
              go_wp2_with (first | rw [e1])
              go_meet
              case rel => exact ⟨_, by rw [he], rfl, fun _ => ho.symm, HDq.out, (by rw [hp]; exact HPq.out), (by rw [hl]; exact HLq.out), HBq.out, (by rw [K1]; exact z0), lq1⟩
            · skip
              have K1 : jk = 1 := k
              replace t : xt = 0 := t
              rw [K1] at z0
              rw [t] at y2
              have e1 : pu = true := HPU.out.1 ⟨c, z⟩
              obtain ⟨i46, hi46, hz46, hs46, hy46⟩ := info46e
              clear szq
              as_aux_lemma =>
              go_wp2_with (first
                | rw [e1]
                | (at_builtin; go_loud (refine wpList_append_opt rfl (.tmp 148) (.tmp 151) 24 rfl (W5.heap.size + 2) 42 i46 (.int .u64 0) 1 8 Try.underlying24 hi46 hz46 hs46 hy46 rfl (by decide) u14 ly.length (lyC ly) rfl (HLq.out.alloc _) (some ⟨Wq.heap.size, 0, none⟩) 1 1 [.int .u64 jh] rfl (fun h => by cases h) rfl (fun ad had q u hu => by cases had; match q, hu with | 0, hu => injection hu with hu; subst hu; first | (rw [Go.WideShapes.add_plain]; simp) | rfl) (by simp [Value.oneCell']) lym lyb (by rw [World.size_alloc]; exact lq6) ?_; intro v5 w5 hown5 hgrow5 hnn5; have T5 := hide (show Touch Wq w5 (fun k => u14.ownBlock = some k) from ((Touch.refl Wq (fun k => u14.ownBlock = some k)).alloc _).trans (Touch.of_grown hgrow5 |>.mono (fun k _ h => h.symm))); have O5 := hide hown5; clear hown5 hgrow5 hnn5)))
              go_meet
              case rel =>
                have keep5 : ∀ b, b < W5.heap.size + 2 ∨ wr.heap.size ≤ b → b < Wq.heap.size → w5.heap[b]? = Wq.heap[b]? := fun b hb hl => T5.out.block b hl (fun e => apart (lob.out _ e) hb rfl)
                exact ⟨_, by rw [he], rfl, fun _ => ho.symm, HDq.out.of_block (keep5 _ (.inl (thr _).1) HDq.out.lt), (by rw [hp]; exact HPq.out.of_block (keep5 _ (.inl (thr _).2.2.2.1) HPq.out.lt)), (by rw [hl, lyC_cons]; exact O5.out), ⟨T5.out.os.trans HBq.out.os, T5.out.tape.trans HBq.out.tape, T5.out.output.trans HBq.out.output, Nat.le_trans HBq.out.size T5.out.size, fun k hk => (keep5 k (.inl (Nat.lt_of_lt_of_le hk (Nat.le_add_right _ 2))) (Nat.lt_of_lt_of_le hk HBq.out.size)).trans (HBq.out.block k hk)⟩, (by rw [K1]; exact (World.cell?_of_block (w := Wq) (keep5 (wr.heap.size + 1) (.inr (Nat.le_succ _)) lq1)).trans z0), Nat.lt_of_lt_of_le lq1 T5.out.size⟩
            · skip
              have K1 : jk = 2 := k
              replace t : xt = 0 := t
              rw [K1] at z0
              rw [t] at y2
              have e1 : em = true := HEM.out.1 ⟨c, HIX.out.symm.trans z⟩
              have e2 : pu = false := HPU.out.2 (fun h => absurd (c.symm.trans h.1) (by decide))
              obtain ⟨sl0, cl0, hsl⟩ : ∃ a c, u14 = .slice a 0 c := by
                have hq := HLq.out
                rw [hl0] at hq
                rcases hq.2 with ⟨e, _⟩ | ⟨g', cap', cur', e, _⟩
                · exact ⟨_, _, e⟩
                · exact ⟨_, _, e⟩
              subst hsl
              as_aux_lemma =>
              go_wp2_with (first | rw [e1])
              go_meet
              case rel => exact ⟨_, by rw [he], rfl, fun _ => ho.symm, HDq.out, (by rw [hp]; exact HPq.out), (by rw [hl]; exact HLq.out), HBq.out, (by rw [K1]; exact z0), lq1⟩
            · skip
              have K1 : jk = 2 := k
              replace t : xt = 0 := t
              rw [K1] at z0
              rw [t] at y2
              have e1 : pu = true := HPU.out.1 ⟨c, z⟩
              have e2 : em = false := HEM.out.2 (fun h => absurd (c.symm.trans h.1) (by decide))
              subst hl
              obtain ⟨g', cap', F', eg, hgl, hrow, hpre, hcap, hmax⟩ := row_of_owns HLq.out (by simp)
              subst eg
              have hlast : F' ly'.length = .int .u64 v := hpre _ _ (lyC_last v ly')
              have hlen : (v :: ly').length = ly'.length + 1 := rfl
              rw [hlen] at hcap lyl
              have vc : Wq.cell? ⟨g', ly'.length, none⟩ = some (.int .u64 v) := by have := hrow.cell (i := ly'.length) (by rw [Nat.mul_one]; exact hcap); rw [hlast] at this; exact this
              have lg' := hrow.lt
              obtain ⟨nl, hnl⟩ : ∃ n, ly'.length = n := ⟨_, rfl⟩
              have HROW := hide hrow
              have HPRE := hide hpre
              have HNL := hide hnl
              rw [hnl] at vc hcap lyl
              obtain ⟨gn0, gn1, gn2, gn3, gn4, gn5⟩ := popped_nums hcap
              rw [if_pos (lt_small lyl r2)] at gn1
              have hne : g' ≠ w4.heap.size + 1 + 1 := (Nat.ne_of_lt (Nat.lt_of_lt_of_le lgp2 hgl)).symm
              simp only [hlen, hnl]
              clear hrow hpre hlast hlen hnl
              have ep : w4.heap.size + 1 + 1 = W5.heap.size + 1 := by rw [sz5]
              obtain ⟨WX, hWX⟩ : ∃ WX, Wq.setCell ⟨w4.heap.size + 1 + 1, h, none⟩ (.int .u64 v) = WX := ⟨_, rfl⟩
              have tt : Touch Wq WX (fun k => k = w4.heap.size + 1 + 1) := by rw [← hWX]; exact Touch.setCell (S := fun k => k = w4.heap.size + 1 + 1) (Touch.refl Wq _) ⟨w4.heap.size + 1 + 1, h, none⟩ (.inl rfl) _
              have P8 := hide (show WX.rowIs (W5.heap.size + 1) 42 P.nh (fun h => .int .u64 (pv' h)) from by rw [← hWX, ep]; exact World.rowIs.congr (HPq.out.set h _) (fun k hk => by rw [hp]; simp only [upd]; split <;> rfl))
              have D8 := hide (HDq.out.of_block (tt.block W5.heap.size HDq.out.lt (Nat.ne_of_lt (ep ▸ Nat.lt_succ_self _))))
              have L8 := hide (show WX.ownsRow (W5.heap.size + 2) 42 1 (.slice (some ⟨g', 0, none⟩) nl cap') ly'.length (lyC ly') from by rw [← HNL.out]; exact owns_of_row (n := ly'.length) (HROW.out.of_block (tt.block g' lg' hne)) (fun q u hq => HPRE.out q u (by rw [lyC_cons, List.getElem?_append_left (List.getElem?_eq_some_iff.1 hq).1]; exact hq)) (by rw [lyC_len, Nat.mul_one]) (by rw [HNL.out]; exact gn4) hmax hgl)
              have B8 := hide (show Below W5.heap.size W5 WX from ⟨tt.os.trans HBq.out.os, tt.tape.trans HBq.out.tape, tt.output.trans HBq.out.output, Nat.le_trans HBq.out.size tt.size, fun k hk => (tt.block k (Nat.lt_of_lt_of_le hk HBq.out.size) (Nat.ne_of_lt (ep ▸ Nat.lt_succ_of_lt hk))).trans (HBq.out.block k hk)⟩)
              have Z8 := hide ((World.cell?_of_block (w := Wq) (a := ⟨wr.heap.size + 1, 0, none⟩) (tt.block (wr.heap.size + 1) lq1 (fun e => Nat.ne_of_lt (Nat.lt_succ_of_lt lr2) e.symm))).trans z0)
              have S8 := Nat.lt_of_lt_of_le lq1 tt.size
              clear tt ep
              as_aux_lemma =>
              go_wp2_with (first | rw [e1] | rw [e2] | rw [gn1])
              go_meet
              case rel =>
                first
                | exact ⟨_, by rw [he], rfl, (fun h => by rw [he] at h; cases h), D8.out, P8.out, L8.out, B8.out, (by rw [K1]; exact Z8.out), S8⟩
                | (have L9 := L8.out; rw [HNL.out] at L9; exact ⟨_, by rw [he], rfl, (fun h => by rw [he] at h; cases h), D8.out, P8.out, L9, B8.out, (by rw [K1]; exact Z8.out), S8⟩)
            · skip
              have K1 : jk = 2 := k
              replace t : xt = 1 := t
              rw [K1] at z0
              rw [t] at y2
              have e1 : pu = true := HPU.out.1 ⟨c, z⟩
              as_aux_lemma =>
              go_wp2_with (first | rw [e1])
              go_meet
              case rel => exact ⟨_, by rw [he], rfl, fun _ => ho.symm, HDq.out, (by rw [hp]; exact HPq.out), (by rw [hl]; exact HLq.out), HBq.out, (by rw [K1]; exact z0), lq1⟩
            · rcases HOS.out.kind with k | k
              · have K1 : jk = 1 := k
                rw [K1] at z0
                by_cases t1 : xt = 1
                · skip
                  rw [t1] at y2
                  have e1 : em = false := HEM.out.2 (fun h => nA ⟨K1, t1, h.1, HIX.out.trans h.2⟩)
                  as_aux_lemma =>
                  go_wp2_with (first | rw [e1])
                  go_meet
                  case rel => exact ⟨_, by rw [he], rfl, (fun h => by rw [he] at h; cases h), HDq.out, (by rw [hp]; exact HPq.out), (by rw [hl]; exact HLq.out), HBq.out, (by rw [K1]; exact z0), lq1⟩
                · by_cases t0 : xt = 0
                  · skip
                    rw [t0] at y2
                    have e2 : pu = false := HPU.out.2 (fun h => nB ⟨K1, t0, h.1, h.2⟩)
                    as_aux_lemma =>
                    go_wp2_with (first | rw [e2])
                    go_meet
                    case rel => exact ⟨_, by rw [he], rfl, (fun h => by rw [he] at h; cases h), HDq.out, (by rw [hp]; exact HPq.out), (by rw [hl]; exact HLq.out), HBq.out, (by rw [K1]; exact z0), lq1⟩
                  · skip
                    have t12 : (xt == 1) = false := beq_false_of_ne t1
                    have t02 : (xt == 0) = false := beq_false_of_ne t0
                    as_aux_lemma =>
                    go_wp2_with (first | rw [t12] | rw [t02])
                    go_meet
                    case rel => exact ⟨_, by rw [he], rfl, (fun h => by rw [he] at h; cases h), HDq.out, (by rw [hp]; exact HPq.out), (by rw [hl]; exact HLq.out), HBq.out, (by rw [K1]; exact z0), lq1⟩
              · have K1 : jk = 2 := k
                rw [K1] at z0
                by_cases t1 : xt = 1
                · skip
                  rw [t1] at y2
                  have e2 : pu = false := HPU.out.2 (fun h => nE ⟨K1, t1, h.1, h.2⟩)
                  as_aux_lemma =>
                  go_wp2_with (first | rw [e2])
                  go_meet
                  case rel => exact ⟨_, by rw [he], rfl, (fun h => by rw [he] at h; cases h), HDq.out, (by rw [hp]; exact HPq.out), (by rw [hl]; exact HLq.out), HBq.out, (by rw [K1]; exact z0), lq1⟩
                · by_cases t0 : xt = 0
                  · skip
                    rw [t0] at y2
                    have e1 : em = false := HEM.out.2 (fun h => nC ⟨K1, t0, h.1, HIX.out.trans h.2⟩)
                    have e2 : pu = false := HPU.out.2 (fun h => nD ⟨K1, t0, h.1, h.2⟩)
                    as_aux_lemma =>
                    go_wp2_with (first | rw [e1] | rw [e2])
                    go_meet
                    case rel => exact ⟨_, by rw [he], rfl, (fun h => by rw [he] at h; cases h), HDq.out, (by rw [hp]; exact HPq.out), (by rw [hl]; exact HLq.out), HBq.out, (by rw [K1]; exact z0), lq1⟩
                  · skip
                    have t12 : (xt == 1) = false := beq_false_of_ne t1
                    have t02 : (xt == 0) = false := beq_false_of_ne t0
                    as_aux_lemma =>
                    go_wp2_with (first | rw [t12] | rw [t02])
                    go_meet
                    case rel => exact ⟨_, by rw [he], rfl, (fun h => by rw [he] at h; cases h), HDq.out, (by rw [hp]; exact HPq.out), (by rw [hl]; exact HLq.out), HBq.out, (by rw [K1]; exact z0), lq1⟩
          case rest =>
          as_aux_lemma =>
          obtain ⟨fi, rfl, rfl, hfi, D7, P7, L7, B7, z7, l7⟩ := hcut
          have HD7 := hide D7
          have HP7 := hide P7
          have HL7 := hide L7
          have HB7 := hide B7
          clear D7 P7 L7 B7 y0 y1 y2 y3 y4 y5 z0 z1 z2 z3 z4 dcq dfq pcq pfq
          by_cases he : ee = true
          · obtain ⟨d1, d2, d3⟩ := HOS.out.e1 he
            rw [HKEEP.out.1, HDN.out] at d2
            rw [HKEEP.out.1] at d3
            obtain ⟨ba7, oa7, av7, ca7, eaa7, hba7, hca7, hcc7⟩ := (SA5.out.below HB7.out (Nat.le_of_lt (sz5 ▸ Nat.lt_succ_self _))) h hh
            cases eaa7
            rw [HDN.out] at hca7 hcc7
            obtain ⟨b1, o1, eav, hb1, hac⟩ := hcc7 d d2
            rw [eav] at hca7
            rw [d3] at hac
            have hok7 := hfi he
            have k0 : wc.cell? ⟨b1, o1 + d * 2, none⟩ = some (.bool aa'.ok) := hac 0 (by decide)
            have k1 : wc.cell? ⟨b1, o1 + d * 2 + 1, none⟩ = some (.int .u64 aa'.val) := hac 1 (by decide)
            rw [← hok7] at k0
            have dc7 : wc.cell? ⟨w4.heap.size + 1, h, none⟩ = some (.int .i64 d) := by have := HD7.out.cell (i := h) hh; rw [HKEEP.out.1, sz5] at this; exact this
            have df7 : wc.frozen? ⟨w4.heap.size + 1, h, none⟩ = false := by have := HD7.out.frozen h; rw [sz5] at this; exact this
            have pc7 : wc.cell? ⟨w4.heap.size + 1 + 1, h, none⟩ = some (.int .u64 (pv' h)) := by have := HP7.out.cell (i := h) hh; rw [sz5] at this; exact this
            obtain ⟨gd1, gd2, gd3⟩ := ndle d2
            have lb0 : w4.heap.size < wc.heap.size := Nat.lt_of_lt_of_le (sz5 ▸ Nat.lt_succ_self _) HB7.out.size
            have lb1 : b1 < wc.heap.size := Nat.lt_trans hb1 lb0
            have lb2 : ba < wc.heap.size := Nat.lt_trans hba7 lb0
            have hval : fi = true → jk = 2 → aa'.val = pv' h := fun hf hk2 => by
              rcases HOS.out.sc with ⟨_, _, ho, _⟩ | ⟨⟨k, _⟩, _⟩ | ⟨_, _, ho, _⟩ | ⟨_, h', _⟩ | ⟨_, _, _, hv, _, hp⟩ | ⟨_, _, _, _, _, h', _⟩
              · rw [hok7, ho] at hf; cases hf
              · have k' : jk = 1 := k
                rw [k'] at hk2; exact absurd hk2 (by decide)
              · rw [hok7, ho] at hf; cases hf
              · rw [he] at h'; cases h'
              · rw [hp]; exact hv
              · rw [he] at h'; cases h'
            clear hac d1 d3 eav hcc7 HCC
            go_upto_region 41 with (first | rw [he])
            go_cut [23, 24, 261] from 64 to 267 (fun s23 s24 s261 wx => s261 = .bool false ∧ ∃ m, wx = wc.drewN m)
            case first =>
              as_aux_lemma =>
              rcases Bool.eq_false_or_eq_true fi with f1 | f1
              · rw [f1] at k0
                rw [f1]
                rcases HOS.out.kind with k | k
                · have K1 : jk = 1 := k
                  rw [K1] at z7
                  as_aux_lemma =>
                  go_quiet (fail)
                  go_wp2_with fail
                  go_meet
                  case rel => exact ⟨rfl, _, rfl⟩
                · have K1 : jk = 2 := k
                  rw [K1] at z7
                  rw [hval f1 K1] at k1
                  as_aux_lemma =>
                  go_quiet (fail)
                  go_wp2_with fail
                  go_meet
                  case rel => exact ⟨by simp, _, rfl⟩
              · rw [f1] at k0
                rw [f1]
                as_aux_lemma =>
                go_quiet (fail)
                go_wp2_with fail
                go_meet
                case rel => exact ⟨rfl, _, rfl⟩
            case rest =>
            as_aux_lemma =>
            obtain ⟨rfl, m7, rfl⟩ := hcut
            go_wp2_with (first | rw [gx2])
            go_roundw
            case rel =>
              rw [gx1]
              have := li_done (wq := wc.drewN m7) (K := K) (vl := u14) (lo := W5.heap.size + 2) (B := W5.heap.size) (W := W5) HOS.out he hlt vi_next HKEEP.out.1 (HD7.out.of_block rfl) (HP7.out.of_block rfl) (ownsRow_keep (w' := wc.drewN m7) HL7.out (fun b _ _ => rfl)) (below_drewN HB7.out _) (thr _).1 (thr _).2.1 (Nat.le_refl _)
              first | exact this | (rw [sz5] at this; exact this) | (simp only [sz5] at this ⊢; exact this)
            case measure => rw [gx1]; exact meas_next hlt
          · have he2 : ee = false := by simpa using he
            as_aux_lemma =>
            go_wp2_with (first | rw [he2])
            go_roundw
            case rel =>
              rw [gx1]
              have := li_fin (K := K) HOS.out he2 hlt vi_next HD7.out HP7.out HL7.out HB7.out
              first | exact this | (rw [sz5] at this; exact this) | (simp only [sz5] at this ⊢; exact this)
            case measure => rw [gx1]; exact meas_next hlt
        · have hlt' : ¬ (i : Int) < K := by omega
          go_wp2_with fail
          go_ret
          exact ⟨rfl, B5.out.trans (HBr.out.mono B5.out.size)⟩
end Pile
end Go.Proofs.Ytohjlcmekkllgaa
