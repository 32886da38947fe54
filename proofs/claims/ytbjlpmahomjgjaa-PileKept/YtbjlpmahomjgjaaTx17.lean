/-
  Lemmas: PileKY.
-/
import Derived.Test.YtbjlpmahomjgjaaTx16
import Derived.Deep.CutBlock
set_option linter.unusedVariables false
set_option linter.unusedSimpArgs false
set_option linter.unnecessarySimpa false
set_option maxRecDepth 20000
namespace Go.Proofs.Ytbjlpmahomjgjaa
open Go.RowKit
namespace PKept
open Pile

variable {w : World} {aoh aos : Option Addr} {caph caps : Nat} {P : Par} {room : Int}

set_option maxHeartbeats 8000000 in
theorem kept_walk {r : Nat} (hroom : 1 ≤ room ∧ room ≤ 64 → room = (r : Int)) (hn : P.n = 2 + 2 * r) (SH : SeesH w w.heap.size aoh P.nh P.jn P.jb) (hn63 : P.nh ≤ 9223372036854775807) (SI : SeesI w w.heap.size aos P.ns P.sched) (hjw : ∀ h, h < P.nh → ∀ j, j < P.jn h → (P.jb h j).wf) :
    Calls Try.prog 6 #[.int .i64 room, .slice aoh P.nh caph, .slice aos P.ns caps] w fun e w' => e = .returned (.bool true) ∧ Below w.heap.size w w' := by
  have FB := hide (fun (h : room < 1 ∨ 64 < room) (w1 : World) => fresh_bad w1 ⟨0, 0, 0, 0, 0, room⟩ h)
  have FO := hide (fun (h1 : 1 ≤ room) (h2 : room ≤ 64) (w1 : World) => fresh_ok w1 ⟨0, 0, 0, 0, 0, room⟩ h1 h2 (want := P.n) (r := r) (hroom ⟨h1, h2⟩).symm hn)
  have PL := hide (fun (h1 : 1 ≤ room) (h2 : room ≤ 64) (w1 : World) (B1 : Below w.heap.size w w1) ao cap (S : Sees w1 w1.heap.size ao P.n (pfr r)) => play_told (sh := ⟨0, 0, 0, 0, 0, room⟩) (caph := caph) (caps := caps) (cap := cap) (most := 65536) (r := r) (by have := hroom ⟨h1, h2⟩; omega) (by have := hroom ⟨h1, h2⟩; omega) (hroom ⟨h1, h2⟩) hn S ((SH.below B1 (Nat.le_refl _)).up B1.size) hn63 ((SI.below B1 (Nat.le_refl _)).up B1.size) hjw)
  simp only [Shp.val] at FB FO PL
  have HSH := hide SH
  have HJW := hide hjw
  have HN := hide hn
  clear SH SI hjw hn
  go_enter Try.func6, Try.ntmps6
  go_wp2_with fail
  refine (awake_any w).mono ?_
  rintro e w1 ⟨rfl, hb1⟩
  have hs1 := hb1.size
  obtain ⟨W2, hW2⟩ : ∃ W2, w1.alloc (.cells #[.int .i64 0, .int .i64 0, .int .i64 0, .int .i64 0, .int .i64 0, .int .i64 room] 23) = W2 := ⟨_, rfl⟩
  have B2 : Below w.heap.size w W2 := by rw [← hW2]; exact hb1.alloc hs1 _
  have R2 : W2.rowIs w1.heap.size 23 6 (lrow [.int .i64 0, .int .i64 0, .int .i64 0, .int .i64 0, .int .i64 0, .int .i64 room]) := by rw [← hW2]; exact rowL_alloc w1 [.int .i64 0, .int .i64 0, .int .i64 0, .int .i64 0, .int .i64 0, .int .i64 room] _ rfl
  have sz2 : W2.heap.size = w1.heap.size + 1 := by rw [← hW2]; simp
  have c0 : W2.cell? ⟨w1.heap.size, 0, none⟩ = some (.int .i64 0) := R2.cell (i := 0) (by decide)
  have c1 : W2.cell? ⟨w1.heap.size, 1, none⟩ = some (.int .i64 0) := R2.cell (i := 1) (by decide)
  have c2 : W2.cell? ⟨w1.heap.size, 2, none⟩ = some (.int .i64 0) := R2.cell (i := 2) (by decide)
  have c3 : W2.cell? ⟨w1.heap.size, 3, none⟩ = some (.int .i64 0) := R2.cell (i := 3) (by decide)
  have c4 : W2.cell? ⟨w1.heap.size, 4, none⟩ = some (.int .i64 0) := R2.cell (i := 4) (by decide)
  have c5 : W2.cell? ⟨w1.heap.size, 5, none⟩ = some (.int .i64 room) := R2.cell (i := 5) (by decide)
  have HB2 := hide B2
  have HR2 := hide R2
  clear hb1 B2 R2
  by_cases hr : room < 1 ∨ 64 < room
  · have HF := hide (FB.out hr)
    clear FB FO PL
    go_wp2_with fail
    refine (HF.out _).mono ?_
    rintro e w3 ⟨rfl, hg3⟩
    have HG3 := hide hg3
    clear hg3 c0 c1 c2 c3 c4 c5 hW2
    have hv : (decide (room < 1) || decide (room > 64)) = true := by simp; omega
    rcases hr with hr | hr
    · go_wp2_with fail
      go_ret
      exact ⟨rfl, HB2.out.trans ((below_of_grown_none HG3.out _ (Nat.le_refl _)).mono HB2.out.size)⟩
    · have hr' : ¬ room < 1 := by omega
      go_wp2_with fail
      go_ret
      exact ⟨rfl, HB2.out.trans ((below_of_grown_none HG3.out _ (Nat.le_refl _)).mono HB2.out.size)⟩
  · have r1 : 1 ≤ room := by omega
    have r2 : room ≤ 64 := by omega
    have HF := hide (FO.out r1 r2)
    have HP := hide (PL.out r1 r2)
    obtain rfl := hroom ⟨r1, r2⟩
    clear FB FO PL hroom
    go_wp2_with fail
    refine (HF.out _).mono ?_
    rintro e w3 ⟨g, rfl, RW, hg, hg3⟩
    have hs3 := hg3.size
    have B3 := HB2.out.trans ((below_of_grown_none hg3 _ (Nat.le_refl _)).mono HB2.out.size)
    have b3 := below_of_grown_none hg3 _ (Nat.le_refl _)
    have R3 := HR2.out.of_block (b3.block w1.heap.size (by omega))
    have HB3 := hide B3
    have S3 := hide (RW.sees)
    have d0 : w3.cell? ⟨w1.heap.size, 0, none⟩ = some (.int .i64 0) := R3.cell (i := 0) (by decide)
    have d1 : w3.cell? ⟨w1.heap.size, 1, none⟩ = some (.int .i64 0) := R3.cell (i := 1) (by decide)
    have d2 : w3.cell? ⟨w1.heap.size, 2, none⟩ = some (.int .i64 0) := R3.cell (i := 2) (by decide)
    have d3 : w3.cell? ⟨w1.heap.size, 3, none⟩ = some (.int .i64 0) := R3.cell (i := 3) (by decide)
    have d4 : w3.cell? ⟨w1.heap.size, 4, none⟩ = some (.int .i64 0) := R3.cell (i := 4) (by decide)
    have d5 : w3.cell? ⟨w1.heap.size, 5, none⟩ = some (.int .i64 r) := R3.cell (i := 5) (by decide)
    clear hg3 c0 c1 c2 c3 c4 c5 hW2 B3 b3 R3 RW
    go_wp2_with fail
    refine (HP.out w3 HB3.out _ _ S3.out).mono ?_
    rintro e w4 ⟨hb4, hR⟩
    have hs4 := hb4.size
    clear d0 d1 d2 d3 d4 d5
    rcases hR with ⟨er, her, rfl⟩ | ⟨hok, hnh, hjn, hmost, sa, sc, wa, wc, aa, ac, rfl, SS, SW, SA⟩
    · have HB4 := hide (HB3.out.trans (hb4.mono HB3.out.size))
      clear hb4
      unfold errVal
      go_wp2_with fail
      go_ret
      exact ⟨rfl, HB4.out.alloc (by omega) _⟩
    · obtain ⟨K, hK⟩ : ∃ K, (runSt P (st0 kPile P (pfr r)) (65536 : Int).toNat).k = K := ⟨_, rfl⟩
      rw [hK] at SS ⊢
      have HEN := hide (fun (he : decide (cnt ((runSt P (st0 kPile P (pfr r)) (65536 : Int).toNat).going P) P.nh = 0) = true) => whole_told (by omega) (by omega) HN.out hok HJW.out (by decide) (of_decide_eq_true he))
      generalize hen : decide (cnt ((runSt P (st0 kPile P (pfr r)) (65536 : Int).toNat).going P) P.nh = 0) = en at HEN ⊢
      obtain ⟨W5, hW5⟩ : ∃ W5, w4.alloc (.cells #[.slice sa K sc, .slice wa P.n wc, .bool en] 30) = W5 := ⟨_, rfl⟩
      have B45 : Below w4.heap.size w4 W5 := by rw [← hW5]; exact (Below.refl _ w4).alloc (Nat.le_refl _) _
      have R5 : W5.rowIs w4.heap.size 30 3 (lrow [.slice sa K sc, .slice wa P.n wc, .bool en]) := by rw [← hW5]; exact rowL_alloc w4 [.slice sa K sc, .slice wa P.n wc, .bool en] _ rfl
      have B5 := hide ((HB3.out.trans (hb4.mono HB3.out.size)).trans (B45.mono (by omega)))
      have SW5 := hide ((SW.below B45 (Nat.le_refl _)).mono B45.size)
      have SA5 := hide ((SA.below B45 (Nat.le_refl _)).mono B45.size)
      have SH5 := hide ((HSH.out.below B5.out (Nat.le_refl _)).up B5.out.size)
      have t1 : W5.cell? ⟨w4.heap.size, 1, none⟩ = some (.slice wa P.n wc) := R5.cell (i := 1) (by decide)
      have t2 : W5.cell? ⟨w4.heap.size, 2, none⟩ = some (.bool en) := R5.cell (i := 2) (by decide)
      have HJN := hide (And.intro hnh hjn)
      have HR := hide (show 1 ≤ r ∧ r ≤ 64 by omega)
      clear hb4 B45 R5 SS SW SA hok S3 HP HF HSH HR2 hen hnh hjn hmost hK
      go_upto_region 8 with (fail)
      clear hW5
      cases en with
      | false =>
        go_wp2_with fail
        go_ret
        exact ⟨rfl, B5.out⟩
      | true =>
        obtain ⟨l0, l1, hf, C0, C1, hl, hnd, hq, hdn, hc⟩ := HEN.out rfl
        have WH := hide (whole_any (w := W5) (wcap := wc) (hcap := caph) (acap := ac) HR.out.1 HR.out.2 HN.out HJN.out.1 HJN.out.2 SW5.out hf SH5.out (seesA_jn SA5.out hdn) C0 C1 hl hnd hq hc)
        clear hf C0 C1 hl hnd hq hdn hc HEN
        go_wp2_with fail
        refine WH.out.mono ?_
        rintro e w6 ⟨rfl, hb6⟩
        have HB6 := hide (B5.out.trans (hb6.mono B5.out.size))
        clear hb6
        go_wp2_with fail
        go_ret
        exact ⟨rfl, HB6.out⟩
end PKept
end Go.Proofs.Ytbjlpmahomjgjaa
