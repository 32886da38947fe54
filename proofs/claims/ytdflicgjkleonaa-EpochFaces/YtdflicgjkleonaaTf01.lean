/-
  Lemmas: EpochFE.
-/
import Derived.Test.YtdflicgjkleonaaTp33
import Derived.Test.YtdflicgjkleonaaTp39
set_option linter.unusedVariables false
set_option linter.unusedSimpArgs false
set_option linter.unnecessarySimpa false
set_option maxRecDepth 20000
namespace Go.Proofs.Ytdflicgjkleonaa
open Go.RowKit
namespace Epoch

set_option maxHeartbeats 2000000 in
theorem rfresh_ok (w : World) (sh : Shp) (h1 : 1 ≤ sh.f) (h2 : sh.f ≤ 64) {want : Nat} (hwant : (want : Int) = 9 + sh.f) : Calls Try.prog 17 #[sh.val] w fun e w' => ∃ g, e = .returned (.tuple #[.slice (some ⟨g, 0, none⟩) want want, .int .i64 0]) ∧ IsRow w' g want want (fun _ => 0) ∧ w.heap.size ≤ g ∧ w.grownBy w' none := by
  have SZ := hide (fun w' : World => rsize_ok w' sh h1 h2)
  obtain ⟨s0, s1, s2, s3, s4, s5⟩ := sh
  simp only [Shp.val] at SZ h1 h2 hwant ⊢
  rw [← hwant] at SZ
  have hmk := run_make_z (P := Try.prog) 24 42 _ 1 8 Try.underlying24 info46 want (by omega) (by omega)
  simp only [Nat.mul_one] at hmk
  have hw4 : want ≤ 128 := by omega
  clear hwant
  go_enter Try.func17, Try.ntmps17
  go_wp2_with (go_at_call 15; refine (SZ.out _).mono ?_; rintro e w1 ⟨rfl, hg1⟩; have HG := hide hg1; have sz1 := hg1.size; simp only [World.size_alloc] at sz1; clear hg1)
  go_ret2
  exact ⟨w1.heap.size, rfl, ⟨Nat.le_refl _, by unfold maxLen; omega, ⟨_, World.rowIs_made w1 (.int .u64 0) want 42, fun i hi => rfl⟩, fun i hi => ⟨Int.le_refl 0, by show (0 : Int) ≤ 18446744073709551615; decide⟩⟩, by omega, grown_alloc (grown_trans (grown_alloc (grown_refl _ _) _) HG.out) _⟩
set_option maxHeartbeats 2000000 in
theorem rfresh_bad (w : World) (sh : Shp) (h : sh.f < 1 ∨ 64 < sh.f) : Calls Try.prog 17 #[sh.val] w fun e w' => e = .returned (.tuple #[.slice none 0 0, .int .i64 120]) ∧ w.grownBy w' none := by
  have SZ := hide (fun w' : World => rsize_bad w' sh h)
  obtain ⟨s0, s1, s2, s3, s4, s5⟩ := sh
  simp only [Shp.val] at SZ h ⊢
  go_enter Try.func17, Try.ntmps17
  go_wp2_with (go_at_call 15; refine (SZ.out _).mono ?_; rintro e w1 ⟨rfl, hg1⟩; have HG := hide hg1; clear hg1)
  go_ret2
  exact ⟨rfl, grown_trans (grown_alloc (grown_refl _ _) _) HG.out⟩

set_option maxHeartbeats 8000000 in
theorem faces_err {w : World} {sh : Shp} {hand : Int} {j : Jb} {want : Nat} {E1 E2 : Int} {cs : List Value} (hw : want ≤ 128) (hE : ¬ E2 = 0)
    (HSP : ∀ w : World, Calls Try.prog 14 #[sh.val] w fun e w' => e = .returned (.tuple #[.int .i64 want, .int .i64 E1]) ∧ w.grownBy w' none)
    (HSR : ∀ w : World, Calls Try.prog 15 #[sh.val] w fun e w' => e = .returned (.tuple #[.int .i64 want, .int .i64 E1]) ∧ w.grownBy w' none)
    (HFP : ∀ w : World, Calls Try.prog 16 #[sh.val] w fun e w' => ∃ ao cap, e = .returned (.tuple #[.slice ao want cap, .int .i64 E1]) ∧ Sees w' w'.heap.size ao want (fun _ => 0) ∧ w.grownBy w' none)
    (HFR : ∀ w : World, Calls Try.prog 17 #[sh.val] w fun e w' => ∃ ao cap, e = .returned (.tuple #[.slice ao want cap, .int .i64 E1]) ∧ Sees w' w'.heap.size ao want (fun _ => 0) ∧ w.grownBy w' none)
    (HTK : ∀ w : World, Calls Try.prog 19 #[sh.val, .int .i64 hand, j.val] w fun e w' => e = .returned (.tuple #[.nilIface, .int .i64 E2]) ∧ w.grownBy w' none)
    (hcs : IsTk cs) (HST : ∀ w : World, Calls Try.prog 20 #[sh.val, .int .i64 hand, j.val, kept0] w fun e w' => e = .returned (.tuple #[.agg cs.toArray, .int .i64 E2]) ∧ Below w.heap.size w w') :
    Calls Try.prog 4 #[sh.val, .int .i64 hand, j.val] w fun e w' => e = .returned (.bool true) ∧ Below w.heap.size w w' := by
  obtain ⟨s0, s1, s2, s3, s4, s5⟩ := sh
  obtain ⟨kind, a, b, c, hh⟩ := j
  simp only [Shp.val, Jb.val, kept0] at HSR HSP HFR HFP HST HTK ⊢
  have KSR := hide HSR
  have KSP := hide HSP
  have KFR := hide HFR
  have KFP := hide HFP
  have KST := hide HST
  have KTK := hide HTK
  have KCS := hide hcs
  clear HSR HSP HFR HFP HST HTK hcs
  obtain ⟨W0, hW0⟩ : ∃ W0, (w.alloc (.cells #[.int .i64 s0, .int .i64 s1, .int .i64 s2, .int .i64 s3, .int .i64 s4, .int .i64 s5] 23)).alloc (.cells #[.int .i64 kind, .int .i64 a, .int .i64 b, .int .i64 c, .int .u64 hh] 44) = W0 := ⟨_, rfl⟩
  have b0 : Below w.heap.size w W0 := by rw [← hW0]; exact ((Below.refl _ w).alloc (Nat.le_refl _) _).alloc (by simp) _
  have sz0 : W0.heap.size = w.heap.size + 2 := by rw [← hW0]; simp
  have R0 : W0.rowIs w.heap.size 23 6 (lrow [.int .i64 s0, .int .i64 s1, .int .i64 s2, .int .i64 s3, .int .i64 s4, .int .i64 s5]) := by rw [← hW0]; exact (rowL_alloc w [.int .i64 s0, .int .i64 s1, .int .i64 s2, .int .i64 s3, .int .i64 s4, .int .i64 s5] _ rfl).alloc _
  have R1 : W0.rowIs (w.heap.size + 1) 44 5 (lrow [.int .i64 kind, .int .i64 a, .int .i64 b, .int .i64 c, .int .u64 hh]) := by
    rw [← hW0]
    have := rowL_alloc (w.alloc (.cells #[.int .i64 s0, .int .i64 s1, .int .i64 s2, .int .i64 s3, .int .i64 s4, .int .i64 s5] 23)) [.int .i64 kind, .int .i64 a, .int .i64 b, .int .i64 c, .int .u64 hh] 44 (n := 5) rfl
    rwa [World.size_alloc] at this
  have keep : Hid (∀ w' : World, Below W0.heap.size W0 w' → Below w.heap.size w w' ∧ (w.heap.size + 1 < w'.heap.size) ∧ (w'.cell? ⟨w.heap.size, 0, none⟩ = some (.int .i64 s0) ∧ w'.cell? ⟨w.heap.size, 1, none⟩ = some (.int .i64 s1) ∧ w'.cell? ⟨w.heap.size, 2, none⟩ = some (.int .i64 s2) ∧ w'.cell? ⟨w.heap.size, 3, none⟩ = some (.int .i64 s3) ∧ w'.cell? ⟨w.heap.size, 4, none⟩ = some (.int .i64 s4) ∧ w'.cell? ⟨w.heap.size, 5, none⟩ = some (.int .i64 s5)) ∧
      w'.cell? ⟨w.heap.size + 1, 0, none⟩ = some (.int .i64 kind) ∧ w'.cell? ⟨w.heap.size + 1, 1, none⟩ = some (.int .i64 a) ∧ w'.cell? ⟨w.heap.size + 1, 2, none⟩ = some (.int .i64 b) ∧ w'.cell? ⟨w.heap.size + 1, 3, none⟩ = some (.int .i64 c) ∧ w'.cell? ⟨w.heap.size + 1, 4, none⟩ = some (.int .u64 hh)) := fun w' hb => by
    have r := R0.of_block (hb.block w.heap.size R0.lt)
    have r' := R1.of_block (hb.block (w.heap.size + 1) R1.lt)
    exact ⟨b0.trans (hb.mono b0.size), r'.lt, ⟨r.cell (i := 0) (by decide), r.cell (i := 1) (by decide), r.cell (i := 2) (by decide), r.cell (i := 3) (by decide), r.cell (i := 4) (by decide), r.cell (i := 5) (by decide)⟩, r'.cell (i := 0) (by decide), r'.cell (i := 1) (by decide), r'.cell (i := 2) (by decide), r'.cell (i := 3) (by decide), r'.cell (i := 4) (by decide)⟩
  clear b0 R0 R1
  go_enter Try.func4, Try.ntmps4
  go_wp2_with fail
  refine (alive_any W0).mono ?_
  rintro e w1 ⟨rfl, hb1⟩
  have HB1 := hide hb1
  obtain ⟨_, l1, ⟨c0, c1, c2, c3, c4, c5⟩, _⟩ := keep.out w1 hb1
  clear hb1 hW0
  go_wp2_with fail
  refine (KSP.out w1).mono ?_
  rintro e w2 ⟨rfl, hg⟩
  have HB2 := hide (HB1.out.trans (below_of_grown_none hg W0.heap.size HB1.out.size))
  clear hg c0 c1 c2 c3 c4 c5
  obtain ⟨_, l2, ⟨c0, c1, c2, c3, c4, c5⟩, _⟩ := keep.out w2 HB2.out
  go_wp2_with fail
  refine (KSR.out w2).mono ?_
  rintro e w3 ⟨rfl, hg⟩
  have HB3 := hide (HB2.out.trans (below_of_grown_none hg W0.heap.size HB2.out.size))
  clear hg c0 c1 c2 c3 c4 c5
  obtain ⟨_, l3, ⟨c0, c1, c2, c3, c4, c5⟩, _⟩ := keep.out w3 HB3.out
  go_wp2_with fail
  refine (KFP.out w3).mono ?_
  rintro e w4 ⟨ao, cap, rfl, S4, hg⟩
  have HB4 := hide (HB3.out.trans (below_of_grown_none hg W0.heap.size HB3.out.size))
  have HS4 := hide S4
  clear hg S4 c0 c1 c2 c3 c4 c5
  obtain ⟨_, l4, ⟨c0, c1, c2, c3, c4, c5⟩, _⟩ := keep.out w4 HB4.out
  go_wp2_with fail
  refine (KFR.out w4).mono ?_
  rintro e w5 ⟨ao', cap', rfl, S5, hg⟩
  have HB5 := hide (HB4.out.trans (below_of_grown_none hg W0.heap.size HB4.out.size))
  have HS45 := hide (HS4.out.below (below_of_grown_none hg w4.heap.size (Nat.le_refl _)) (Nat.le_refl _))
  have HS5 := hide S5
  clear hg S5 c0 c1 c2 c3 c4 c5
  go_wp2_with fail
  refine (same_words HS45.out HS5.out (fun i hi => rfl) (by omega)).mono ?_
  rintro e w6 ⟨rfl, m6, hw6⟩
  have HB6 := hide (show Below W0.heap.size W0 w6 from by rw [hw6]; exact below_drewN HB5.out m6)
  clear hw6
  obtain ⟨_, l6, ⟨c0, c1, c2, c3, c4, c5⟩, d0, d1, d2, d3, d4⟩ := keep.out w6 HB6.out
  go_wp2_with fail
  refine (KTK.out w6).mono ?_
  rintro e w7 ⟨rfl, hg⟩
  have HB7 := hide (HB6.out.trans (below_of_grown_none hg W0.heap.size HB6.out.size))
  clear hg c0 c1 c2 c3 c4 c5 d0 d1 d2 d3 d4
  obtain ⟨_, l7, ⟨c0, c1, c2, c3, c4, c5⟩, d0, d1, d2, d3, d4⟩ := keep.out w7 HB7.out
  go_wp2_with fail
  refine (KST.out w7).mono ?_
  rintro e w8 ⟨rfl, hb⟩
  have HB8 := hide (HB7.out.trans (hb.mono HB7.out.size))
  clear hb c0 c1 c2 c3 c4 c5 d0 d1 d2 d3 d4
  obtain ⟨W9, hW9⟩ : ∃ W9, w8.alloc (.cells tk0.toArray 64) = W9 := ⟨_, rfl⟩
  have th9 : W9.there w8.heap.size 0 28 := by
    rw [← hW9]
    have := there_alloc_new (w := w8) (t := 64) (cs := tk0)
    simpa [tk0] using this
  have B9 : Below w8.heap.size w8 W9 := by rw [← hW9]; exact (Below.refl _ w8).alloc (Nat.le_refl _) _
  obtain ⟨W10, hW10⟩ : ∃ W10, W9.setCells w8.heap.size 0 cs = W10 := ⟨_, rfl⟩
  have B10 : Below w8.heap.size w8 W10 := by rw [← hW10]; exact B9.trans ((touch_setCells w8.heap.size cs 0 W9).below (fun k hk => by omega) B9.size)
  have FIN := hide (keep.out W10 (HB8.out.trans (B10.mono HB8.out.size))).1
  have TH9 := hide th9
  have HW10 := hide hW10
  have hn := iface_none
  have hE' : (E2 != 0) = true := by simpa using hE
  clear B9 B10 th9 hW10
  simp only [tk0] at hW9
  go_wp2_with (refine wpList_store_mid (by rfl) 64 (.tmp 17) (.tmp 81) (by rfl) w8.heap.size 0 cs.toArray (by rfl) (by rfl) (by simpa [KCS.out.1] using TH9.out) (by simpa [KCS.out.1] using size79) (by exact all_oneCell_toArray KCS.out.2) ?_; rw [List.toList_toArray, HW10.out]; clear hW9)
  go_ret
  exact ⟨rfl, FIN.out⟩
end Epoch
end Go.Proofs.Ytdflicgjkleonaa
