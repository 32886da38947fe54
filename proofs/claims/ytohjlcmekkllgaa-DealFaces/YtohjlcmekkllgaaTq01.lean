/-
  DealFaces: whatever shape, hand and job are handed in, the deal's Size, Fresh and Task tell the reference's numbers, words and errors, and a task driven alone tells the reference's steps, words and answer: the law answers true, and the input reads as it did. No condition beyond the row's.
-/
import Derived.Test.YtohjlcmekkllgaaTp33
import Derived.Test.YtohjlcmekkllgaaTp44
import Derived.Deep.RegionHeld
import Derived.Test.YtohjlcmekkllgaaTp31
import Derived.Test.YtohjlcmekkllgaaTp20
/-
  DealFaces: where the job is refused.
-/
namespace Go.Proofs.Ytohjlcmekkllgaa
open Go.RowKit
set_option linter.unusedVariables false
set_option linter.unusedSimpArgs false
set_option linter.unnecessarySimpa false
set_option maxRecDepth 20000
namespace Deal

set_option maxHeartbeats 2000000 in
theorem rfresh_ok (w : World) (sh : Shp) (h1 : 1 ≤ sh.f) (h2 : sh.f ≤ 64) {want : Nat} (hwant : (want : Int) = 2 + sh.f) : Calls Try.prog 17 #[sh.val] w fun e w' => ∃ g, e = .returned (.tuple #[.slice (some ⟨g, 0, none⟩) want want, .int .i64 0]) ∧ IsRow w' g want want (fun _ => 0) ∧ w.heap.size ≤ g ∧ w.grownBy w' none := by
  have SZ := hide (fun w' : World => rsize_ok w' sh h1 h2)
  obtain ⟨s0, s1, s2, s3, s4, s5⟩ := sh
  simp only [Shp.val] at SZ h1 h2 hwant ⊢
  rw [← hwant] at SZ
  have hmk := run_make_z (P := Try.prog) 24 42 _ 1 8 Try.underlying24 info46 want (by omega) (by omega)
  simp only [Nat.mul_one] at hmk
  have hw4 : want ≤ 128 := by omega
  clear hwant
  go_enter Try.func17, Try.ntmps17
  go_wp2_with (go_at_call 15; refine (SZ.out _).mono ?_; rintro e w1 ⟨rfl, hg1⟩; have HG := hide hg1; have sz1 := hg1.size; simp only [World.size_alloc] at sz1; clear hg1)
  go_ret2
  exact ⟨w1.heap.size, rfl, ⟨Nat.le_refl _, by unfold maxLen; omega, ⟨_, World.rowIs_made w1 (.int .u64 0) want 42, fun i hi => rfl⟩, fun i hi => ⟨Int.le_refl 0, by show (0 : Int) ≤ 18446744073709551615; decide⟩⟩, by omega, grown_alloc (grown_trans (grown_alloc (grown_refl _ _) _) HG.out) _⟩
set_option maxHeartbeats 2000000 in
theorem rfresh_bad (w : World) (sh : Shp) (h : sh.f < 1 ∨ 64 < sh.f) : Calls Try.prog 17 #[sh.val] w fun e w' => e = .returned (.tuple #[.slice none 0 0, .int .i64 120]) ∧ w.grownBy w' none := by
  have SZ := hide (fun w' : World => rsize_bad w' sh h)
  obtain ⟨s0, s1, s2, s3, s4, s5⟩ := sh
  simp only [Shp.val] at SZ h ⊢
  go_enter Try.func17, Try.ntmps17
  go_wp2_with (go_at_call 15; refine (SZ.out _).mono ?_; rintro e w1 ⟨rfl, hg1⟩; have HG := hide hg1; clear hg1)
  go_ret2
  exact ⟨rfl, grown_trans (grown_alloc (grown_refl _ _) _) HG.out⟩

set_option maxHeartbeats 8000000 in
theorem faces_err {w : World} {sh : Shp} {hand : Int} {j : Jb} {want : Nat} {E1 E2 : Int} {cs : List Value} (hw : want ≤ 128) (hE : ¬ E2 = 0)
    (HSP : ∀ w : World, Calls Try.prog 14 #[sh.val] w fun e w' => e = .returned (.tuple #[.int .i64 want, .int .i64 E1]) ∧ w.grownBy w' none)
    (HSR : ∀ w : World, Calls Try.prog 15 #[sh.val] w fun e w' => e = .returned (.tuple #[.int .i64 want, .int .i64 E1]) ∧ w.grownBy w' none)
    (HFP : ∀ w : World, Calls Try.prog 16 #[sh.val] w fun e w' => ∃ ao cap, e = .returned (.tuple #[.slice ao want cap, .int .i64 E1]) ∧ Sees w' w'.heap.size ao want (fun _ => 0) ∧ w.grownBy w' none)
    (HFR : ∀ w : World, Calls Try.prog 17 #[sh.val] w fun e w' => ∃ ao cap, e = .returned (.tuple #[.slice ao want cap, .int .i64 E1]) ∧ Sees w' w'.heap.size ao want (fun _ => 0) ∧ w.grownBy w' none)
    (HTK : ∀ w : World, Calls Try.prog 19 #[sh.val, .int .i64 hand, j.val] w fun e w' => e = .returned (.tuple #[.nilIface, .int .i64 E2]) ∧ w.grownBy w' none)
    (hcs : IsTk cs) (HST : ∀ w : World, Calls Try.prog 20 #[sh.val, .int .i64 hand, j.val, kept0] w fun e w' => e = .returned (.tuple #[.agg cs.toArray, .int .i64 E2]) ∧ Below w.heap.size w w') :
    Calls Try.prog 4 #[sh.val, .int .i64 hand, j.val] w fun e w' => e = .returned (.bool true) ∧ Below w.heap.size w w' := by
  obtain ⟨s0, s1, s2, s3, s4, s5⟩ := sh
  obtain ⟨kind, a, b, c, hh⟩ := j
  simp only [Shp.val, Jb.val, kept0] at HSR HSP HFR HFP HST HTK ⊢
  have KSR := hide HSR
  have KSP := hide HSP
  have KFR := hide HFR
  have KFP := hide HFP
  have KST := hide HST
  have KTK := hide HTK
  have KCS := hide hcs
  clear HSR HSP HFR HFP HST HTK hcs
  obtain ⟨W0, hW0⟩ : ∃ W0, (w.alloc (.cells #[.int .i64 s0, .int .i64 s1, .int .i64 s2, .int .i64 s3, .int .i64 s4, .int .i64 s5] 23)).alloc (.cells #[.int .i64 kind, .int .i64 a, .int .i64 b, .int .i64 c, .int .u64 hh] 44) = W0 := ⟨_, rfl⟩
  have b0 : Below w.heap.size w W0 := by rw [← hW0]; exact ((Below.refl _ w).alloc (Nat.le_refl _) _).alloc (by simp) _
  have sz0 : W0.heap.size = w.heap.size + 2 := by rw [← hW0]; simp
  have R0 : W0.rowIs w.heap.size 23 6 (lrow [.int .i64 s0, .int .i64 s1, .int .i64 s2, .int .i64 s3, .int .i64 s4, .int .i64 s5]) := by rw [← hW0]; exact (rowL_alloc w [.int .i64 s0, .int .i64 s1, .int .i64 s2, .int .i64 s3, .int .i64 s4, .int .i64 s5] _ rfl).alloc _
  have R1 : W0.rowIs (w.heap.size + 1) 44 5 (lrow [.int .i64 kind, .int .i64 a, .int .i64 b, .int .i64 c, .int .u64 hh]) := by
    rw [← hW0]
    have := rowL_alloc (w.alloc (.cells #[.int .i64 s0, .int .i64 s1, .int .i64 s2, .int .i64 s3, .int .i64 s4, .int .i64 s5] 23)) [.int .i64 kind, .int .i64 a, .int .i64 b, .int .i64 c, .int .u64 hh] 44 (n := 5) rfl
    rwa [World.size_alloc] at this
  have keep : Hid (∀ w' : World, Below W0.heap.size W0 w' → Below w.heap.size w w' ∧ (w.heap.size + 1 < w'.heap.size) ∧ (w'.cell? ⟨w.heap.size, 0, none⟩ = some (.int .i64 s0) ∧ w'.cell? ⟨w.heap.size, 1, none⟩ = some (.int .i64 s1) ∧ w'.cell? ⟨w.heap.size, 2, none⟩ = some (.int .i64 s2) ∧ w'.cell? ⟨w.heap.size, 3, none⟩ = some (.int .i64 s3) ∧ w'.cell? ⟨w.heap.size, 4, none⟩ = some (.int .i64 s4) ∧ w'.cell? ⟨w.heap.size, 5, none⟩ = some (.int .i64 s5)) ∧
      w'.cell? ⟨w.heap.size + 1, 0, none⟩ = some (.int .i64 kind) ∧ w'.cell? ⟨w.heap.size + 1, 1, none⟩ = some (.int .i64 a) ∧ w'.cell? ⟨w.heap.size + 1, 2, none⟩ = some (.int .i64 b) ∧ w'.cell? ⟨w.heap.size + 1, 3, none⟩ = some (.int .i64 c) ∧ w'.cell? ⟨w.heap.size + 1, 4, none⟩ = some (.int .u64 hh)) := fun w' hb => by
    have r := R0.of_block (hb.block w.heap.size R0.lt)
    have r' := R1.of_block (hb.block (w.heap.size + 1) R1.lt)
    exact ⟨b0.trans (hb.mono b0.size), r'.lt, ⟨r.cell (i := 0) (by decide), r.cell (i := 1) (by decide), r.cell (i := 2) (by decide), r.cell (i := 3) (by decide), r.cell (i := 4) (by decide), r.cell (i := 5) (by decide)⟩, r'.cell (i := 0) (by decide), r'.cell (i := 1) (by decide), r'.cell (i := 2) (by decide), r'.cell (i := 3) (by decide), r'.cell (i := 4) (by decide)⟩
  clear b0 R0 R1
  go_enter Try.func4, Try.ntmps4
  go_wp2_with fail
  refine (alive_any W0).mono ?_
  rintro e w1 ⟨rfl, hb1⟩
  have HB1 := hide hb1
  obtain ⟨_, l1, ⟨c0, c1, c2, c3, c4, c5⟩, _⟩ := keep.out w1 hb1
  clear hb1 hW0
  go_wp2_with fail
  refine (KSP.out w1).mono ?_
  rintro e w2 ⟨rfl, hg⟩
  have HB2 := hide (HB1.out.trans (below_of_grown_none hg W0.heap.size HB1.out.size))
  clear hg c0 c1 c2 c3 c4 c5
  obtain ⟨_, l2, ⟨c0, c1, c2, c3, c4, c5⟩, _⟩ := keep.out w2 HB2.out
  go_wp2_with fail
  refine (KSR.out w2).mono ?_
  rintro e w3 ⟨rfl, hg⟩
  have HB3 := hide (HB2.out.trans (below_of_grown_none hg W0.heap.size HB2.out.size))
  clear hg c0 c1 c2 c3 c4 c5
  obtain ⟨_, l3, ⟨c0, c1, c2, c3, c4, c5⟩, _⟩ := keep.out w3 HB3.out
  go_wp2_with fail
  refine (KFP.out w3).mono ?_
  rintro e w4 ⟨ao, cap, rfl, S4, hg⟩
  have HB4 := hide (HB3.out.trans (below_of_grown_none hg W0.heap.size HB3.out.size))
  have HS4 := hide S4
  clear hg S4 c0 c1 c2 c3 c4 c5
  obtain ⟨_, l4, ⟨c0, c1, c2, c3, c4, c5⟩, _⟩ := keep.out w4 HB4.out
  go_wp2_with fail
  refine (KFR.out w4).mono ?_
  rintro e w5 ⟨ao', cap', rfl, S5, hg⟩
  have HB5 := hide (HB4.out.trans (below_of_grown_none hg W0.heap.size HB4.out.size))
  have HS45 := hide (HS4.out.below (below_of_grown_none hg w4.heap.size (Nat.le_refl _)) (Nat.le_refl _))
  have HS5 := hide S5
  clear hg S5 c0 c1 c2 c3 c4 c5
  go_wp2_with fail
  refine (same_words HS45.out HS5.out (fun i hi => rfl) (by omega)).mono ?_
  rintro e w6 ⟨rfl, m6, hw6⟩
  have HB6 := hide (show Below W0.heap.size W0 w6 from by rw [hw6]; exact below_drewN HB5.out m6)
  clear hw6
  obtain ⟨_, l6, ⟨c0, c1, c2, c3, c4, c5⟩, d0, d1, d2, d3, d4⟩ := keep.out w6 HB6.out
  go_wp2_with fail
  refine (KTK.out w6).mono ?_
  rintro e w7 ⟨rfl, hg⟩
  have HB7 := hide (HB6.out.trans (below_of_grown_none hg W0.heap.size HB6.out.size))
  clear hg c0 c1 c2 c3 c4 c5 d0 d1 d2 d3 d4
  obtain ⟨_, l7, ⟨c0, c1, c2, c3, c4, c5⟩, d0, d1, d2, d3, d4⟩ := keep.out w7 HB7.out
  go_wp2_with fail
  refine (KST.out w7).mono ?_
  rintro e w8 ⟨rfl, hb⟩
  have HB8 := hide (HB7.out.trans (hb.mono HB7.out.size))
  clear hb c0 c1 c2 c3 c4 c5 d0 d1 d2 d3 d4
  obtain ⟨W9, hW9⟩ : ∃ W9, w8.alloc (.cells tk0.toArray 64) = W9 := ⟨_, rfl⟩
  have th9 : W9.there w8.heap.size 0 28 := by
    rw [← hW9]
    have := there_alloc_new (w := w8) (t := 64) (cs := tk0)
    simpa [tk0] using this
  have B9 : Below w8.heap.size w8 W9 := by rw [← hW9]; exact (Below.refl _ w8).alloc (Nat.le_refl _) _
  obtain ⟨W10, hW10⟩ : ∃ W10, W9.setCells w8.heap.size 0 cs = W10 := ⟨_, rfl⟩
  have B10 : Below w8.heap.size w8 W10 := by rw [← hW10]; exact B9.trans ((touch_setCells w8.heap.size cs 0 W9).below (fun k hk => by omega) B9.size)
  have FIN := hide (keep.out W10 (HB8.out.trans (B10.mono HB8.out.size))).1
  have TH9 := hide th9
  have HW10 := hide hW10
  have hn := iface_none
  have hE' : (E2 != 0) = true := by simpa using hE
  clear B9 B10 th9 hW10
  simp only [tk0] at hW9
  go_wp2_with (refine wpList_store_mid (by rfl) 64 (.tmp 17) (.tmp 81) (by rfl) w8.heap.size 0 cs.toArray (by rfl) (by rfl) (by simpa [KCS.out.1] using TH9.out) (by simpa [KCS.out.1] using size79) (by exact all_oneCell_toArray KCS.out.2) ?_; rw [List.toList_toArray, HW10.out]; clear hW9)
  go_ret
  exact ⟨rfl, FIN.out⟩
end Deal
end Go.Proofs.Ytohjlcmekkllgaa

/-
  DealFaces: where the job is taken.
-/
namespace Go.Proofs.Ytohjlcmekkllgaa
open Go.RowKit
set_option linter.unusedVariables false
set_option linter.unusedSimpArgs false
set_option linter.unnecessarySimpa false
set_option maxRecDepth 20000
namespace Deal

theorem words_load1 (n : Nat) (f : Nat → Int) (hand at_ : Int) : wordsOf n f ⟨hand, 1, at_, 0, 0, true⟩ = f := by
  funext i
  unfold wordsOf
  split
  · rename_i hc
    have : (stepOf n f ⟨hand, 1, at_, 0, 0, true⟩).put = f at_.toNat := by
      simp only at hc
      simp [stepOf, hc, putBy, actOf]
    rw [this]
    unfold putF
    split
    · rename_i e; rw [e]
    · rfl
  · rfl

/-- How far a task driven alone on fresh words is. -/
def Alone (room : Int) (k : Nat) (s : DeS) (F : Nat → Int) : Prop :=
  (s.j.kind = 1 ∧ ((k = 0 ∧ s.st = 0 ∧ F 0 = 0 ∧ F 1 = 0) ∨ (k = 1 ∧ s.st = 2 ∧ s.en = 0 ∧ F 0 = 0) ∨ (k = 2 ∧ s.st = 3) ∨ (k = 3 ∧ s.st = 5))) ∨
  (s.j.kind = 2 ∧ ((k = 0 ∧ s.st = 0 ∧ F 0 = 0 ∧ F 1 = 0) ∨ (k = 1 ∧ s.st = 1 ∧ s.en = 18446744073709551615 ∧ F 0 = 0) ∨ (k = 2 ∧ s.st = 2 ∧ s.en = 18446744073709551615 ∧ F 0 = 0) ∨ (k = 3 ∧ s.st = 5))) ∨
  (s.j.kind = 3 ∧ ((k = 0 ∧ s.st = 0 ∧ F 0 = 0 ∧ F 1 = 0) ∨ (k = 1 ∧ s.st = 2 ∧ s.fst = 0 ∧ F 1 = 0)))

theorem had_load0 {n : Nat} (hn : 3 ≤ n) (F : Nat → Int) (h : Int) : (stepOf n F ⟨h, 1, 0, 0, 0, true⟩).had = F 0 := by
  have h0 : 0 < n := by omega
  simp [stepOf, h0]
theorem had_load1 {n : Nat} (hn : 3 ≤ n) (F : Nat → Int) (h : Int) : (stepOf n F ⟨h, 1, 1, 0, 0, true⟩).had = F 1 := by
  have : (0 : Int) ≤ 1 ∧ (1 : Int) < (n : Int) := by omega
  simp [stepOf, this]
theorem words_at1 (n : Nat) (F : Nat → Int) (h v : Int) : wordsOf n F ⟨h, 2, 1, 0, v, true⟩ 0 = F 0 := by
  unfold wordsOf
  split
  · simp [putF]
  · rfl
theorem ahd_neg : ahd 18446744073709551615 0 < 0 := by unfold ahd u64 wrap64; omega
theorem ahd_nil : ahd 0 0 = 0 := by unfold ahd u64 wrap64; omega

theorem Alone.next {room : Int} {k n : Nat} {s : DeS} {F : Nat → Int} (h : Alone room k s F) (hr : 1 ≤ room ∧ room ≤ 64) (hn : (n : Int) = 2 + room) (he : ¬ dends room s (stepOf n F (dreq room s)) = true) :
    Alone room (k + 1) (dnext room s (stepOf n F (dreq room s))) (wordsOf n F (dreq room s)) ∧ k + 1 < 100 := by
  have hn3 : 3 ≤ n := by omega
  rcases h with ⟨hk, hc⟩ | ⟨hk, hc⟩ | ⟨hk, hc⟩
  · rcases hc with ⟨rfl, h0, f0, f1⟩ | ⟨rfl, h0, he0, f0⟩ | ⟨rfl, h0⟩ | ⟨rfl, h0⟩
    · have e4 : dreq room s = ⟨s.hand, 1, 1, 0, 0, true⟩ := by simp [dreq, hk, h0]
      rw [e4, words_load1]
      refine ⟨.inl ⟨by rw [dnext_j]; exact hk, .inr (.inl ⟨rfl, by simp [dnext, hk, h0], ?_, f0⟩)⟩, by omega⟩
      simp [dnext, hk, h0, had_load1 hn3, f1]
    · have e4 : dreq room s = ⟨s.hand, 1, 0, 0, 0, true⟩ := by simp [dreq, hk, h0]
      rw [e4] at he ⊢
      have hx := had_load0 hn3 F s.hand
      have hl : ¬ room ≤ ahd s.en (stepOf n F ⟨s.hand, 1, 0, 0, 0, true⟩).had := by simpa [dends, hk, h0] using he
      exact ⟨.inl ⟨by rw [dnext_j]; exact hk, .inr (.inr (.inl ⟨rfl, by simp [dnext, hk, h0, hl]⟩))⟩, by omega⟩
    · exact ⟨.inl ⟨by rw [dnext_j]; exact hk, .inr (.inr (.inr ⟨rfl, by simp [dnext, hk, h0]⟩))⟩, by omega⟩
    · exact absurd (by simp [dends, hk, h0]) he
  · rcases hc with ⟨rfl, h0, f0, f1⟩ | ⟨rfl, h0, he0, f0⟩ | ⟨rfl, h0, he0, f0⟩ | ⟨rfl, h0⟩
    · have e4 : dreq room s = ⟨s.hand, 1, 1, 0, 0, true⟩ := by simp [dreq, hk, h0]
      rw [e4, words_load1]
      refine ⟨.inr (.inl ⟨by rw [dnext_j]; exact hk, .inr (.inl ⟨rfl, by simp [dnext, hk, h0], ?_, f0⟩)⟩), by omega⟩
      simp [dnext, hk, h0, had_load1 hn3, f1, u64]
    · have e4 : dreq room s = ⟨s.hand, 2, 1, 0, s.en, true⟩ := by simp [dreq, hk, h0]
      rw [e4]
      exact ⟨.inr (.inl ⟨by rw [dnext_j]; exact hk, .inr (.inr (.inl ⟨rfl, by simp [dnext, hk, h0], by simp [dnext, hk, h0, he0], (words_at1 n F s.hand s.en).trans f0⟩))⟩), by omega⟩
    · have e4 : dreq room s = ⟨s.hand, 1, 0, 0, 0, true⟩ := by simp [dreq, hk, h0]
      rw [e4]
      have hx := had_load0 hn3 F s.hand
      refine ⟨.inr (.inl ⟨by rw [dnext_j]; exact hk, .inr (.inr (.inr ⟨rfl, ?_⟩))⟩), by omega⟩
      simp [dnext, hk, h0, hx, f0, he0, ahd_neg]
    · exact absurd (by simp [dends, hk, h0]) he
  · have k1 : ¬ s.j.kind = 1 := by omega
    have k2 : ¬ s.j.kind = 2 := by omega
    rcases hc with ⟨rfl, h0, f0, f1⟩ | ⟨rfl, h0, he0, f1⟩
    · have e4 : dreq room s = ⟨s.hand, 1, 0, 0, 0, true⟩ := by simp [dreq, k1, k2, h0]
      rw [e4, words_load1]
      refine ⟨.inr (.inr ⟨by rw [dnext_j]; exact hk, .inr ⟨rfl, by simp [dnext, k1, k2, h0], ?_, f1⟩⟩), by omega⟩
      simp [dnext, k1, k2, h0, had_load0 hn3, f0]
    · have e4 : dreq room s = ⟨s.hand, 1, 1, 0, 0, true⟩ := by simp [dreq, k1, k2, h0]
      rw [e4] at he
      have hx := had_load1 hn3 F s.hand
      exact absurd (by simp [dends, k1, k2, h0, hx, f1, he0, ahd_nil]) he

theorem Alone.init (room hand : Int) {j : Jb} (hk : j.kind = 1 ∨ j.kind = 2 ∨ j.kind = 3) : Alone room 0 (dinit hand j) (fun _ => 0) := by
  rcases hk with h | h | h
  · exact .inl ⟨h, .inl ⟨rfl, rfl, rfl, rfl⟩⟩
  · exact .inr (.inl ⟨h, .inl ⟨rfl, rfl, rfl, rfl⟩⟩)
  · exact .inr (.inr ⟨h, .inl ⟨rfl, rfl, rfl, rfl⟩⟩)

set_option maxHeartbeats 16000000 in
theorem faces_ok {w : World} {sh : Shp} {hand : Int} {j : Jb} {want : Nat} (h1 : 1 ≤ sh.f) (h2 : sh.f ≤ 64) (hwant : (want : Int) = 2 + sh.f) (hjw : j.wf) (he : derr hand j = 0) {cs0 : List Value} (hcs : IsTk cs0) (hrep0 : repD sh cs0 (dinit hand j))
    (HST : ∀ w : World, Calls Try.prog 20 #[sh.val, .int .i64 hand, j.val, kept0] w fun e w' => e = .returned (.tuple #[.agg cs0.toArray, .int .i64 0]) ∧ Below w.heap.size w w')
    (HTK : ∀ w : World, Calls Try.prog 19 #[sh.val, .int .i64 hand, j.val] w fun e w' => ∃ b, e = .returned (.tuple #[.iface ((kDeal sh.f).tid j) (.pointer (some ⟨b, 0, none⟩)), .int .i64 0]) ∧ w'.rowIs b ((kDeal sh.f).t j) ((kDeal sh.f).n j) (dcell sh.f (dinit hand j)) ∧ w.heap.size ≤ b ∧ w.grownBy w' none) :
    Calls Try.prog 4 #[sh.val, .int .i64 hand, j.val] w fun e w' => e = .returned (.bool true) ∧ Below w.heap.size w w' := by
  have fin : (kDeal sh.f).fine j := ⟨hjw, hand, he⟩
  have hms := (isKind (r := sh.f) ⟨h1, h2⟩).mstep j fin
  have hma := (isKind (r := sh.f) ⟨h1, h2⟩).mans j fin
  have hcs' := (isKind (r := sh.f) ⟨h1, h2⟩).cstep j fin
  have hca := (isKind (r := sh.f) ⟨h1, h2⟩).cans j fin
  have KSTEP := hide (show ∀ (w : World) (b bm bw n : Nat) (f : Nat → Int) (s : DeS), (s.j = j ∧ Wf s) → w.rowIs b ((kDeal sh.f).t j) ((kDeal sh.f).n j) (dcell sh.f s) → IsMem w bm bw n f → b ≠ bm → b ≠ bw →
    Calls Try.prog ((kDeal sh.f).fs j) #[.pointer (some ⟨b, 0, none⟩), .pointer (some ⟨bm, 0, none⟩)] w fun e w' => e = .returned (.tuple #[(stepOf n f (dreq sh.f s)).val, .int .i64 (if dends sh.f s (stepOf n f (dreq sh.f s)) = true then 1 else 0)]) ∧
      w'.rowIs b ((kDeal sh.f).t j) ((kDeal sh.f).n j) (dcell sh.f (dnext sh.f s (stepOf n f (dreq sh.f s)))) ∧ IsMem w' bm bw n (wordsOf n f (dreq sh.f s)) ∧ Touch w w' (fun k => k = b ∨ k = bw) from fun w b bm bw n f s hj h hm g1 g2 => step_any ⟨h1, h2⟩ hj h hm g1 g2)
  have KANS := hide (show ∀ (w : World) (b : Nat) (s : DeS), (s.j = j ∧ Wf s) → w.rowIs b ((kDeal sh.f).t j) ((kDeal sh.f).n j) (dcell sh.f s) → Calls Try.prog ((kDeal sh.f).fa j) #[.pointer (some ⟨b, 0, none⟩)] w fun e w' => e = .returned s.told.value ∧ w.grownBy w' none from fun w b s hj h => mv_ans h)
  have RSTEP := hide (rkind h1 h2).step
  have ALONE := hide (fun (k : Nat) (s : DeS) (F : Nat → Int) (hj : s.j = j ∧ Wf s) (h : Alone sh.f k s F) => h.next (n := want) ⟨h1, h2⟩ hwant)
  have AL0 : Hid (Alone sh.f 0 (dinit hand j) (fun _ => 0)) := Alone.init sh.f hand (fine_cases fin).1
  have JW0 : Hid ((dinit hand j).j = j ∧ Wf (dinit hand j)) := ⟨rfl, wf_init sh.f hand fin⟩
  have KSP := hide (fun w : World => size_ok w sh h1 h2)
  have KSR := hide (fun w : World => rsize_ok w sh h1 h2)
  have KFP := hide (fun w : World => fresh_ok w sh h1 h2 hwant)
  have KFR := hide (fun w : World => rfresh_ok w sh h1 h2 hwant)
  rw [← hwant] at KSP KSR
  have KST := hide HST
  have KTK := hide HTK
  have KCS := hide hcs
  have HREP0 := hide hrep0
  have hw : want ≤ 128 := by omega
  obtain ⟨tid, htid⟩ : ∃ t, (kDeal sh.f).tid j = t := ⟨_, rfl⟩
  obtain ⟨tt, htt⟩ : ∃ t, (kDeal sh.f).t j = t := ⟨_, rfl⟩
  obtain ⟨tn, htn⟩ : ∃ t, (kDeal sh.f).n j = t := ⟨_, rfl⟩
  obtain ⟨fs, hfs⟩ : ∃ t, (kDeal sh.f).fs j = t := ⟨_, rfl⟩
  obtain ⟨fa, hfa⟩ : ∃ t, (kDeal sh.f).fa j = t := ⟨_, rfl⟩
  rw [htid, hfs] at hms
  rw [htid, hfa] at hma
  rw [hfs] at hcs'
  rw [hfa] at hca
  rw [htt, htn, hfs] at KSTEP
  rw [htt, htn, hfa] at KANS
  rw [htid, htt, htn] at KTK
  have hi := iface_nil tid
  obtain ⟨TC, hTC⟩ : ∃ TC, dcell sh.f = TC := ⟨_, rfl⟩
  rw [hTC] at KSTEP KANS KTK
  obtain ⟨RP, hRP⟩ : ∃ RP, repD sh = RP := ⟨_, rfl⟩
  rw [hRP] at RSTEP HREP0
  replace RSTEP : Hid (∀ (cs : List Value) (s : DeS), IsTk cs → RP cs s → ∀ (n : Nat) (f : Nat → Int), (∀ i, i < n → 0 ≤ f i ∧ f i ≤ 18446744073709551615) → ∃ cs', IsTk cs' ∧ (¬ dends sh.f s (stepOf n f (dreq sh.f s)) = true → RP cs' (dnext sh.f s (stepOf n f (dreq sh.f s)))) ∧
    (dends sh.f s (stepOf n f (dreq sh.f s)) = true → cs'[22]? = some (.bool (dnext sh.f s (stepOf n f (dreq sh.f s))).told.ok) ∧ cs'[23]? = some (.int .u64 (dnext sh.f s (stepOf n f (dreq sh.f s))).told.val)) ∧ (∀ q, q < 4 → cs'[24 + q]? = some (.int .u64 0)) ∧
    ∀ (w : World) (g cap : Nat), IsRow w g n cap f → Calls Try.prog 22 #[.agg cs.toArray, .slice (some ⟨g, 0, none⟩) n cap] w fun e w' => e = .returned (.tuple #[.agg cs'.toArray, (stepOf n f (dreq sh.f s)).val, .bool (dends sh.f s (stepOf n f (dreq sh.f s)))]) ∧ IsRow w' g n cap (wordsOf n f (dreq sh.f s)) ∧ w.grownBy w' (some g)) := RSTEP
  obtain ⟨TE, hTE⟩ : ∃ TE, dends sh.f = TE := ⟨_, rfl⟩
  obtain ⟨TX, hTX⟩ : ∃ TX, dnext sh.f = TX := ⟨_, rfl⟩
  obtain ⟨TR, hTR⟩ : ∃ TR, dreq sh.f = TR := ⟨_, rfl⟩
  obtain ⟨ALN, hALN⟩ : ∃ ALN, Alone sh.f = ALN := ⟨_, rfl⟩
  have TXJ := hide (fun (s : DeS) (x : Stp) (hj : s.j = j ∧ Wf s) (hx : 0 ≤ x.had ∧ x.had ≤ 18446744073709551615) => (show (dnext sh.f s x).j = j ∧ Wf (dnext sh.f s x) from ⟨(dnext_j sh.f s x).trans hj.1, dnext_wf hj.2 hx⟩))
  rw [hTE, hTX, hTR] at KSTEP RSTEP
  rw [hALN, hTE, hTX, hTR] at ALONE
  rw [hALN] at AL0
  rw [hTX] at TXJ
  clear hTC hRP hTE hTX hTR hALN htid htt htn hfs hfa HST HTK hcs hrep0 hwant he
  obtain ⟨s0, s1, s2, s3, s4, s5⟩ := sh
  obtain ⟨jo, hjo⟩ : ∃ jo, j = jo := ⟨_, rfl⟩
  rw [hjo] at KSTEP KANS ALONE AL0 JW0 TXJ HREP0 KTK KST
  have HJO := hide hjo
  rw [← hjo] at KST KTK
  obtain ⟨kind, a, b, c, hh⟩ := j
  simp only [Shp.val, Jb.val, kept0] at KSP KSR KFP KFR KST KTK ⊢
  clear hjo fin hjw
  obtain ⟨W0, hW0⟩ : ∃ W0, (w.alloc (.cells #[.int .i64 s0, .int .i64 s1, .int .i64 s2, .int .i64 s3, .int .i64 s4, .int .i64 s5] 23)).alloc (.cells #[.int .i64 kind, .int .i64 a, .int .i64 b, .int .i64 c, .int .u64 hh] 44) = W0 := ⟨_, rfl⟩
  have b0 : Below w.heap.size w W0 := by rw [← hW0]; exact ((Below.refl _ w).alloc (Nat.le_refl _) _).alloc (by simp) _
  have sz0 : W0.heap.size = w.heap.size + 2 := by rw [← hW0]; simp
  have R0 : W0.rowIs w.heap.size 23 6 (lrow [.int .i64 s0, .int .i64 s1, .int .i64 s2, .int .i64 s3, .int .i64 s4, .int .i64 s5]) := by rw [← hW0]; exact (rowL_alloc w [.int .i64 s0, .int .i64 s1, .int .i64 s2, .int .i64 s3, .int .i64 s4, .int .i64 s5] _ rfl).alloc _
  have R1 : W0.rowIs (w.heap.size + 1) 44 5 (lrow [.int .i64 kind, .int .i64 a, .int .i64 b, .int .i64 c, .int .u64 hh]) := by
    rw [← hW0]
    have := rowL_alloc (w.alloc (.cells #[.int .i64 s0, .int .i64 s1, .int .i64 s2, .int .i64 s3, .int .i64 s4, .int .i64 s5] 23)) [.int .i64 kind, .int .i64 a, .int .i64 b, .int .i64 c, .int .u64 hh] 44 (n := 5) rfl
    rwa [World.size_alloc] at this
  have keep : Hid (∀ w' : World, Below W0.heap.size W0 w' → Below w.heap.size w w' ∧ (w.heap.size + 1 < w'.heap.size) ∧ (w'.cell? ⟨w.heap.size, 0, none⟩ = some (.int .i64 s0) ∧ w'.cell? ⟨w.heap.size, 1, none⟩ = some (.int .i64 s1) ∧ w'.cell? ⟨w.heap.size, 2, none⟩ = some (.int .i64 s2) ∧ w'.cell? ⟨w.heap.size, 3, none⟩ = some (.int .i64 s3) ∧ w'.cell? ⟨w.heap.size, 4, none⟩ = some (.int .i64 s4) ∧ w'.cell? ⟨w.heap.size, 5, none⟩ = some (.int .i64 s5)) ∧
      w'.cell? ⟨w.heap.size + 1, 0, none⟩ = some (.int .i64 kind) ∧ w'.cell? ⟨w.heap.size + 1, 1, none⟩ = some (.int .i64 a) ∧ w'.cell? ⟨w.heap.size + 1, 2, none⟩ = some (.int .i64 b) ∧ w'.cell? ⟨w.heap.size + 1, 3, none⟩ = some (.int .i64 c) ∧ w'.cell? ⟨w.heap.size + 1, 4, none⟩ = some (.int .u64 hh)) := fun w' hb => by
    have r := R0.of_block (hb.block w.heap.size R0.lt)
    have r' := R1.of_block (hb.block (w.heap.size + 1) R1.lt)
    exact ⟨b0.trans (hb.mono b0.size), r'.lt, ⟨r.cell (i := 0) (by decide), r.cell (i := 1) (by decide), r.cell (i := 2) (by decide), r.cell (i := 3) (by decide), r.cell (i := 4) (by decide), r.cell (i := 5) (by decide)⟩, r'.cell (i := 0) (by decide), r'.cell (i := 1) (by decide), r'.cell (i := 2) (by decide), r'.cell (i := 3) (by decide), r'.cell (i := 4) (by decide)⟩
  clear b0 R0 R1
  go_enter Try.func4, Try.ntmps4
  go_wp2_with fail
  refine (alive_any W0).mono ?_
  rintro e w1 ⟨rfl, hb1⟩
  have HB1 := hide hb1
  obtain ⟨_, l1, ⟨c0, c1, c2, c3, c4, c5⟩, _⟩ := keep.out w1 hb1
  clear hb1 hW0
  go_wp2_with fail
  refine (KSP.out w1).mono ?_
  rintro e w2 ⟨rfl, hg⟩
  have HB2 := hide (HB1.out.trans (below_of_grown_none hg W0.heap.size HB1.out.size))
  clear hg c0 c1 c2 c3 c4 c5
  obtain ⟨_, l2, ⟨c0, c1, c2, c3, c4, c5⟩, _⟩ := keep.out w2 HB2.out
  go_wp2_with fail
  refine (KSR.out w2).mono ?_
  rintro e w3 ⟨rfl, hg⟩
  have HB3 := hide (HB2.out.trans (below_of_grown_none hg W0.heap.size HB2.out.size))
  clear hg c0 c1 c2 c3 c4 c5
  obtain ⟨_, l3, ⟨c0, c1, c2, c3, c4, c5⟩, _⟩ := keep.out w3 HB3.out
  go_wp2_with fail
  refine (KFP.out w3).mono ?_
  rintro e w4 ⟨g, rfl, R4, hg4, hg⟩
  have HB4 := hide (HB3.out.trans (below_of_grown_none hg W0.heap.size HB3.out.size))
  have HR4 := hide R4
  clear hg R4 c0 c1 c2 c3 c4 c5
  obtain ⟨_, l4, ⟨c0, c1, c2, c3, c4, c5⟩, _⟩ := keep.out w4 HB4.out
  go_wp2_with fail
  refine (KFR.out w4).mono ?_
  rintro e w5 ⟨gv, rfl, R5, hg5, hg⟩
  have HB5 := hide (HB4.out.trans (below_of_grown_none hg W0.heap.size HB4.out.size))
  have HR45 := hide (HR4.out.block ((below_of_grown_none hg w4.heap.size (Nat.le_refl _)).block g HR4.out.lt))
  have HR5 := hide R5
  have lgv := R5.lt
  have lg4 := HR4.out.lt
  clear hg R5 c0 c1 c2 c3 c4 c5
  go_wp2_with fail
  refine (same_words HR45.out.sees HR5.out.sees (fun i hi => rfl) (by omega)).mono ?_
  rintro e w6 ⟨rfl, m6, hw6⟩
  have HB6 := hide (show Below W0.heap.size W0 w6 from by rw [hw6]; exact below_drewN HB5.out m6)
  have HR6 := hide (show IsRow w6 g want want (fun _ => 0) from by rw [hw6]; exact HR45.out)
  have HV6 := hide (show IsRow w6 gv want want (fun _ => 0) from by rw [hw6]; exact HR5.out)
  have s6 : w6.heap.size = w5.heap.size := by rw [hw6]; rfl
  clear hw6
  obtain ⟨_, l6, ⟨c0, c1, c2, c3, c4, c5⟩, d0, d1, d2, d3, d4⟩ := keep.out w6 HB6.out
  go_wp2_with fail
  refine (KTK.out w6).mono ?_
  rintro e w7 ⟨bt, rfl, rt7, hbt, hg⟩
  have B67 := below_of_grown_none hg w6.heap.size (Nat.le_refl _)
  have HB7 := hide (HB6.out.trans (B67.mono HB6.out.size))
  have HR7 := hide (HR6.out.block (B67.block g HR6.out.lt))
  have HV7 := hide (HV6.out.block (B67.block gv HV6.out.lt))
  have HT7 := hide rt7
  have lt7 := rt7.lt
  clear hg rt7 B67 c0 c1 c2 c3 c4 c5 d0 d1 d2 d3 d4
  obtain ⟨_, l7, ⟨c0, c1, c2, c3, c4, c5⟩, d0, d1, d2, d3, d4⟩ := keep.out w7 HB7.out
  go_wp2_with fail
  refine (KST.out w7).mono ?_
  rintro e w8 ⟨rfl, hb⟩
  have HB8 := hide (HB7.out.trans (hb.mono HB7.out.size))
  have HR8 := hide (HR7.out.block (hb.block g HR7.out.lt))
  have HV8 := hide (HV7.out.block (hb.block gv HV7.out.lt))
  have HT8 := hide (HT7.out.of_block (hb.block bt lt7))
  have lw8 := hb.size
  clear hb c0 c1 c2 c3 c4 c5 d0 d1 d2 d3 d4
  obtain ⟨W9, hW9⟩ : ∃ W9, w8.alloc (.cells tk0.toArray 64) = W9 := ⟨_, rfl⟩
  have r9 : W9.rowIs w8.heap.size 64 28 (lrow tk0) := by rw [← hW9]; exact rowL_alloc w8 tk0 _ rfl
  have B9 : Below w8.heap.size w8 W9 := by rw [← hW9]; exact (Below.refl _ w8).alloc (Nat.le_refl _) _
  have sz9 : W9.heap.size = w8.heap.size + 1 := by rw [← hW9]; simp
  obtain ⟨W10, hW10⟩ : ∃ W10, W9.setCells w8.heap.size 0 cs0 = W10 := ⟨_, rfl⟩
  have T10 : Touch W9 W10 (fun k => k = w8.heap.size) := by rw [← hW10]; exact touch_setCells w8.heap.size cs0 0 W9
  have r10 : W10.rowIs w8.heap.size 64 28 (lrow cs0) := by
    rw [← hW10]
    exact (rowIs.setCells _ 0 _ _ r9).congr (fun i hi => by rw [if_pos (by rw [KCS.out.1]; omega)]; rfl)
  have B10 : Below w8.heap.size w8 W10 := B9.trans (T10.below (fun k hk => by omega) B9.size)
  have HB10 := hide (HB8.out.trans (B10.mono HB8.out.size))
  have HR10 := hide (HR8.out.block (B10.block g HR8.out.lt))
  have HV10 := hide (HV8.out.block (B10.block gv HV8.out.lt))
  have HT10 := hide (HT8.out.of_block (B10.block bt HT8.out.lt))
  have HU10 := hide r10
  have sz10 := T10.size
  have TH9 := hide (rowIs.there r9 (o := 0) (m := 28) (by omega))
  have HW10 := hide hW10
  clear B9 B10 r9 r10 T10 hW10
  simp only [tk0] at hW9
  go_wp2_with (first
    | (refine wpList_store_mid (by rfl) 64 (.tmp 17) (.tmp 81) (by rfl) w8.heap.size 0 cs0.toArray (by rfl) (by rfl) (by simpa [KCS.out.1] using TH9.out) (by simpa [KCS.out.1] using size79) (by exact all_oneCell_toArray KCS.out.2) ?_; rw [List.toList_toArray, HW10.out]; clear hW9)
    | (go_at_call 21; refine (new_mem HR10.out.sees HR10.out.2.2.2 (by omega)).mono ?_; rintro e w11 ⟨bm, bw, rfl, hm11, hb11, hbm, hbw⟩))
  have HB11 := hide (HB10.out.trans (hb11.mono HB10.out.size))
  have HV11 := hide (HV10.out.block (hb11.block gv HV10.out.lt))
  have HT11 := hide (HT10.out.of_block (hb11.block bt HT10.out.lt))
  have HU11 := hide (HU10.out.of_block (hb11.block w8.heap.size HU10.out.lt))
  have HM11 := hide hm11
  have hmw := hm11.ne
  obtain ⟨bu, hbu⟩ : ∃ bu, w8.heap.size = bu := ⟨_, rfl⟩
  rw [hbu] at HU11 ⊢
  have n1 : gv < bt := by omega
  have n2 : bt < bu := by omega
  have n3 : bu < bm := by omega
  have n4 : bu < bw := by omega
  have n0 : w.heap.size ≤ gv := by omega
  clear hb11 hm11 HR4 HR45 HR5 HR6 HV6 HR7 HV7 HT7 HR8 HV8 HT8 HR10 HV10 HT10 HU10 TH9 HW10 HB1 HB2 HB3 HB4 HB5 HB6 HB7 HB8 HB10
  have FINB := hide (fun (w' : World) (hb : Below W0.heap.size W0 w') => (keep.out w' hb).1)
  have hsz0 : W0.heap.size ≤ gv := by omega
  clear keep hbu sz9 sz10 lw8 lt7 hbt s6 lgv lg4 hg4 hg5 l1 l2 l3 l4 l6 l7 hbm hbw
  go_loopw [21] (fun i wr => ∃ (k : Nat) (s : DeS) (F : Nat → Int) (cs : List Value), k < 100 ∧ i = .int .i64 (k : Nat) ∧ wr.rowIs bt tt tn (TC s) ∧ IsMem wr bm bw want F ∧ IsRow wr gv want want F ∧ wr.rowIs bu 64 28 (lrow cs) ∧ IsTk cs ∧ RP cs s ∧ (s.j = jo ∧ Wf s) ∧ ALN k s F ∧ Below W0.heap.size W0 wr) (fun i _ => 100 - (intOf i).toNat)
  case atStart => exact ⟨0, dinit hand jo, _, cs0, by omega, rfl, (by have := HT11.out; rw [HJO.out] at this; exact this), HM11.out, HV11.out, HU11.out, KCS.out, HREP0.out, JW0.out, AL0.out, HB11.out⟩
  case round =>
    obtain ⟨k, s, F, cs, hk, rfl, rt, mm, rv, ru, itk, rp, hj, al, bel⟩ := hrel
    have hk' : (k : Int) < 100 := by omega
    obtain ⟨cs', q1, q2, q3, _, q5⟩ := RSTEP.out cs s itk rp want F rv.2.2.2
    have AL := hide (ALONE.out k s F hj al)
    obtain ⟨x, hx⟩ : ∃ x, stepOf want F (TR s) = x := ⟨_, rfl⟩
    obtain ⟨F', hF'⟩ : ∃ F', wordsOf want F (TR s) = F' := ⟨_, rfl⟩
    have ks := KSTEP.out wr bt bm bw want F s hj rt mm (by omega) (by omega)
    rw [hx, hF'] at ks q5 AL
    rw [hx] at q2 q3
    obtain ⟨en, hen⟩ : ∃ en, TE s x = en := ⟨_, rfl⟩
    obtain ⟨s', hs'⟩ : ∃ s', TX s x = s' := ⟨_, rfl⟩
    have hj' : s'.j = jo ∧ Wf s' := by rw [← hs']; exact TXJ.out _ _ hj (by rw [← hx]; exact had_bounds mm.word _)
    rw [hen, hs'] at ks q2 q3 AL
    rw [hen] at q5
    obtain ⟨v, hv⟩ : ∃ v : Int, (if en = true then (1 : Int) else 0) = v := ⟨_, rfl⟩
    rw [hv] at ks
    have HV := hide hv
    have KS := hide ks
    have Q1 := hide q1
    have Q2 := hide q2
    have Q3 := hide q3
    have Q5 := hide q5
    have HRT := hide rt
    have HRV := hide rv
    have HRU := hide ru
    have HMM := hide mm
    have HITK := hide itk
    have HBEL := hide bel
    have lrv := rv.lt
    have lru := ru.lt
    have lrt := rt.lt
    have lrb := mm.row.lt
    obtain ⟨dT, hdT⟩ := row79
    have DT := hide hdT
    clear rt mm rv ru itk rp al bel ks q1 q2 q3 q5 hx hF' hs' hv hdT hen
    go_wp2_with fail
    refine KS.out.mono ?_
    rintro e w1 ⟨rfl, rt1, mm1, tch⟩
    simp only [Stp.val]
    have s1 := tch.size
    have BE1 := hide (HBEL.out.trans (tch.below (fun k hk => by rcases hk with rfl | rfl <;> omega) HBEL.out.size))
    have HRT1 := hide rt1
    have HMM1 := hide mm1
    have HRV1 := hide (HRV.out.block (tch.block gv lrv (by omega)))
    have HRU1 := hide (HRU.out.of_block (tch.block bu lru (by omega)))
    clear rt1 mm1 tch hms hcs'
    have c1 : (en = true ∧ v = 1) ∨ (en = false ∧ v = 0) := by have := HV.out; cases en <;> simp at this <;> simp [this]
    clear HV
    rcases c1 with ⟨rfl, rfl⟩ | ⟨rfl, rfl⟩
    · skip
      obtain ⟨W2, hW2⟩ : ∃ W2, w1.alloc (.cells #[.int .i64 x.hand, .int .i64 x.act, .int .i64 x.at_, .int .u64 x.had, .int .u64 x.put, .bool x.ok] 71) = W2 := ⟨_, rfl⟩
      have B2 : Below w1.heap.size w1 W2 := by rw [← hW2]; exact (Below.refl _ w1).alloc (Nat.le_refl _) _
      have sz2 : W2.heap.size = w1.heap.size + 1 := by rw [← hW2]; simp
      have r22 : W2.rowIs w1.heap.size 71 6 (lrow [Value.int .i64 x.hand, .int .i64 x.act, .int .i64 x.at_, .int .u64 x.had, .int .u64 x.put, .bool x.ok]) := by rw [← hW2]; exact rowL_alloc w1 [Value.int .i64 x.hand, .int .i64 x.act, .int .i64 x.at_, .int .u64 x.had, .int .u64 x.put, .bool x.ok] _ rfl
      have HBE2 := hide (BE1.out.trans (B2.mono BE1.out.size))
      have HRT2 := hide (HRT1.out.of_block (B2.block bt HRT1.out.lt))
      have HMM2 := hide (HMM1.out.below B2)
      have HRV2 := hide (HRV1.out.block (B2.block gv HRV1.out.lt))
      have HRU2 := hide (HRU1.out.of_block (B2.block bu HRU1.out.lt))
      have HS2 := hide r22
      have l22 := r22.lt
      clear B2 r22
      go_wp2_with (refine wpList_load_mid (by rfl) 64 (.tmp 17) (by rfl) bu 0 (by rfl) cs dT (by exact rowIs.range HRU2.out HITK.out.1) (by exact DT.out.1) (by exact DT.out.2) (by rw [HITK.out.1]; exact size79) ?_)
      refine (Q5.out W2 gv want HRV2.out).mono ?_
      rintro e w3 ⟨rfl, rv3, hg3⟩
      simp only [Stp.val]
      have s3 := hg3.size
      have HBE3 := hide (HBE2.out.trans (grown_below hg3 HBE2.out.size (by omega)))
      have HRT3 := hide (HRT2.out.of_block (hg3.block bt HRT2.out.lt (by simp only [ne_eq, Option.some.injEq]; omega)))
      have HMM3 := hide (HMM2.out.grown hg3 (by simp only [ne_eq, Option.some.injEq]; omega) (by simp only [ne_eq, Option.some.injEq]; omega))
      have HRU3 := hide (HRU2.out.of_block (hg3.block bu HRU2.out.lt (by simp only [ne_eq, Option.some.injEq]; omega)))
      have HS3 := hide (HS2.out.of_block (hg3.block w1.heap.size l22 (by simp only [ne_eq, Option.some.injEq]; omega)))
      have HRV3 := hide rv3
      have e22 : w1.heap.size < w3.heap.size := by omega
      have e0 : bu < w1.heap.size := by omega
      have ebm : bm < w3.heap.size := HMM3.out.head.lt
      have ebw : bw < w3.heap.size := HMM3.out.row.lt
      obtain ⟨b22, hb22⟩ : ∃ b, w1.heap.size = b := ⟨_, rfl⟩
      rw [hb22] at HS3 e22 e0 ⊢
      clear hb22 hW2 rv3 hg3 s3 sz2 l22
      obtain ⟨W4, hW4⟩ : ∃ W4, (w3.alloc (.cells tk0.toArray 64)).alloc (.cells #[.int .i64 0, .int .i64 0, .int .i64 0, .int .u64 0, .int .u64 0, .bool false] 71) = W4 := ⟨_, rfl⟩
      have B4 : Below w3.heap.size w3 W4 := by rw [← hW4]; exact ((Below.refl _ w3).alloc (Nat.le_refl _) _).alloc (by simp) _
      have sz4 : W4.heap.size = w3.heap.size + 2 := by rw [← hW4]; simp
      have r24 : W4.rowIs w3.heap.size 64 28 (lrow tk0) := by rw [← hW4]; exact (rowL_alloc w3 tk0 _ rfl).alloc _
      have r25 : W4.rowIs (w3.heap.size + 1) 71 6 (lrow [Value.int .i64 0, .int .i64 0, .int .i64 0, .int .u64 0, .int .u64 0, .bool false]) := by
        rw [← hW4]
        have := rowL_alloc (w3.alloc (.cells tk0.toArray 64)) [Value.int .i64 0, .int .i64 0, .int .i64 0, .int .u64 0, .int .u64 0, .bool false] 71 (n := 6) rfl
        rwa [World.size_alloc] at this
      obtain ⟨W5, hW5⟩ : ∃ W5, W4.setCells w3.heap.size 0 cs' = W5 := ⟨_, rfl⟩
      have T5 : Touch W4 W5 (fun k => k = w3.heap.size) := by rw [← hW5]; exact touch_setCells w3.heap.size cs' 0 W4
      have r24' : W5.rowIs w3.heap.size 64 28 (lrow cs') := by rw [← hW5]; exact (rowIs.setCells _ 0 _ _ r24).congr (fun i hi => by rw [if_pos (by rw [Q1.out.1]; omega)]; rfl)
      have r25' := r25.of_block (T5.block (w3.heap.size + 1) r25.lt (by omega))
      obtain ⟨W6, hW6⟩ : ∃ W6, W5.setCells (w3.heap.size + 1) 0 [Value.int .i64 x.hand, .int .i64 x.act, .int .i64 x.at_, .int .u64 x.had, .int .u64 x.put, .bool x.ok] = W6 := ⟨_, rfl⟩
      have T6 : Touch W5 W6 (fun k => k = w3.heap.size + 1) := by rw [← hW6]; exact touch_setCells (w3.heap.size + 1) [Value.int .i64 x.hand, .int .i64 x.act, .int .i64 x.at_, .int .u64 x.had, .int .u64 x.put, .bool x.ok] 0 W5
      have r25'' : W6.rowIs (w3.heap.size + 1) 71 6 (lrow [Value.int .i64 x.hand, .int .i64 x.act, .int .i64 x.at_, .int .u64 x.had, .int .u64 x.put, .bool x.ok]) := by rw [← hW6]; exact (rowIs.setCells _ 0 _ _ r25').congr (fun i hi => by rw [if_pos ⟨Nat.zero_le _, by simpa using hi⟩]; rfl)
      have r24'' := r24'.of_block (T6.block w3.heap.size r24'.lt (by omega))
      have B6 : Below w3.heap.size w3 W6 := (B4.trans (T5.below (fun k hk => by omega) B4.size)).trans (T6.below (fun k hk => by omega) (by have := T5.size; omega))
      have ru6 := HRU3.out.of_block (B6.block bu HRU3.out.lt)
      obtain ⟨W7, hW7⟩ : ∃ W7, W6.setCells bu 0 cs' = W7 := ⟨_, rfl⟩
      have T7 : Touch W6 W7 (fun k => k = bu) := by rw [← hW7]; exact touch_setCells bu cs' 0 W6
      have ru7 : W7.rowIs bu 64 28 (lrow cs') := by rw [← hW7]; exact (rowIs.setCells _ 0 _ _ ru6).congr (fun i hi => by rw [if_pos (by rw [Q1.out.1]; omega)]; rfl)
      have lb : ∀ k, k < w3.heap.size → k ≠ bu → W7.heap[k]? = w3.heap[k]? := fun k hk hn => (T7.block k (by have := B6.size; omega) hn).trans (B6.block k hk)
      have HB7 := hide (show Below W0.heap.size W0 W7 from HBE3.out.trans ((B6.mono HBE3.out.size).trans (T7.below (fun k hk => by omega) (by have := B6.size; have := HBE3.out.size; omega))))
      have HRT7 := hide (HRT3.out.of_block (lb bt HRT3.out.lt (by omega)))
      have HMM7 := hide (show IsMem W7 bm bw want F' from ⟨HMM3.out.head.of_block (lb bm ebm (by omega)), HMM3.out.row.of_block (lb bw ebw (by omega)), HMM3.out.most, HMM3.out.word⟩)
      have HRV7 := hide (HRV3.out.block (lb gv HRV3.out.lt (by omega)))
      have HS7 := hide (rowIs.range (HS3.out.of_block (lb b22 e22 (by omega))) rfl)
      have HT25 := hide (rowIs.range (r25''.of_block (T7.block _ r25''.lt (by omega))) rfl)
      have HT24 := hide (rowIs.range r24'' Q1.out.1)
      have HU7 := hide ru7
      have TH24 := hide (rowIs.there r24 (o := 0) (m := 28) (by omega))
      have TH25 := hide (rowIs.there r25' (o := 0) (m := 6) (by omega))
      have THU := hide (rowIs.there ru6 (o := 0) (m := 28) (by omega))
      have HW5 := hide hW5
      have HW6 := hide hW6
      have HW7 := hide hW7
      obtain ⟨dS, hdS⟩ := row46
      have DS := hide hdS
      clear B4 r24 r25 hW5 T5 r24' r25' hW6 T6 r25'' r24'' B6 ru6 hW7 T7 ru7 lb hdS sz4
      simp only [tk0] at hW4
      go_wp2_with (first
        | (refine wpList_store_mid (by rfl) 64 (.tmp 24) (.tmp 114) (by rfl) w3.heap.size 0 cs'.toArray (by rfl) (by rfl) (by simpa [Q1.out.1] using TH24.out) (by simpa [Q1.out.1] using size79) (by exact all_oneCell_toArray Q1.out.2) ?_; rw [List.toList_toArray, HW5.out]; clear hW4)
        | (refine wpList_store_mid (by rfl) 71 (.tmp 25) (.tmp 115) (by rfl) (w3.heap.size + 1) 0 [Value.int .i64 x.hand, .int .i64 x.act, .int .i64 x.at_, .int .u64 x.had, .int .u64 x.put, .bool x.ok].toArray (by rfl) (by rfl) (by exact TH25.out) (by exact size46) (by exact all_oneCell_toArray (step_one x)) ?_; rw [List.toList_toArray, HW6.out])
        | (refine wpList_load_mid (by rfl) 64 (.tmp 24) (by rfl) w3.heap.size 0 (by rfl) cs' dT (by exact HT24.out) (by exact DT.out.1) (by exact DT.out.2) (by rw [Q1.out.1]; exact size79) ?_)
        | (refine wpList_store_mid (by rfl) 64 (.tmp 17) (.tmp 117) (by rfl) bu 0 cs'.toArray (by rfl) (by rfl) (by simpa [Q1.out.1] using THU.out) (by simpa [Q1.out.1] using size79) (by exact all_oneCell_toArray Q1.out.2) ?_; rw [List.toList_toArray, HW7.out])
        | (refine wpList_load_mid (by rfl) 71 (.tmp 22) (by rfl) b22 0 (by rfl) [Value.int .i64 x.hand, .int .i64 x.act, .int .i64 x.at_, .int .u64 x.had, .int .u64 x.put, .bool x.ok] dS (by exact HS7.out) (by exact DS.out.1) (by exact DS.out.2) (by exact size46) ?_)
        | (refine wpList_load_mid (by rfl) 71 (.tmp 25) (by rfl) (w3.heap.size + 1) 0 (by rfl) [Value.int .i64 x.hand, .int .i64 x.act, .int .i64 x.at_, .int .u64 x.had, .int .u64 x.put, .bool x.ok] dS (by exact HT25.out) (by exact DS.out.1) (by exact DS.out.2) (by exact size46) ?_))
      have x22 : W7.cell? ⟨bu, 22, none⟩ = some (.bool s'.told.ok) := by
        rw [HU7.out.cell (i := 22) (by decide)]
        show some (cs'[22]?.getD default) = _
        rw [(Q3.out (by first | trivial | rfl)).1]; rfl
      have x23 : W7.cell? ⟨bu, 23, none⟩ = some (.int .u64 s'.told.val) := by
        rw [HU7.out.cell (i := 23) (by decide)]
        show some (cs'[23]?.getD default) = _
        rw [(Q3.out (by first | trivial | rfl)).2]; rfl
      have lu7 := HU7.out.lt
      have lv7 := HRV7.out.lt
      have l128 : want ≤ 9223372036854775807 := by omega
      have AN : Calls Try.prog fa #[.pointer (some ⟨bt, 0, none⟩)] W7.drew fun e w' => e = .returned (.agg #[.bool s'.told.ok, .int .u64 s'.told.val]) ∧ w'.cell? ⟨bu, 22, none⟩ = some (.bool s'.told.ok) ∧ w'.cell? ⟨bu, 23, none⟩ = some (.int .u64 s'.told.val) ∧ IsMem w' bm bw want F' ∧ IsRow w' gv want want F' ∧ Below W0.heap.size W0 w' ∧ bu < w'.heap.size := by
        refine (KANS.out W7.drew bt s' hj' HRT7.out.drew).mono ?_
        rintro e w9 ⟨he, hg9⟩
        have B9 : Below W7.heap.size W7 w9 := ⟨hg9.os, hg9.tape, hg9.output, hg9.size, fun k hk => hg9.block k hk (by simp)⟩
        exact ⟨he, (B9.cell (p := ⟨bu, 22, none⟩) lu7).trans x22, (B9.cell (p := ⟨bu, 23, none⟩) lu7).trans x23, HMM7.out.below B9, HRV7.out.block (B9.block gv lv7), HB7.out.trans (B9.mono HB7.out.size), Nat.lt_of_lt_of_le lu7 B9.size⟩
      have HAN := hide AN
      clear AN
      clear HS7 HT25 HT24 TH24 TH25 THU HW5 HW6 HW7 DS DT Q5 Q2 AL
      go_region_held (fun w' => w'.cell? ⟨bu, 22, none⟩ = some (.bool s'.told.ok) ∧ w'.cell? ⟨bu, 23, none⟩ = some (.int .u64 s'.told.val)) (go_keep) (first
        | (refine HAN.out.mono ?_; rintro e w9 ⟨rfl, y22, y23, mm9, hv9, hb9, lu9⟩; have MM9 := hide mm9; have HV9 := hide hv9; have HB9 := hide hb9; clear mm9 hv9 hb9)
        | (go_at_call 23; refine (words_mem MM9.out).mono ?_; rintro e w10 ⟨g10, rfl, hr10, hb10, hg10⟩; have z22 := (hb10.cell (p := ⟨bu, 22, none⟩) lu9).trans y22; have z23 := (hb10.cell (p := ⟨bu, 23, none⟩) lu9).trans y23; have HR10 := hide hr10; have HV10 := hide (HV9.out.block (hb10.block gv HV9.out.lt)); have HB10 := hide (HB9.out.trans (hb10.mono HB9.out.size)); clear hr10 hb10)
        | (go_at_call 18; refine (same_words HR10.out.sees HV10.out.sees (fun i hi => rfl) l128).mono ?_; rintro e w11 ⟨rfl, m11, hw11⟩; have t22 : w11.cell? ⟨bu, 22, none⟩ = some (.bool s'.told.ok) := (by rw [hw11]; exact z22); have t23 : w11.cell? ⟨bu, 23, none⟩ = some (.int .u64 s'.told.val) := (by rw [hw11]; exact z23); have HB11' := hide (show Below W0.heap.size W0 w11 from by rw [hw11]; exact below_drewN HB10.out m11); clear hw11))
      go_wp2_with fail
      go_ret
      exact ⟨rfl, FINB.out _ HB11'.out⟩
    · skip
      obtain ⟨W2, hW2⟩ : ∃ W2, w1.alloc (.cells #[.int .i64 x.hand, .int .i64 x.act, .int .i64 x.at_, .int .u64 x.had, .int .u64 x.put, .bool x.ok] 71) = W2 := ⟨_, rfl⟩
      have B2 : Below w1.heap.size w1 W2 := by rw [← hW2]; exact (Below.refl _ w1).alloc (Nat.le_refl _) _
      have sz2 : W2.heap.size = w1.heap.size + 1 := by rw [← hW2]; simp
      have r22 : W2.rowIs w1.heap.size 71 6 (lrow [Value.int .i64 x.hand, .int .i64 x.act, .int .i64 x.at_, .int .u64 x.had, .int .u64 x.put, .bool x.ok]) := by rw [← hW2]; exact rowL_alloc w1 [Value.int .i64 x.hand, .int .i64 x.act, .int .i64 x.at_, .int .u64 x.had, .int .u64 x.put, .bool x.ok] _ rfl
      have HBE2 := hide (BE1.out.trans (B2.mono BE1.out.size))
      have HRT2 := hide (HRT1.out.of_block (B2.block bt HRT1.out.lt))
      have HMM2 := hide (HMM1.out.below B2)
      have HRV2 := hide (HRV1.out.block (B2.block gv HRV1.out.lt))
      have HRU2 := hide (HRU1.out.of_block (B2.block bu HRU1.out.lt))
      have HS2 := hide r22
      have l22 := r22.lt
      clear B2 r22
      go_wp2_with (refine wpList_load_mid (by rfl) 64 (.tmp 17) (by rfl) bu 0 (by rfl) cs dT (by exact rowIs.range HRU2.out HITK.out.1) (by exact DT.out.1) (by exact DT.out.2) (by rw [HITK.out.1]; exact size79) ?_)
      refine (Q5.out W2 gv want HRV2.out).mono ?_
      rintro e w3 ⟨rfl, rv3, hg3⟩
      simp only [Stp.val]
      have s3 := hg3.size
      have HBE3 := hide (HBE2.out.trans (grown_below hg3 HBE2.out.size (by omega)))
      have HRT3 := hide (HRT2.out.of_block (hg3.block bt HRT2.out.lt (by simp only [ne_eq, Option.some.injEq]; omega)))
      have HMM3 := hide (HMM2.out.grown hg3 (by simp only [ne_eq, Option.some.injEq]; omega) (by simp only [ne_eq, Option.some.injEq]; omega))
      have HRU3 := hide (HRU2.out.of_block (hg3.block bu HRU2.out.lt (by simp only [ne_eq, Option.some.injEq]; omega)))
      have HS3 := hide (HS2.out.of_block (hg3.block w1.heap.size l22 (by simp only [ne_eq, Option.some.injEq]; omega)))
      have HRV3 := hide rv3
      have e22 : w1.heap.size < w3.heap.size := by omega
      have e0 : bu < w1.heap.size := by omega
      have ebm : bm < w3.heap.size := HMM3.out.head.lt
      have ebw : bw < w3.heap.size := HMM3.out.row.lt
      obtain ⟨b22, hb22⟩ : ∃ b, w1.heap.size = b := ⟨_, rfl⟩
      rw [hb22] at HS3 e22 e0 ⊢
      clear hb22 hW2 rv3 hg3 s3 sz2 l22
      obtain ⟨W4, hW4⟩ : ∃ W4, (w3.alloc (.cells tk0.toArray 64)).alloc (.cells #[.int .i64 0, .int .i64 0, .int .i64 0, .int .u64 0, .int .u64 0, .bool false] 71) = W4 := ⟨_, rfl⟩
      have B4 : Below w3.heap.size w3 W4 := by rw [← hW4]; exact ((Below.refl _ w3).alloc (Nat.le_refl _) _).alloc (by simp) _
      have sz4 : W4.heap.size = w3.heap.size + 2 := by rw [← hW4]; simp
      have r24 : W4.rowIs w3.heap.size 64 28 (lrow tk0) := by rw [← hW4]; exact (rowL_alloc w3 tk0 _ rfl).alloc _
      have r25 : W4.rowIs (w3.heap.size + 1) 71 6 (lrow [Value.int .i64 0, .int .i64 0, .int .i64 0, .int .u64 0, .int .u64 0, .bool false]) := by
        rw [← hW4]
        have := rowL_alloc (w3.alloc (.cells tk0.toArray 64)) [Value.int .i64 0, .int .i64 0, .int .i64 0, .int .u64 0, .int .u64 0, .bool false] 71 (n := 6) rfl
        rwa [World.size_alloc] at this
      obtain ⟨W5, hW5⟩ : ∃ W5, W4.setCells w3.heap.size 0 cs' = W5 := ⟨_, rfl⟩
      have T5 : Touch W4 W5 (fun k => k = w3.heap.size) := by rw [← hW5]; exact touch_setCells w3.heap.size cs' 0 W4
      have r24' : W5.rowIs w3.heap.size 64 28 (lrow cs') := by rw [← hW5]; exact (rowIs.setCells _ 0 _ _ r24).congr (fun i hi => by rw [if_pos (by rw [Q1.out.1]; omega)]; rfl)
      have r25' := r25.of_block (T5.block (w3.heap.size + 1) r25.lt (by omega))
      obtain ⟨W6, hW6⟩ : ∃ W6, W5.setCells (w3.heap.size + 1) 0 [Value.int .i64 x.hand, .int .i64 x.act, .int .i64 x.at_, .int .u64 x.had, .int .u64 x.put, .bool x.ok] = W6 := ⟨_, rfl⟩
      have T6 : Touch W5 W6 (fun k => k = w3.heap.size + 1) := by rw [← hW6]; exact touch_setCells (w3.heap.size + 1) [Value.int .i64 x.hand, .int .i64 x.act, .int .i64 x.at_, .int .u64 x.had, .int .u64 x.put, .bool x.ok] 0 W5
      have r25'' : W6.rowIs (w3.heap.size + 1) 71 6 (lrow [Value.int .i64 x.hand, .int .i64 x.act, .int .i64 x.at_, .int .u64 x.had, .int .u64 x.put, .bool x.ok]) := by rw [← hW6]; exact (rowIs.setCells _ 0 _ _ r25').congr (fun i hi => by rw [if_pos ⟨Nat.zero_le _, by simpa using hi⟩]; rfl)
      have r24'' := r24'.of_block (T6.block w3.heap.size r24'.lt (by omega))
      have B6 : Below w3.heap.size w3 W6 := (B4.trans (T5.below (fun k hk => by omega) B4.size)).trans (T6.below (fun k hk => by omega) (by have := T5.size; omega))
      have ru6 := HRU3.out.of_block (B6.block bu HRU3.out.lt)
      obtain ⟨W7, hW7⟩ : ∃ W7, W6.setCells bu 0 cs' = W7 := ⟨_, rfl⟩
      have T7 : Touch W6 W7 (fun k => k = bu) := by rw [← hW7]; exact touch_setCells bu cs' 0 W6
      have ru7 : W7.rowIs bu 64 28 (lrow cs') := by rw [← hW7]; exact (rowIs.setCells _ 0 _ _ ru6).congr (fun i hi => by rw [if_pos (by rw [Q1.out.1]; omega)]; rfl)
      have lb : ∀ k, k < w3.heap.size → k ≠ bu → W7.heap[k]? = w3.heap[k]? := fun k hk hn => (T7.block k (by have := B6.size; omega) hn).trans (B6.block k hk)
      have HB7 := hide (show Below W0.heap.size W0 W7 from HBE3.out.trans ((B6.mono HBE3.out.size).trans (T7.below (fun k hk => by omega) (by have := B6.size; have := HBE3.out.size; omega))))
      have HRT7 := hide (HRT3.out.of_block (lb bt HRT3.out.lt (by omega)))
      have HMM7 := hide (show IsMem W7 bm bw want F' from ⟨HMM3.out.head.of_block (lb bm ebm (by omega)), HMM3.out.row.of_block (lb bw ebw (by omega)), HMM3.out.most, HMM3.out.word⟩)
      have HRV7 := hide (HRV3.out.block (lb gv HRV3.out.lt (by omega)))
      have HS7 := hide (rowIs.range (HS3.out.of_block (lb b22 e22 (by omega))) rfl)
      have HT25 := hide (rowIs.range (r25''.of_block (T7.block _ r25''.lt (by omega))) rfl)
      have HT24 := hide (rowIs.range r24'' Q1.out.1)
      have HU7 := hide ru7
      have TH24 := hide (rowIs.there r24 (o := 0) (m := 28) (by omega))
      have TH25 := hide (rowIs.there r25' (o := 0) (m := 6) (by omega))
      have THU := hide (rowIs.there ru6 (o := 0) (m := 28) (by omega))
      have HW5 := hide hW5
      have HW6 := hide hW6
      have HW7 := hide hW7
      obtain ⟨dS, hdS⟩ := row46
      have DS := hide hdS
      clear B4 r24 r25 hW5 T5 r24' r25' hW6 T6 r25'' r24'' B6 ru6 hW7 T7 ru7 lb hdS sz4
      simp only [tk0] at hW4
      go_wp2_with (first
        | (refine wpList_store_mid (by rfl) 64 (.tmp 24) (.tmp 114) (by rfl) w3.heap.size 0 cs'.toArray (by rfl) (by rfl) (by simpa [Q1.out.1] using TH24.out) (by simpa [Q1.out.1] using size79) (by exact all_oneCell_toArray Q1.out.2) ?_; rw [List.toList_toArray, HW5.out]; clear hW4)
        | (refine wpList_store_mid (by rfl) 71 (.tmp 25) (.tmp 115) (by rfl) (w3.heap.size + 1) 0 [Value.int .i64 x.hand, .int .i64 x.act, .int .i64 x.at_, .int .u64 x.had, .int .u64 x.put, .bool x.ok].toArray (by rfl) (by rfl) (by exact TH25.out) (by exact size46) (by exact all_oneCell_toArray (step_one x)) ?_; rw [List.toList_toArray, HW6.out])
        | (refine wpList_load_mid (by rfl) 64 (.tmp 24) (by rfl) w3.heap.size 0 (by rfl) cs' dT (by exact HT24.out) (by exact DT.out.1) (by exact DT.out.2) (by rw [Q1.out.1]; exact size79) ?_)
        | (refine wpList_store_mid (by rfl) 64 (.tmp 17) (.tmp 117) (by rfl) bu 0 cs'.toArray (by rfl) (by rfl) (by simpa [Q1.out.1] using THU.out) (by simpa [Q1.out.1] using size79) (by exact all_oneCell_toArray Q1.out.2) ?_; rw [List.toList_toArray, HW7.out])
        | (refine wpList_load_mid (by rfl) 71 (.tmp 22) (by rfl) b22 0 (by rfl) [Value.int .i64 x.hand, .int .i64 x.act, .int .i64 x.at_, .int .u64 x.had, .int .u64 x.put, .bool x.ok] dS (by exact HS7.out) (by exact DS.out.1) (by exact DS.out.2) (by exact size46) ?_)
        | (refine wpList_load_mid (by rfl) 71 (.tmp 25) (by rfl) (w3.heap.size + 1) 0 (by rfl) [Value.int .i64 x.hand, .int .i64 x.act, .int .i64 x.at_, .int .u64 x.had, .int .u64 x.put, .bool x.ok] dS (by exact HT25.out) (by exact DS.out.1) (by exact DS.out.2) (by exact size46) ?_))
      exact ⟨⟨k + 1, s', F', cs', (AL.out (by simp)).2, by simp, HRT7.out, HMM7.out, HRV7.out, HU7.out, Q1.out, Q2.out (by simp), hj', (AL.out (by simp)).1, HB7.out⟩, by simp only [intOf]; omega⟩
end Deal
end Go.Proofs.Ytohjlcmekkllgaa

/-
  DealFaces: every input.
-/
namespace Go.Proofs.Ytohjlcmekkllgaa
open Go.RowKit
set_option linter.unusedVariables false
set_option linter.unusedSimpArgs false
set_option linter.unnecessarySimpa false
set_option maxRecDepth 20000
namespace Deal

theorem faces_walk {w : World} (sh : Shp) (hand : Int) (j : Jb) (hw : j.wf) : Calls Try.prog 4 #[sh.val, .int .i64 hand, j.val] w fun e w' => e = .returned (.bool true) ∧ Below w.heap.size w w' := by
  by_cases hr : sh.f < 1 ∨ 64 < sh.f
  · refine faces_err (want := 0) (E1 := 120) (E2 := 120) (cs := tk0) (by omega) (by decide) (fun w => size_bad w sh hr) (fun w => rsize_bad w sh hr) (fun w => (fresh_bad w sh hr).mono fun e w' ⟨he, hg⟩ => ⟨none, 0, he, fun j hj => absurd hj (Nat.not_lt_zero j), hg⟩) (fun w => (rfresh_bad w sh hr).mono fun e w' ⟨he, hg⟩ => ⟨none, 0, he, fun j hj => absurd hj (Nat.not_lt_zero j), hg⟩) (fun w => task_shape w sh hand j hr) tk0_is (fun w => ?_)
    exact rstart_shape w sh.a sh.b sh.c sh.d sh.e sh.f hand j.kind j.a j.b j.c j.h hr
  · have h1 : 1 ≤ sh.f := by omega
    have h2 : sh.f ≤ 64 := by omega
    obtain ⟨want, hwant⟩ : ∃ want : Nat, (want : Int) = 2 + sh.f := ⟨(2 + sh.f).toNat, by omega⟩
    obtain ⟨cs0, hcs, hrep, HST⟩ := rstart_any (sh := sh) h1 h2 hand j hw
    by_cases he : derr hand j = 0
    · refine faces_ok (want := want) h1 h2 hwant hw he (cs0 := cs0) hcs (hrep he) (fun w => ?_) (fun w => task_any w sh hand j h1 h2 he)
      have := HST w
      rwa [he] at this
    · exact faces_err (want := want) (E1 := 0) (E2 := derr hand j) (cs := cs0) (by omega) he (fun w => by rw [hwant]; exact size_ok w sh h1 h2) (fun w => by rw [hwant]; exact rsize_ok w sh h1 h2) (fun w => (fresh_ok w sh h1 h2 hwant).mono fun e w' ⟨g, he, hr, _, hg⟩ => ⟨_, _, he, hr.sees, hg⟩) (fun w => (rfresh_ok w sh h1 h2 hwant).mono fun e w' ⟨g, he, hr, _, hg⟩ => ⟨_, _, he, hr.sees, hg⟩) (fun w => task_err w sh hand j h1 h2 he) hcs HST
end Deal
end Go.Proofs.Ytohjlcmekkllgaa

/-
  DealFaces: whatever shape, hand and job are handed in, the deal's Size, Fresh and Task tell the reference's numbers, words and errors, and a task driven alone tells the reference's steps, words and answer: the law answers true, and the input reads as it did. No condition beyond the row's.
-/
namespace Go.Proofs.Ytohjlcmekkllgaa
open Go.ChangeShapes Go.WideShapes Go.ChangeAt Go.RowKit Go.Deep
set_option linter.unusedVariables false
set_option linter.unusedSimpArgs false
set_option maxRecDepth 100000
namespace DFacesLaw

theorem list3' {α : Type} {l : List α} (h : l.length = 3) : ∃ a b c, l = [a, b, c] := by
  match l, h with
  | [a, b, c], _ => exact ⟨a, b, c, rfl⟩

theorem isLaw : Lift.IsLaw Rows.dealFacesSpec 3 := ⟨rfl, fun H ds h => by obtain ⟨a, b, c, rfl⟩ := list3' h; rfl⟩

theorem lifted (os : Os) (started : os.Started) (H : Type) (enc : TypeId × Value → H) :
    ReturnsInHanded {} Try.checked os 4 .any (Rows.dealFacesSpec.pre6 enc Try.prog Try.f4 Rows.dealFacesRow.domain false) (Rows.dealFacesSpec.post enc Try.prog Try.f4 false true false false) := by
  refine returnsInHanded_of_change_sized (C := Try.checked) Lift.own started (by kernel_rfl) Try.func4
    (ChangeSpec.witness6 (enc := enc) (C := Try.checked) false ⟨#[], #[.agg #[.int .i64 0, .int .i64 0, .int .i64 0, .int .i64 0, .int .i64 0, .int .i64 0], .int .i64 0, .agg #[.int .i64 0, .int .i64 0, .int .i64 0, .int .i64 0, .int .u64 0]], []⟩ 8 (by kernel_rfl) (by kernel_rfl) (by kernel_rfl) (by kernel_rfl)) ?_
  intro W base args ds gs before hval0 hW hcnd hsz0 _
  have hgs : gs = [] := by
    obtain ⟨_, _, _, hV, _⟩ := hW
    exact (trodVars_none hV).1
  subst hgs
  refine Lift.contract enc (tb := 4) isLaw (by kernel_rfl) (by kernel_rfl) Try.underlying4 W args ds [] before hW ?_
  intro p hA0
  have hval : ∀ (j : Nat) t v, Try.f4.params[j]? = some t → args[j]? = some v → Value.okWide Try.prog W .any base t v := hval0
  have hA : DataW.TrodAll enc Try.prog W 0 (fun _ => true) true Try.f4.params.toList args.toList ds p := hA0
  rw [Try.params4] at hA hval
  obtain ⟨v0, vs0, d0, ds0, p0, q0, hargs0, rfl, rfl, k0, hA1⟩ := trodAll_cons hA
  obtain ⟨v1, vs1, d1, ds1, p1, q1, hargs1, rfl, rfl, k1, hA2⟩ := trodAll_cons hA1
  obtain ⟨v2, vs2, d2, ds2, p2, q2, hargs2, rfl, rfl, k2, hA3⟩ := trodAll_cons hA2
  obtain ⟨rfl, rfl, rfl⟩ := trodAll_nil hA3
  obtain rfl : args = #[v0, v1, v2] := by cases args; simp_all
  obtain ⟨cs0, rfl, hsz0'⟩ := okWide_struct Try.underlying23 (hval 0 23 v0 rfl rfl)
  rw [ncellsSh] at hsz0'
  obtain ⟨fuel0, hf0⟩ := k0
  obtain ⟨sh, hsh⟩ := shape_t (by simpa [Value.cells] using hsz0') hf0
  obtain ⟨cs2, rfl, hsz2⟩ := okWide_struct Try.underlying44 (hval 2 44 v2 rfl rfl)
  rw [ncells51] at hsz2
  obtain ⟨fuel2, hf2⟩ := k2
  obtain ⟨j, hj, hjw⟩ := open_job (by simpa [Value.cells] using hsz2) hf2
  obtain ⟨x, rfl⟩ := okWide_int Try.underlying3 (hval 1 3 v1 rfl rfl)
  have e0 : (Value.agg cs0) = sh.val := by
    obtain ⟨l0⟩ := cs0
    simp [Value.cells] at hsh
    rw [hsh]; rfl
  have e2 : (Value.agg cs2) = j.val := by
    obtain ⟨l2⟩ := cs2
    obtain ⟨c0, c1, c2, c3, c4, rfl⟩ := list5' (show l2.length = 5 by simpa using hsz2)
    have g0 := hj 0 (by omega)
    have g1 := hj 1 (by omega)
    have g2 := hj 2 (by omega)
    have g3 := hj 3 (by omega)
    have g4 := hj 4 (by omega)
    simp [Value.cells, Jb.cell] at g0 g1 g2 g3 g4
    subst g0 g1 g2 g3 g4
    rfl
  rw [e0, e2]
  exact Deal.faces_walk sh x j hjw
end DFacesLaw

theorem dealFaces_holds : Rows.DealFacesSaid :=
  OpenClaim.holds_of_wide 4 Try.f4 rfl rfl rfl rfl rfl rfl rfl ⟨rfl, rfl, rfl, rfl, rfl⟩ rfl rfl rfl rfl rfl (by kernel_rfl) Try.func4 (by kernel_rfl)
    (of_decide_eq_true (by kernel_rfl)) (by unfold Func.isWrapper; first | (rw [if_pos (by decide +kernel)]; kernel_rfl) | (rw [if_neg (by decide +kernel)]; exact ⟨rfl, rfl⟩))
    (fun os started H enc _ => DFacesLaw.lifted os started H enc)
#print axioms dealFaces_holds
end Go.Proofs.Ytohjlcmekkllgaa
