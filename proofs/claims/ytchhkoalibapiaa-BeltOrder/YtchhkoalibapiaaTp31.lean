/-
  Lemmas: BeltP, BeltL, BeltQ, BeltX, ListW, BeltV.
-/
import Derived.Test.YtchhkoalibapiaaTp30
import Derived.Test.YtchhkoalibapiaaTp20
import Derived.Test.YtchhkoalibapiaaTp21
import Derived.Test.YtchhkoalibapiaaTp25
import Derived.Test.YtchhkoalibapiaaTp07
import Derived.Test.YtchhkoalibapiaaTp03
import Derived.Test.YtchhkoalibapiaaTp22
import Derived.Test.YtchhkoalibapiaaTp05
import Derived.Deep.CutBlock
import Derived.Deep.CutRange
import Derived.Deep.QuietTactic
/-
  The belt's Size and Play, whatever they are given.
-/
namespace Go.Proofs.Ytchhkoalibapiaa
open Go.RowKit
set_option linter.unusedVariables false
set_option linter.unusedSimpArgs false
set_option maxRecDepth 20000
namespace Belt

theorem callSize (args : Array Value) (w : World) : (callFunc 21 args).run Try.prog w = .ok (.enter 21 args) w := by simp [go_sem]

theorem size_ok (w : World) (sh : Shp) (h1 : 1 ≤ sh.f) (h2 : sh.f ≤ 64) : Calls Try.prog 21 #[sh.val] w fun e w' => e = .returned (.tuple #[.int .i64 (2 + 2 * sh.f), .int .i64 0]) ∧ w.grownBy w' none := by
  obtain ⟨s0, s1, s2, s3, s4, s5⟩ := sh
  simp only [Shp.val] at h1 h2 ⊢
  have g3 : wrap64 (2 * s5) = 2 * s5 := by unfold wrap64; omega
  have g4 : wrap64 (2 + 2 * s5) = 2 + 2 * s5 := by unfold wrap64; omega
  go_enter Try.func21, Try.ntmps21
  go_wp2_with (go_at_call 36; refine (room_ok _ ⟨s0, s1, s2, s3, s4, s5⟩ h1 h2).mono ?_; rintro e w1 ⟨rfl, hg1⟩; have HG := hide hg1; have sh5 : w1.cell? ⟨w.heap.size, 5, none⟩ = some (.int .i64 s5) := hg1.cell (a := ⟨w.heap.size, 5, none⟩) (by simp) (by simp); clear hg1)
  go_ret2
  exact ⟨rfl, grown_trans (grown_alloc (grown_refl _ _) _) HG.out⟩
theorem size_bad (w : World) (sh : Shp) (h : sh.f < 1 ∨ 64 < sh.f) : Calls Try.prog 21 #[sh.val] w fun e w' => e = .returned (.tuple #[.int .i64 0, .int .i64 120]) ∧ w.grownBy w' none := by
  obtain ⟨s0, s1, s2, s3, s4, s5⟩ := sh
  simp only [Shp.val] at h ⊢
  go_enter Try.func21, Try.ntmps21
  go_wp2_with (go_at_call 36; refine (room_bad _ ⟨s0, s1, s2, s3, s4, s5⟩ h).mono ?_; rintro e w1 ⟨rfl, hg1⟩; have HG := hide hg1; clear hg1)
  go_ret2
  exact ⟨rfl, grown_trans (grown_alloc (grown_refl _ _) _) HG.out⟩

variable {w : World} {ao aoh aos : Option Addr} {cap caph caps : Nat} {P : Par} {f : Nat → Int} {most : Int} {sh : Shp}

theorem play_any {R : Ending → World → Prop} {Q : Ending → World → Prop}
    (h : Calls Try.prog 20 #[.func (.func 21) #[] #[], .func (.func 22) #[] #[], sh.val, .slice ao P.n cap, .slice aoh P.nh caph, .slice aos P.ns caps, .int .i64 most]
      ((w.alloc (.cells #[.int .i64 sh.a, .int .i64 sh.b, .int .i64 sh.c, .int .i64 sh.d, .int .i64 sh.e, .int .i64 sh.f] 23)).alloc (.cells #[.slice none 0 0, .slice none 0 0, .bool false] 32)) Q)
    (hs : ∀ e w', Q e w' → Below (w.heap.size + 2) ((w.alloc (.cells #[.int .i64 sh.a, .int .i64 sh.b, .int .i64 sh.c, .int .i64 sh.d, .int .i64 sh.e, .int .i64 sh.f] 23)).alloc (.cells #[.slice none 0 0, .slice none 0 0, .bool false] 32)) w' ∧
      ∃ sa k sc wa n wc en aa m ac er, e = .returned (tv3 sa k sc wa n wc en aa m ac er) ∧ R e (((w'.setCell ⟨w.heap.size + 1, 0, none⟩ (.slice sa k sc)).setCell ⟨w.heap.size + 1, 1, none⟩ (.slice wa n wc)).setCell ⟨w.heap.size + 1, 2, none⟩ (.bool en))) :
    Calls Try.prog 10 #[sh.val, .slice ao P.n cap, .slice aoh P.nh caph, .slice aos P.ns caps, .int .i64 most] w R := by
  obtain ⟨s0, s1, s2, s3, s4, s5⟩ := sh
  simp only [Shp.val] at h hs ⊢
  have HH := hide h
  have HS := hide hs
  clear h hs
  go_enter Try.func10, Try.ntmps10
  go_wp2_with fail
  refine HH.out.mono ?_
  intro e w3 hq
  obtain ⟨hb, sa, k, sc, wa, n, wc, en, aa, m, ac, er, rfl, hR⟩ := HS.out e w3 hq
  have u0 := hb.cell (p := ⟨w.heap.size + 1, 0, none⟩) (by simp)
  have u1 := hb.cell (p := ⟨w.heap.size + 1, 1, none⟩) (by simp)
  have u2 := hb.cell (p := ⟨w.heap.size + 1, 2, none⟩) (by simp)
  have v0 := hb.frozen (p := ⟨w.heap.size + 1, 0, none⟩) (by simp)
  have v1 := hb.frozen (p := ⟨w.heap.size + 1, 1, none⟩) (by simp)
  have v2 := hb.frozen (p := ⟨w.heap.size + 1, 2, none⟩) (by simp)
  simp at u0 u1 u2 v0 v1 v2
  have HR := hide hR
  clear hb hR hq
  unfold tv3
  go_wp2_with fail
  go_light
  refine bodyPost_ret (v := tv3 sa k sc wa n wc en aa m ac er) ?_ rfl HR.out
  simp [results, Try.results10, go_sem, tv3, *]

theorem play_shape (h : sh.f < 1 ∨ 64 < sh.f) : Calls Try.prog 10 #[sh.val, .slice ao P.n cap, .slice aoh P.nh caph, .slice aos P.ns caps, .int .i64 most] w fun e w' => e = .returned (errVal 120) ∧ Below w.heap.size w w' := by
  have b0 : Below w.heap.size w ((w.alloc (.cells #[.int .i64 sh.a, .int .i64 sh.b, .int .i64 sh.c, .int .i64 sh.d, .int .i64 sh.e, .int .i64 sh.f] 23)).alloc (.cells #[.slice none 0 0, .slice none 0 0, .bool false] 32)) := ((Below.refl _ w).alloc (Nat.le_refl _) _).alloc (by simp) _
  refine play_any (lay_size_err (by decide) callSize (fun w' => size_bad w' sh h)) ?_
  rintro e w' ⟨rfl, hb⟩
  simp only [World.size_alloc] at hb
  refine ⟨hb, none, 0, 0, none, 0, 0, false, none, 0, 0, 120, rfl, rfl, ?_⟩
  exact (((b0.trans (hb.mono (by omega))).setCell (by simp) _).setCell (by simp) _).setCell (by simp) _

theorem play_all {want : Nat} (h1 : 1 ≤ sh.f) (h2 : sh.f ≤ 64) (hwant : (want : Int) = 2 + 2 * sh.f) (S : Sees w w.heap.size ao P.n f) (hf : ∀ i, i < P.n → 0 ≤ f i ∧ f i ≤ 18446744073709551615) (SH : SeesH w w.heap.size aoh P.nh P.jn P.jb) (hn63 : P.nh ≤ 9223372036854775807) (SI : SeesI w w.heap.size aos P.ns P.sched) (hjw : ∀ h, h < P.nh → ∀ j, j < P.jn h → (P.jb h j).wf) :
    Calls Try.prog 10 #[sh.val, .slice ao P.n cap, .slice aoh P.nh caph, .slice aos P.ns caps, .int .i64 most] w (LAll (kBelt sh.f) want w P f most) := by
  have b0 : Below w.heap.size w ((w.alloc (.cells #[.int .i64 sh.a, .int .i64 sh.b, .int .i64 sh.c, .int .i64 sh.d, .int .i64 sh.e, .int .i64 sh.f] 23)).alloc (.cells #[.slice none 0 0, .slice none 0 0, .bool false] 32)) := ((Below.refl _ w).alloc (Nat.le_refl _) _).alloc (by simp) _
  have sz0 : ((w.alloc (.cells #[.int .i64 sh.a, .int .i64 sh.b, .int .i64 sh.c, .int .i64 sh.d, .int .i64 sh.e, .int .i64 sh.f] 23)).alloc (.cells #[.slice none 0 0, .slice none 0 0, .bool false] 32)).heap.size = w.heap.size + 2 := by simp
  refine play_any (lay_any (K := kBelt sh.f) (want := want) callSize (fun w' => by rw [hwant]; exact size_ok w' sh h1 h2) (isKind sh.f h1 h2) (fun w' tb sb H => makes h1 h2 H) ((S.below b0 (Nat.le_refl _)).mono (by omega)) hf ((SH.below b0 (Nat.le_refl _)).up (by omega)) hn63 ((SI.below b0 (Nat.le_refl _)).up (by omega)) hjw) ?_
  intro e w' hq
  obtain ⟨sa, k, sc, wa, n, wc, en, aa, m, ac, er, rfl⟩ := hq.shape
  have hb := hq.1
  rw [sz0] at hb
  exact ⟨hb, sa, k, sc, wa, n, wc, en, aa, m, ac, er, rfl, hq.up b0 (touch3 w' (w.heap.size + 1) (.slice sa k sc) (.slice wa n wc) (.bool en)) (by omega) (by omega)⟩

end Belt
end Go.Proofs.Ytchhkoalibapiaa

/-
  The belt's Fresh, and the statements' own example through the belt.
-/
namespace Go.Proofs.Ytchhkoalibapiaa
open Go.RowKit
set_option linter.unusedVariables false
set_option linter.unusedSimpArgs false
set_option maxRecDepth 20000
namespace Belt

/-- Fresh words with the marks of the places below k. -/
def bfr (k : Nat) (i : Nat) : Int := if 2 ≤ i ∧ i < 2 + k then 2 * ((i : Int) - 2) else 0
theorem bfr_bounds {k : Nat} (hk : k ≤ 64) (i : Nat) : 0 ≤ bfr k i ∧ bfr k i ≤ 18446744073709551615 := by
  unfold bfr
  split
  all_goals omega
theorem bfr_zero (i : Nat) : bfr 0 i = 0 := by
  unfold bfr
  rw [if_neg (by omega)]
theorem bfr_next (k : Nat) (i : Nat) : bfr (k + 1) i = putF (bfr k) (2 + k) (2 * (k : Int)) i := by
  unfold putF
  by_cases h : i = 2 + k
  · subst h
    rw [if_pos rfl]
    unfold bfr
    rw [if_pos (by omega)]
    omega
  · rw [if_neg h]
    unfold bfr
    repeat' split
    all_goals omega

theorem free_any (p : Int) (h0 : 0 ≤ p) (h1 : p ≤ 18446744073709551615) (w : World) : Calls Try.prog 25 #[.int .u64 p] w fun e w' => e = .returned (.int .u64 (fre p)) ∧ w' = w := free_call p w

set_option maxHeartbeats 4000000 in
theorem fresh_ok (w : World) (sh : Shp) (h1 : 1 ≤ sh.f) (h2 : sh.f ≤ 64) {want r : Nat} (hr : (r : Int) = sh.f) (hwant : want = 2 + 2 * r) : Calls Try.prog 16 #[sh.val] w fun e w' => ∃ g, e = .returned (.tuple #[.slice (some ⟨g, 0, none⟩) want want, .int .i64 0]) ∧ IsRow w' g want want (bfr r) ∧ w.heap.size ≤ g ∧ w.grownBy w' none := by
  have SZ := hide (fun w' : World => size_ok w' sh h1 h2)
  obtain ⟨s0, s1, s2, s3, s4, s5⟩ := sh
  simp only [Shp.val] at SZ h1 h2 hr ⊢
  subst hr
  have ew : (2 + 2 * (r : Int)) = (want : Int) := by omega
  rw [ew] at SZ
  have hmk := run_make_z (P := Try.prog) 24 55 _ 1 8 Try.underlying24 info46 want (by omega) (by omega)
  simp only [Nat.mul_one] at hmk
  have hw4 : want ≤ 130 := by omega
  have hw2 : 4 ≤ want := by omega
  have r1 : 1 ≤ r := by omega
  have r64 : r ≤ 64 := by omega
  have HWT := hide hwant
  clear hwant ew
  go_enter Try.func16, Try.ntmps16
  go_wp2_with (go_at_call 21; refine (SZ.out _).mono ?_; rintro e w1 ⟨rfl, hg1⟩; have HG := hide hg1; have sz1 := hg1.size; simp only [World.size_alloc] at sz1; have sh5 : w1.cell? ⟨w.heap.size, 5, none⟩ = some (.int .i64 r) := hg1.cell (a := ⟨w.heap.size, 5, none⟩) (by simp) (by simp); have lt1 : w.heap.size < w1.heap.size := (by omega); have ne1 : ¬ w.heap.size = w1.heap.size := (by omega); clear hg1)
  obtain ⟨W2, hW2⟩ : ∃ W2, w1.alloc (.cells (madeCells #[.int .u64 0] want) 55) = W2 := ⟨_, rfl⟩
  have R2 : IsRow W2 w1.heap.size want want (fun _ => 0) := by
    rw [← hW2]
    exact ⟨Nat.le_refl _, by unfold maxLen; omega, ⟨_, World.rowIs_made w1 (.int .u64 0) want 55, fun i hi => rfl⟩, fun i hi => ⟨Int.le_refl 0, by show (0 : Int) ≤ 18446744073709551615; decide⟩⟩
  have G2 := hide (show w.grownBy W2 none from by rw [← hW2]; exact grown_alloc (grown_trans (grown_alloc (grown_refl _ _) _) HG.out) _)
  have C2 : W2.cell? ⟨w.heap.size, 5, none⟩ = some (.int .i64 r) := by rw [← hW2]; exact ((((Below.refl w1.heap.size w1).alloc (Nat.le_refl _) _).cell (p := ⟨w.heap.size, 5, none⟩) (show w.heap.size < w1.heap.size by omega))).trans sh5
  have HR2 := hide R2
  simp only [hW2]
  clear hW2 R2 sh5
  go_wp2_with fail
  go_loopw [20] (fun i wr => ∃ k : Nat, k ≤ r ∧ i = .int .i64 k ∧ IsRow wr w1.heap.size want want (bfr k) ∧ W2.grownBy wr (some w1.heap.size)) (fun i _ => r - (intOf i).toNat)
  case atStart => exact ⟨0, Nat.zero_le _, rfl, HR2.out.congr (fun i _ => (bfr_zero i).symm), grown_refl _ _⟩
  case round =>
    obtain ⟨k, hk, rfl, hrw, hgr⟩ := hrel
    by_cases hlt : k < r
    · have hlt' : (k : Int) < r := by omega
      have e4 : IntKind.u64.wrap (k : Int) = (k : Int) := by rw [IntKind.wrap_u64]; omega
      have HL := hide (fun w' : World => free_any (k : Int) (by omega) (by omega) w')
      have e2 : fre (k : Int) = 2 * (k : Int) := by unfold fre u64; omega
      rw [e2] at HL
      have e3 : wrap64 (2 + (k : Int)) = ((2 + k : Nat) : Int) := by unfold wrap64; omega
      have e5 : wrap64 ((k : Int) + 1) = (k : Int) + 1 := by unfold wrap64; omega
      have cc' := hrw.cell (show 2 + k < want by have := HWT.out; omega)
      have cf' := hrw.frozen (2 + k)
      have hib : ((2 + k : Nat) : Int) < want := by have := HWT.out; omega
      have hib2 : 2 + k < want := by have := HWT.out; omega
      obtain ⟨kk, hkk⟩ : ∃ kk, 2 + k = kk := ⟨_, rfl⟩
      rw [hkk] at e3 cc' cf' hib hib2
      have HRW := hide hrw
      have HGR := hide hgr
      clear hrw hgr e2
      go_wp2_with (go_at_call 25; refine (HL.out _).mono ?_; rintro e w' ⟨rfl, rfl⟩)
      go_roundw
      case rel =>
        refine ⟨k + 1, by omega, by go_num, (HRW.out.set kk (2 * (k : Int)) ⟨by omega, by omega⟩).congr (fun i _ => ?_), grown_setCell HGR.out _ (.inl rfl) _⟩
        rw [← hkk]
        exact (bfr_next k i).symm
      case measure => simp [intOf]; omega
    · have hlt' : ¬ (k : Int) < r := by omega
      obtain rfl : k = r := by omega
      have HRW := hide hrw
      have HGR := hide hgr
      clear hrw hgr
      go_wp2_with fail
      go_ret2
      refine ⟨w1.heap.size, rfl, HRW.out, by omega, ?_⟩
      have t := (Touch.of_grown G2.out).trans' (Touch.of_grown HGR.out) (S' := fun q => some q = some w1.heap.size) (fun q hq h => by simp at h; omega)
      exact ⟨t.os, t.tape, t.output, t.size, fun q hq hn => t.block q hq (by simp)⟩
set_option maxHeartbeats 2000000 in
theorem fresh_bad (w : World) (sh : Shp) (h : sh.f < 1 ∨ 64 < sh.f) : Calls Try.prog 16 #[sh.val] w fun e w' => e = .returned (.tuple #[.slice none 0 0, .int .i64 120]) ∧ w.grownBy w' none := by
  have SZ := hide (fun w' : World => size_bad w' sh h)
  obtain ⟨s0, s1, s2, s3, s4, s5⟩ := sh
  simp only [Shp.val] at SZ h ⊢
  go_enter Try.func16, Try.ntmps16
  go_wp2_with (go_at_call 21; refine (SZ.out _).mono ?_; rintro e w1 ⟨rfl, hg1⟩; have HG := hide hg1; clear hg1)
  go_ret2
  exact ⟨rfl, grown_trans (grown_alloc (grown_refl _ _) _) HG.out⟩

namespace Exam
def P0 : Par := { n := 4, nh := 1, jn := fun _ => 2, jb := fun _ j => if j = 0 then ⟨1, 0, 0, 0, 7⟩ else ⟨2, 0, 0, 0, 0⟩, ns := 0, sched := fun _ => 0 }
def s10 : St (kBelt 1) := runSt P0 (st0 (kBelt 1) P0 (bfr 1)) 99
theorem k10 : s10.k = 10 := by decide +kernel
theorem e10 : Go.Proofs.Ytchhkoalibapiaa.cnt (s10.going P0) P0.nh = 0 := by decide +kernel
theorem d10 : s10.done 0 = 2 := by decide +kernel
theorem a1 : (s10.ans 0 1).val = 7 ∧ (s10.ans 0 1).ok = true := by decide +kernel
end Exam

theorem exam_play (v : World) (g : Nat) (R : IsRow v g 4 4 (bfr 1)) (hgl : g < v.heap.size) : Calls Try.prog 10 #[(⟨0, 0, 0, 0, 0, 1⟩ : Shp).val, .slice (some ⟨g, 0, none⟩) 4 4, .slice (some ⟨v.heap.size + 1, 0, none⟩) 1 1, .slice none 0 0, .int .i64 99]
    ((v.alloc (.cells #[.int .i64 1, .int .i64 0, .int .i64 0, .int .i64 0, .int .u64 7, .int .i64 2, .int .i64 0, .int .i64 0, .int .i64 0, .int .u64 0] 61)).alloc (.cells #[.slice (some ⟨v.heap.size, 0, none⟩) 2 2] 62)) (LAll (kBelt 1) 4 ((v.alloc (.cells #[.int .i64 1, .int .i64 0, .int .i64 0, .int .i64 0, .int .u64 7, .int .i64 2, .int .i64 0, .int .i64 0, .int .i64 0, .int .u64 0] 61)).alloc (.cells #[.slice (some ⟨v.heap.size, 0, none⟩) 2 2] 62)) Exam.P0 (bfr 1) 99) := by
  have B0 : Below v.heap.size v ((v.alloc (.cells #[.int .i64 1, .int .i64 0, .int .i64 0, .int .i64 0, .int .u64 7, .int .i64 2, .int .i64 0, .int .i64 0, .int .i64 0, .int .u64 0] 61)).alloc (.cells #[.slice (some ⟨v.heap.size, 0, none⟩) 2 2] 62)) := ((Below.refl _ v).alloc (Nat.le_refl _) _).alloc (by simp) _
  have R1 := (row_arr v #[.int .i64 1, .int .i64 0, .int .i64 0, .int .i64 0, .int .u64 7, .int .i64 2, .int .i64 0, .int .i64 0, .int .i64 0, .int .u64 0] 61).alloc (.cells #[.slice (some ⟨v.heap.size, 0, none⟩) 2 2] 62)
  have R3 := row_arr (v.alloc (.cells #[.int .i64 1, .int .i64 0, .int .i64 0, .int .i64 0, .int .u64 7, .int .i64 2, .int .i64 0, .int .i64 0, .int .i64 0, .int .u64 0] 61)) #[.slice (some ⟨v.heap.size, 0, none⟩) 2 2] 62
  simp only [World.size_alloc] at R1 R3
  refine play_all (sh := ⟨0, 0, 0, 0, 0, 1⟩) (P := Exam.P0) (f := bfr 1) (most := 99) (want := 4) (by decide) (by decide) (by decide) ?_ (fun i _ => bfr_bounds (by decide) i) ?_ (by decide) ?_ (fun h _ j _ => ?_)
  · exact (R.sees.below B0 (Nat.le_refl _)).mono (by simp; omega)
  · intro h hh
    have : h < 1 := hh
    match h, this with
    | 0, _ =>
      refine ⟨v.heap.size + 1, 0, some ⟨v.heap.size, 0, none⟩, 2, rfl, R3.lt, R3.cell (i := 0) (by simp), ?_⟩
      intro i hi
      refine ⟨v.heap.size, 0, rfl, R1.lt, fun q hq => ?_⟩
      have : i < 2 := hi
      match i, this, q, hq with
      | 0, _, 0, _ => exact R1.cell (i := 0) (by decide)
      | 0, _, 1, _ => exact R1.cell (i := 1) (by decide)
      | 0, _, 2, _ => exact R1.cell (i := 2) (by decide)
      | 0, _, 3, _ => exact R1.cell (i := 3) (by decide)
      | 0, _, 4, _ => exact R1.cell (i := 4) (by decide)
      | 1, _, 0, _ => exact R1.cell (i := 5) (by decide)
      | 1, _, 1, _ => exact R1.cell (i := 6) (by decide)
      | 1, _, 2, _ => exact R1.cell (i := 7) (by decide)
      | 1, _, 3, _ => exact R1.cell (i := 8) (by decide)
      | 1, _, 4, _ => exact R1.cell (i := 9) (by decide)
  · intro j hj
    exact absurd hj (Nat.not_lt_zero j)
  · simp only [Exam.P0, Jb.wf]
    repeat' split
    all_goals decide

set_option maxHeartbeats 4000000 in
theorem awake_any (w : World) : Calls Try.prog 5 #[] w fun e w' => e = .returned (.bool true) ∧ Below w.heap.size w w' := by
  have FR := hide (fun w' : World => fresh_ok w' ⟨0, 0, 0, 0, 0, 1⟩ (by decide) (by decide) (want := 4) (r := 1) (by decide) (by decide))
  have EX := hide exam_play
  simp only [Shp.val] at FR EX
  obtain ⟨W0, hW0⟩ : ∃ W0, w.alloc (.cells #[.int .i64 0, .int .i64 0, .int .i64 0, .int .i64 0, .int .i64 0, .int .i64 1] 23) = W0 := ⟨_, rfl⟩
  have b0 : Below w.heap.size w W0 := by rw [← hW0]; exact (Below.refl _ w).alloc (Nat.le_refl _) _
  have R0 : W0.rowIs w.heap.size 23 6 (fun i => (#[Value.int .i64 0, .int .i64 0, .int .i64 0, .int .i64 0, .int .i64 0, .int .i64 1]).getD i undef) := by rw [← hW0]; exact row_arr w _ _
  have keep : Hid (∀ w' : World, Below W0.heap.size W0 w' → Below w.heap.size w w' ∧ w.heap.size < w'.heap.size ∧ w'.cell? ⟨w.heap.size, 0, none⟩ = some (.int .i64 0) ∧ w'.cell? ⟨w.heap.size, 1, none⟩ = some (.int .i64 0) ∧ w'.cell? ⟨w.heap.size, 2, none⟩ = some (.int .i64 0) ∧ w'.cell? ⟨w.heap.size, 3, none⟩ = some (.int .i64 0) ∧ w'.cell? ⟨w.heap.size, 4, none⟩ = some (.int .i64 0) ∧ w'.cell? ⟨w.heap.size, 5, none⟩ = some (.int .i64 1)) := fun w' hb => by
    have r := R0.of_block (hb.block w.heap.size R0.lt)
    exact ⟨b0.trans (hb.mono b0.size), r.lt, r.cell (i := 0) (by decide), r.cell (i := 1) (by decide), r.cell (i := 2) (by decide), r.cell (i := 3) (by decide), r.cell (i := 4) (by decide), r.cell (i := 5) (by decide)⟩
  obtain ⟨_, l0, c0, c1, c2, c3, c4, c5⟩ := keep.out W0 (Below.refl _ _)
  clear b0 R0
  go_enter Try.func5, Try.ntmps5
  go_wp2_with fail
  refine (FR.out _).mono ?_
  rintro e w2 ⟨g, rfl, hr2, hg2, hgr⟩
  have B2 := hide (below_of_grown_none hgr W0.heap.size (Nat.le_refl _))
  have HR2 := hide hr2
  clear hgr hr2 c0 c1 c2 c3 c4 c5 hW0
  obtain ⟨bw2, l2, c0, c1, c2, c3, c4, c5⟩ := keep.out w2 B2.out
  have HB2 := hide bw2
  clear bw2
  go_wp2_with fail
  refine (EX.out w2 g HR2.out HR2.out.lt).mono ?_
  rintro e w3 ⟨hb, hcase⟩
  have BX : Below w2.heap.size w2 ((w2.alloc (.cells #[.int .i64 1, .int .i64 0, .int .i64 0, .int .i64 0, .int .u64 7, .int .i64 2, .int .i64 0, .int .i64 0, .int .i64 0, .int .u64 0] 61)).alloc (.cells #[.slice (some ⟨w2.heap.size, 0, none⟩) 2 2] 62)) := ((Below.refl w2.heap.size w2).alloc (Nat.le_refl _) _).alloc (by simp) _
  have BB := hide (HB2.out.trans ((BX.trans (hb.mono (by simp; omega))).mono (by omega)))
  clear hb BX c0 c1 c2 c3 c4 c5
  rcases hcase with ⟨er, hle, rfl⟩ | ⟨_, hF, hok, v, rfl, blk, c, g', sv, rfl, H, G, GS, R, hg, hne⟩
  · refine absurd ⟨?_, ?_⟩ (show ¬ (Fine Exam.P0 99 ∧ AllOk (kBelt 1) Exam.P0) from by rcases hle with ⟨h, _⟩ | ⟨_, h⟩; exact absurd rfl h; exact h.not)
    · refine ⟨by decide, ?_, by decide, by decide, by decide⟩
      rintro (h | ⟨h, _, h2⟩)
      · exact absurd h (by decide)
      · have h3 : 256 < 2 := h2
        omega
    · intro h hh j hj
      have : h < 1 := hh
      match h, this with
      | 0, _ =>
        have : j < 2 := hj
        match j, this with
        | 0, _ => decide
        | 1, _ => decide
  · have hst : runSt Exam.P0 (st0 (kBelt 1) Exam.P0 (bfr 1)) (Int.toNat 99) = Exam.s10 := rfl
    rw [hst] at G GS R ⊢
    rw [Exam.e10]
    obtain ⟨b, cap, rfl, hbl, _, hcs⟩ := grows_cell GS H (stepCells_length _ _) (by rw [Exam.k10]; decide)
    obtain ⟨A, eA, hA⟩ := G.answers
    have a0 := hA 0 (by decide)
    rw [Exam.d10] at a0
    obtain ⟨b', cap', eA0, hbl', _, hcs'⟩ := grows_cell a0 H (ansCells_length _ _) (by decide)
    have ac := hcs' _ _ (ansCells_get (Exam.s10.ans 0) 2 1 1 (by decide) (by decide))
    have ak := hcs' _ _ (ansCells_get (Exam.s10.ans 0) 2 1 0 (by decide) (by decide))
    simp only [Ans.cell, Exam.a1.1, Exam.a1.2] at ac ak
    have ah := H.cell eA (i := 0) (show 0 < 1 by decide)
    simp only [eA0] at ah
    have la := H.lt eA
    rw [Exam.k10]
    have n1 : Exam.P0.n = 4 := rfl
    have n2 : Exam.P0.nh = 1 := rfl
    rw [n1, n2]
    obtain ⟨ba, hba⟩ : ∃ ba, blk .answers = ba := ⟨_, rfl⟩
    rw [hba] at ah la ⊢
    simp only [Nat.zero_mul, Nat.zero_add, Nat.reduceMul, Nat.reduceAdd] at ac ak
    clear H G GS R hne hcs hcs' hA a0 hok hst hF
    simp only [decide_true]
    go_wp2_with fail
    go_ret
    exact ⟨rfl, BB.out.alloc (by have := BB.out.size; omega) _⟩
end Belt
end Go.Proofs.Ytchhkoalibapiaa

/-
  BeltOrder, without a program: a run from fresh words as a whole; who has which turn, the same from its first step to its last; what each step is to the law.
-/
namespace Go.Proofs.Ytchhkoalibapiaa
open Go.RowKit
set_option linter.unusedVariables false
set_option linter.unusedSimpArgs false
set_option maxRecDepth 20000
namespace Belt

def rn (r : Nat) (P : Par) (i : Nat) : St (kBelt r) := runSt P (st0 (kBelt r) P (bfr r)) i
def Tn (r : Nat) (P : Par) (i : Nat) : Nat := ((rn r P i).f 0).toNat
def Hn (r : Nat) (P : Par) (i : Nat) : Nat := ((rn r P i).f 1).toNat
def BV (r : Nat) (P : Par) (ow fw : Nat → Nat × Nat) (i : Nat) : Prop := Bv r P (rn r P i).f (rn r P i).done (rn r P i).ans (rn r P i).cur ow fw (Tn r P i) (Hn r P i) i

/-- What a run is of. -/
structure Ri (r : Nat) (P : Par) : Prop where
  r1 : 1 ≤ r
  r2 : r ≤ 64
  n : P.n = 2 + 2 * r
  ok : ∀ h, h < P.nh → ∀ j, j < P.jn h → berr (P.jb h j) = 0
  wf : ∀ h, h < P.nh → ∀ j, j < P.jn h → (P.jb h j).wf
section
variable {r : Nat} {P : Par} {ow fw : Nat → Nat × Nat} {i h m : Nat}

theorem kind12 {j : Jb} (e : berr j = 0) : j.kind = 1 ∨ j.kind = 2 := by
  unfold berr at e
  split at e
  · exact .inl (by assumption)
  · split at e
    · exact .inr (by assumption)
    · cases e
theorem Ri.kinds (R : Ri r P) : ∀ h, h < P.nh → ∀ j, j < P.jn h → (P.jb h j).kind = 1 ∨ (P.jb h j).kind = 2 := fun h hh j hj => kind12 (R.ok h hh j hj)
theorem req_put {s : BeS} (H : Wf s) : 0 ≤ (breq (r : Int) s).put ∧ (breq (r : Int) s).put ≤ 18446744073709551615 := by
  have a := H.h
  unfold Jb.wf at a
  unfold breq
  repeat' split
  all_goals first | (show (0 : Int) ≤ 0 ∧ (0 : Int) ≤ _; decide) | exact ⟨u64_lo _, u64_hi _⟩ | exact dne_bounds _ _ _ | exact a | exact ⟨a.1, by omega⟩
theorem Ri.words (R : Ri r P) (m : Nat) : ∀ i, i < P.n → 0 ≤ (rn r P m).f i ∧ (rn r P m).f i ≤ 18446744073709551615 := by
  have r1 := R.r1
  have r2 := R.r2
  exact (wr_run (K := kBelt r) (P := P) (f := bfr r) (isKind r (by omega) (by omega)).ok (fun j s hw => req_put hw.2) (fun h hh j hj => ⟨R.wf h hh j hj, 0, R.ok h hh j hj⟩) (fun i _ => bfr_bounds r2 i) m).word

theorem one_bv (R : Ri r P) (hk : i ≤ 65535) (hh : h < P.nh) (hd : (rn r P i).done h < P.jn h) (e : rn r P (i + 1) = stepSt P (rn r P i) h) {x : Stp} (hx : stepOf P.n (rn r P i).f (breq r ((rn r P i).cur h)) = x) (B : BV r P ow fw i) :
    (rn r P (i + 1)).done = (if bends ((rn r P i).cur h) x = true then upd (rn r P i).done h ((rn r P i).done h + 1) else (rn r P i).done) ∧
    (rn r P (i + 1)).cur = upd (rn r P i).cur h (if bends ((rn r P i).cur h) x = true then ⟨h, P.jb h ((rn r P i).done h + 1), 0, 0, 0, ⟨false, 0⟩⟩ else bnext ((rn r P i).cur h) x) ∧
    ∃ ow' fw', (∀ p, p < Tn r P i → ow' p = ow p) ∧ (∀ p, p < Hn r P i → fw' p = fw p) ∧ Tn r P i ≤ Tn r P (i + 1) ∧ Hn r P i ≤ Hn r P (i + 1) ∧ BV r P ow' fw' (i + 1) ∧ Lw r (gvo P ow) ((rn r P i).cur h) x (bends ((rn r P i).cur h) x) (bnext ((rn r P i).cur h) x) (Tn r P i) (Hn r P i) (Hn r P (i + 1)) := by
  obtain ⟨ow', fw', T', H', a, b, c, d, B', L⟩ := Bv.step R.r1 R.r2 R.n R.kinds (R.words i) hk B hh hd hx rfl
  have hx' : stepOf P.n (rn r P i).f ((kBelt r).req ((rn r P i).cur h)) = x := hx
  have ed : (rn r P (i + 1)).done = (if bends ((rn r P i).cur h) x = true then upd (rn r P i).done h ((rn r P i).done h + 1) else (rn r P i).done) := by rw [e]; unfold stepSt; simp only; rw [hx']; rfl
  have ec : (rn r P (i + 1)).cur = upd (rn r P i).cur h (if bends ((rn r P i).cur h) x = true then ⟨h, P.jb h ((rn r P i).done h + 1), 0, 0, 0, ⟨false, 0⟩⟩ else bnext ((rn r P i).cur h) x) := by rw [e]; unfold stepSt; simp only; rw [hx']; rfl
  have ea : (rn r P (i + 1)).ans = (if bends ((rn r P i).cur h) x = true then upd (rn r P i).ans h (upd ((rn r P i).ans h) ((rn r P i).done h) (bnext ((rn r P i).cur h) x).told) else (rn r P i).ans) := by rw [e]; unfold stepSt; simp only; rw [hx']; rfl
  have ef : (rn r P (i + 1)).f = wordsOf P.n (rn r P i).f (breq r ((rn r P i).cur h)) := by rw [e]; rfl
  have eT : T' = Tn r P (i + 1) := by have := B'.t; unfold Tn; rw [ef, this]; rfl
  have eH : H' = Hn r P (i + 1) := by have := B'.h; unfold Hn; rw [ef, this]; rfl
  subst eT eH
  refine ⟨ed, ec, ow', fw', a, b, c, d, ?_, L⟩
  unfold BV
  rw [ed, ec, ea, ef]
  exact B'

/-- The turns' owners, the same behind every step. -/
theorem run_bv (R : Ri r P) : ∀ m, m ≤ 65536 → ∃ ow fw, ∀ i, i ≤ (rn r P m).k → BV r P ow fw i ∧ Tn r P i ≤ Tn r P (rn r P m).k ∧ Hn r P i ≤ Hn r P (rn r P m).k
  | 0, _ => by
    refine ⟨fun _ => (0, 0), fun _ => (0, 0), fun i hi => ?_⟩
    have hi : i ≤ 0 := hi
    obtain rfl : i = 0 := by omega
    refine ⟨?_, Nat.le_refl _, Nat.le_refl _⟩
    have r1 := R.r1
    exact bv_start (f0 := bfr r) r1 (by simp [bfr]) (by simp [bfr]) (fun p hp => by unfold bfr; rw [if_pos (by omega)]; omega) R.kinds _ _ _
  | m + 1, hm => by
    obtain ⟨ow, fw, A⟩ := run_bv R m (by omega)
    rcases run_succ_cases P (st0 (kBelt r) P (bfr r)) rfl m with ⟨e, _⟩ | ⟨h, _, hh, hd, hk, e⟩
    · have e' : rn r P (m + 1) = rn r P m := e
      rw [e']
      exact ⟨ow, fw, A⟩
    · have e' : rn r P (m + 1) = stepSt P (rn r P m) h := e
      have hk' : (rn r P m).k = m := hk
      have hk1 : (rn r P (m + 1)).k = m + 1 := by rw [e']; show (rn r P m).k + 1 = _; rw [hk']
      rw [hk'] at A
      rw [hk1]
      obtain ⟨-, -, ow', fw', a, b, c, d, B', -⟩ := one_bv R (by omega) hh hd e' rfl (A m (Nat.le_refl _)).1
      refine ⟨ow', fw', fun i hi => ?_⟩
      rcases Nat.lt_or_ge m i with l | l
      · obtain rfl : i = m + 1 := by omega
        exact ⟨B', Nat.le_refl _, Nat.le_refl _⟩
      · obtain ⟨x, y, z⟩ := A i l
        exact ⟨Bv.congr (fun p hp => a p (by omega)) (fun p hp => b p (by omega)) x, by omega, by omega⟩

/-- The law's map: the turn that a hand has taken and not fetched at. -/
def tm (r : Nat) (P : Par) (i h : Nat) : Option Nat := if (rn r P i).done h < P.jn h ∧ ((rn r P i).cur h).j.kind = 2 ∧ ((rn r P i).cur h).st = 3 then some ((rn r P i).cur h).num.toNat else none

/-- A step in the law's words. -/
def LS (r : Nat) (P : Par) (g : Nat → Int) (i h : Nat) (x : Stp) : Prop :=
  ((x.at_ = 1 ∧ x.act = 5 ∧ x.ok = true) ∧ x.had = (Hn r P i : Int) ∧ Hn r P (i + 1) = Hn r P i + 1 ∧ tm r P (i + 1) = upd (tm r P i) h (some (Hn r P i))) ∨
  (¬ (x.at_ = 1 ∧ x.act = 5 ∧ x.ok = true) ∧ Hn r P (i + 1) = Hn r P i ∧
    (((x.act = 1 ∧ 2 + (r : Int) ≤ x.at_) ∧ ∃ p : Nat, tm r P i h = some p ∧ p < Hn r P i ∧ x.had = g p ∧ x.at_ = (vl r p : Int) ∧ tm r P (i + 1) = upd (tm r P i) h none) ∨
     (¬ (x.act = 1 ∧ 2 + (r : Int) ≤ x.at_) ∧ tm r P (i + 1) = tm r P i)))

theorem req_hand (r : Int) (s : BeS) : (breq r s).hand = s.hand := by
  unfold breq
  repeat' split
  all_goals rfl
theorem step_hand (n : Nat) (f : Nat → Int) (q : Stp) : (stepOf n f q).hand = q.hand := by unfold stepOf; split <;> rfl

theorem law_bo (R : Ri r P) (hm : m ≤ 65536) (hi : i < (rn r P m).k) (B : BV r P ow fw i) : ∃ h, h < P.nh ∧ ((rn r P m).s i).hand = (h : Int) ∧ LS r P (gvo P ow) i h ((rn r P m).s i) := by
  obtain ⟨hk, ⟨h, _, hh, hg, e⟩, es⟩ := hist P (st0 (kBelt r) P (bfr r)) rfl m i hi
  have hle : i + 1 ≤ m := by
    have := (runSt_k P (st0 (kBelt r) P (bfr r)) rfl m).1
    have hi' : i < (runSt P (st0 (kBelt r) P (bfr r)) m).k := hi
    omega
  have ex : (rn r P m).s i = stepOf P.n (rn r P i).f (breq r ((rn r P i).cur h)) := by
    show (runSt P (st0 (kBelt r) P (bfr r)) m).s i = _
    rw [es, e]
    show upd (runSt P (st0 (kBelt r) P (bfr r)) i).s (runSt P (st0 (kBelt r) P (bfr r)) i).k _ i = _
    rw [hk, upd_same]
    rfl
  have e' : rn r P (i + 1) = stepSt P (rn r P i) h := e
  obtain ⟨ed, ec, ow', fw', -, -, -, -, -, L⟩ := one_bv R (by omega) hh hg e' ex.symm B
  have sh : ((rn r P i).cur h).hand = (h : Int) := (B.hd h hh hg).1
  refine ⟨h, hh, by rw [ex, step_hand]; exact (req_hand r ((rn r P i).cur h)).trans sh, ?_⟩
  generalize (rn r P m).s i = x at ed ec L
  have oth : ∀ j, j ≠ h → tm r P (i + 1) j = tm r P i j := fun j hj => by
    have a : (rn r P (i + 1)).done j = (rn r P i).done j := by
      rw [ed]
      split
      · exact upd_other _ _ hj
      · rfl
    have b : (rn r P (i + 1)).cur j = (rn r P i).cur j := by rw [ec]; exact upd_other _ _ hj
    unfold tm
    rw [a, b]
  have hg' : (rn r P i).done h < P.jn h := hg
  have own : tm r P (i + 1) h = if bends ((rn r P i).cur h) x = false ∧ ((rn r P i).cur h).j.kind = 2 ∧ (bnext ((rn r P i).cur h) x).st = 3 then some (bnext ((rn r P i).cur h) x).num.toNat else none := by
    have b : (rn r P (i + 1)).cur h = (if bends ((rn r P i).cur h) x = true then ⟨h, P.jb h ((rn r P i).done h + 1), 0, 0, 0, ⟨false, 0⟩⟩ else bnext ((rn r P i).cur h) x) := by rw [ec]; exact if_pos rfl
    unfold tm
    rw [b, ed]
    cases bends ((rn r P i).cur h) x with
    | true => simp
    | false =>
      have jn : (bnext ((rn r P i).cur h) x).j = ((rn r P i).cur h).j := bnext_j _ _
      simp only [Bool.false_eq_true, if_false, hg', true_and]
      rw [jn]
  have up : ∀ o, tm r P (i + 1) h = o → tm r P (i + 1) = upd (tm r P i) h o := fun o ho => by
    funext j
    by_cases q : j = h
    · subst q; rw [upd_same]; exact ho
    · rw [upd_other _ _ q]; exact oth j q
  rcases L with ⟨a, k2, b, c, en, s3, sn⟩ | ⟨a, c, ⟨b, k2, s3, en, s4, p, pn, lt, xh, xa⟩ | ⟨b, n1, n2⟩⟩
  · exact .inl ⟨a, b, c, up _ (by rw [own, if_pos ⟨en, k2, s3⟩, sn]; rfl)⟩
  · refine .inr ⟨a, c, .inl ⟨b, p, ?_, lt, xh, xa, up _ (by rw [own, if_neg (fun t => by rw [s4] at t; exact absurd t.2.2 (by decide))])⟩⟩
    unfold tm
    rw [if_pos ⟨hg, k2, s3⟩, pn]
    rfl
  · refine .inr ⟨a, c, .inr ⟨b, ?_⟩⟩
    have t0 : tm r P i h = none := by unfold tm; rw [if_neg (fun t => n1 t.2.1 t.2.2)]
    have := up none (by rw [own, if_neg (fun t => n2 t.1 t.2.1 t.2.2)])
    rw [this]
    funext j
    by_cases q : j = h
    · subst q; rw [upd_same, t0]
    · rw [upd_other _ _ q]
theorem tm_start : tm r P 0 = fun _ => none := by
  funext h
  unfold tm
  rw [if_neg]
  intro t
  have : (0 : Int) = 3 := t.2.2
  omega
theorem tm_end (hd : ∀ h, h < P.nh → (rn r P m).done h = P.jn h) {h : Nat} (hh : h < P.nh) : tm r P m h = none := by
  unfold tm
  rw [if_neg]
  intro t
  have := hd h hh
  omega

/-- What stands at a run's end. -/
structure Fa (r : Nat) (P : Par) (f : Nat → Int) (ans : Nat → Nat → Ans) (ow fw : Nat → Nat × Nat) (T H : Nat) : Prop where
  t : f 0 = T
  h : f 1 = H
  b : H ≤ T ∧ T ≤ H + r ∧ T ≤ 65536
  g1 : ∀ p, p < T → (ow p).1 < P.nh ∧ (ow p).2 < P.jn (ow p).1 ∧ (P.jb (ow p).1 (ow p).2).kind = 1 ∧ ans (ow p).1 (ow p).2 = ⟨true, p⟩
  g2 : ∀ h n, h < P.nh → n < P.jn h → (P.jb h n).kind = 1 → ans h n = no ∨ ∃ p, p < T ∧ ow p = (h, n) ∧ ans h n = ⟨true, p⟩
  g4 : ∀ p q, p < q → q < T → (ow p).1 = (ow q).1 → (ow p).2 < (ow q).2
  f1 : ∀ p, p < H → (fw p).1 < P.nh ∧ (fw p).2 < P.jn (fw p).1 ∧ (P.jb (fw p).1 (fw p).2).kind = 2 ∧ ans (fw p).1 (fw p).2 = ⟨true, gvo P ow p⟩
  f2 : ∀ h n, h < P.nh → n < P.jn h → (P.jb h n).kind = 2 → ans h n = no ∨ ∃ p, p < H ∧ fw p = (h, n) ∧ ans h n = ⟨true, gvo P ow p⟩
  f4 : ∀ p q, p < q → q < H → (fw p).1 = (fw q).1 → (fw p).2 < (fw q).2
  m1 : ∀ p, H ≤ p → p < T → f (mkp r p) = 2 * p + 1 ∧ f (vl r p) = gvo P ow p
  m2 : ∀ p, T ≤ p → p < H + r → f (mkp r p) = 2 * p
  kd : ∀ h n, h < P.nh → n < P.jn h → (P.jb h n).kind = 1 ∨ (P.jb h n).kind = 2
  wd : ∀ h n, h < P.nh → n < P.jn h → 0 ≤ (P.jb h n).h ∧ (P.jb h n).h ≤ 18446744073709551615
theorem fa_of (R : Ri r P) (hm : m ≤ 65536) (B : BV r P ow fw m) (hd : ∀ h, h < P.nh → (rn r P m).done h = P.jn h) : Fa r P (rn r P m).f (rn r P m).ans ow fw (Tn r P m) (Hn r P m) := by
  have b := B.b
  refine ⟨B.t, B.h, by omega, fun p hp => ?_, fun h n hh hn => B.g2 h n hh (by rw [hd h hh]; exact hn), B.g4, fun p hp => ?_, fun h n hh hn => B.f2 h n hh (by rw [hd h hh]; exact hn), B.f4, fun p h1 h2 => ?_, fun p h1 h2 => ?_, fun h n hh hn => R.kinds h hh n hn, fun h n hh hn => ?_⟩
  · obtain ⟨a, b, c, d, e, g⟩ := B.g1 p hp
    exact ⟨a, b, c, e (by rw [hd _ a]; exact b)⟩
  · obtain ⟨a, b, c, d, e, g⟩ := B.f1 p hp
    exact ⟨a, b, c, e (by rw [hd _ a]; exact b)⟩
  · rcases B.m1 p h1 h2 with x | ⟨_, y⟩
    · exact x
    · obtain ⟨a, b, _⟩ := B.g1 p h2
      rw [hd _ a] at y; omega
  · rcases B.m2 p h1 h2 with x | ⟨u, _, y⟩
    · exact x
    · obtain ⟨a, b, _⟩ := B.f1 (p - r) (by omega)
      rw [hd _ a] at y; omega
  · have := R.wf h hh n hn
    unfold Jb.wf at this
    omega
end
end Belt
end Go.Proofs.Ytchhkoalibapiaa

/-
  BeltOrder: what Play tells of a run from fresh words; what was fetched, in the order of hands and jobs.
-/
namespace Go.Proofs.Ytchhkoalibapiaa
open Go.RowKit
set_option linter.unusedVariables false
set_option linter.unusedSimpArgs false
set_option maxRecDepth 20000
namespace Belt

/-- What a run from fresh words told. -/
def SO (r : Nat) (P : Par) (m0 : Nat) (er : Int) (sa : Option Addr) (k : Nat) (wa : Option Addr) (n : Nat) (en : Bool) (aa : Option Addr) (m : Nat) (w' : World) : Prop :=
  er = 0 → P.nh ≤ 8 ∧ (∀ h, h < P.nh → P.jn h ≤ 256) ∧ (∀ h, h < P.nh → (rn r P m0).done h ≤ P.jn h) ∧ (∀ h, h < P.nh → ∀ j, j < P.jn h → berr (P.jb h j) = 0) ∧ k = (rn r P m0).k ∧ m = P.nh ∧ n = P.n ∧ en = decide (Go.Proofs.Ytchhkoalibapiaa.cnt ((rn r P m0).going P) P.nh = 0) ∧ SeesS w' w'.heap.size sa (rn r P m0).k (rn r P m0).s ∧ Sees w' w'.heap.size wa P.n (rn r P m0).f ∧ SeesA w' w'.heap.size aa P.nh (rn r P m0).done (rn r P m0).ans

theorem play_so {w : World} {ao aoh aos : Option Addr} {cap caph caps : Nat} {P : Par} {most : Int} {sh : Shp} {r : Nat} (hr : sh.f = (r : Int)) (h1 : 1 ≤ r) (h2 : r ≤ 64) (hn : P.n = 2 + 2 * r) (S : Sees w w.heap.size ao P.n (bfr r)) (SH : SeesH w w.heap.size aoh P.nh P.jn P.jb) (hn63 : P.nh ≤ 9223372036854775807) (SI : SeesI w w.heap.size aos P.ns P.sched) (hjw : ∀ h, h < P.nh → ∀ j, j < P.jn h → (P.jb h j).wf) :
    Calls Try.prog 10 #[sh.val, .slice ao P.n cap, .slice aoh P.nh caph, .slice aos P.ns caps, .int .i64 most] w fun e w' => Below w.heap.size w w' ∧ ∃ sa k sc wa n wc en aa m ac er, e = .returned (tv3 sa k sc wa n wc en aa m ac er) ∧ SO r P most.toNat er sa k wa n en aa m w' := by
  refine (play_all (want := P.n) (f := bfr r) (by omega) (by omega) (by rw [hr]; omega) S (fun i _ => bfr_bounds h2 i) SH hn63 SI hjw).mono fun e w' h => ?_
  refine ⟨h.1, ?_⟩
  rcases h.2 with ⟨er, hle, he⟩ | ⟨hn', hF, hok, v, he, hT⟩
  · refine ⟨none, 0, 0, none, 0, 0, false, none, 0, 0, er, he, fun h0 => ?_⟩
    rcases hle with ⟨_, rfl⟩ | ⟨_, h⟩
    · exact absurd h0 (by decide)
    · exact absurd h0 h.ne
  · rw [hr] at hok hT
    obtain ⟨blk, c, g', sv, rfl, H, G, GS, R, hg, hne⟩ := hT
    obtain ⟨sa, sc, rfl⟩ := GS.isSlice'
    refine ⟨sa, _, sc, _, _, _, _, some ⟨blk .answers, 0, none⟩, P.nh, _, 0, he, fun _ => ⟨?_, fun h hh => G.jobs h hh, fun h hh => G.doneLe h hh, fun h hh j hj => hok h hh j hj, rfl, rfl, rfl, rfl, GS.seesS H, R.sees, seesA_of G.answers H⟩⟩
    rcases Nat.lt_or_ge 8 P.nh with l | l
    · exact absurd (.inl l) hF.2.1
    · exact l

theorem all_done {r : Nat} {P : Par} {m : Nat} (hc : Go.Proofs.Ytchhkoalibapiaa.cnt ((rn r P m).going P) P.nh = 0) (hle : ∀ h, h < P.nh → (rn r P m).done h ≤ P.jn h) {h : Nat} (hh : h < P.nh) : (rn r P m).done h = P.jn h := by
  have := cnt_zero hc h hh
  have hl := hle h hh
  simp only [St.going, decide_eq_false_iff_not] at this
  omega

/-! What was fetched. -/
section
variable (P : Par) (ans : Nat → Nat → Ans)
def jl (h : Nat) : Nat → List (Nat × Nat)
  | 0 => []
  | n + 1 => jl h n ++ (if (P.jb h n).kind = 2 ∧ (ans h n).ok = true then [(h, n)] else [])
def fl : Nat → List (Nat × Nat)
  | 0 => []
  | i + 1 => fl i ++ jl P ans i (P.jn i)
/-- Up to job n of hand i. -/
def fv (i n : Nat) : List Int := (fl P ans i ++ jl P ans i n).map (fun q => (ans q.1 q.2).val)
end
section
variable {r : Nat} {P : Par} {f : Nat → Int} {ans : Nat → Nat → Ans} {ow fw : Nat → Nat × Nat} {T H i n h : Nat}
theorem mem_jl (q : Nat × Nat) : ∀ n, q ∈ jl P ans h n ↔ q.1 = h ∧ q.2 < n ∧ (P.jb q.1 q.2).kind = 2 ∧ (ans q.1 q.2).ok = true
  | 0 => by simp [jl]
  | n + 1 => by
    show q ∈ jl P ans h n ++ _ ↔ _
    rw [List.mem_append, mem_jl q n]
    constructor
    · rintro (⟨a, b, c⟩ | a)
      · exact ⟨a, by omega, c⟩
      · split at a
        · rename_i k
          have e : q = (h, n) := by simpa using a
          subst e
          exact ⟨rfl, Nat.lt_succ_self n, k⟩
        · cases a
    · rintro ⟨a, b, c⟩
      by_cases e : q.2 = n
      · right
        subst a e
        rw [if_pos c]
        exact List.mem_singleton.2 rfl
      · exact .inl ⟨a, by omega, c⟩
theorem mem_fl (q : Nat × Nat) : ∀ i, q ∈ fl P ans i ↔ q.1 < i ∧ q.2 < P.jn q.1 ∧ (P.jb q.1 q.2).kind = 2 ∧ (ans q.1 q.2).ok = true
  | 0 => by simp [fl]
  | i + 1 => by
    show q ∈ fl P ans i ++ jl P ans i (P.jn i) ↔ _
    rw [List.mem_append, mem_fl q i, mem_jl]
    constructor
    · rintro (⟨a, b, c⟩ | ⟨a, b, c⟩)
      · exact ⟨by omega, b, c⟩
      · subst a; exact ⟨Nat.lt_succ_self _, b, c⟩
    · rintro ⟨a, b, c⟩
      by_cases e : q.1 = i
      · subst e; exact .inr ⟨rfl, b, c⟩
      · exact .inl ⟨by omega, b, c⟩
theorem nd_jl (h : Nat) : ∀ n, (jl P ans h n).Nodup
  | 0 => List.nodup_nil
  | n + 1 => by
    show (jl P ans h n ++ _).Nodup
    rw [List.nodup_append]
    refine ⟨nd_jl h n, ?_, fun a ha b hb => ?_⟩
    · split <;> simp
    · split at hb
      · have e : b = (h, n) := by simpa using hb
        have := ((mem_jl a n).1 ha).2.1
        intro e'; rw [e', e] at this; exact Nat.lt_irrefl _ this
      · cases hb
theorem nd_fl : ∀ i, (fl P ans i).Nodup
  | 0 => List.nodup_nil
  | i + 1 => by
    show (fl P ans i ++ _).Nodup
    rw [List.nodup_append]
    refine ⟨nd_fl i, nd_jl _ _, fun a ha b hb e => ?_⟩
    have x := ((mem_fl a i).1 ha).1
    have y := ((mem_jl b _).1 hb).1
    rw [e] at x; omega
theorem perm_fw (F : Fa r P f ans ow fw T H) : ((List.range H).map fw).Perm (fl P ans P.nh) := by
  refine (List.perm_ext_iff_of_nodup ?_ (nd_fl _)).2 fun q => ?_
  · refine List.pairwise_map.2 (List.Pairwise.imp_of_mem (fun {a b} ha hb l => ?_) List.pairwise_lt_range)
    have hb := List.mem_range.1 hb
    intro e
    have := F.f4 a b l hb (by rw [e])
    rw [e] at this
    omega
  · rw [mem_fl]
    constructor
    · intro m
      obtain ⟨p, hp, rfl⟩ := List.mem_map.1 m
      obtain ⟨a, b, c, d⟩ := F.f1 p (List.mem_range.1 hp)
      exact ⟨a, b, c, by rw [d]⟩
    · rintro ⟨a, b, c, d⟩
      rcases F.f2 q.1 q.2 a b c with x | ⟨p, x, y, z⟩
      · rw [x] at d; cases d
      · exact List.mem_map.2 ⟨p, List.mem_range.2 x, y⟩
theorem perm_gv (F : Fa r P f ans ow fw T H) : ((List.range H).map (gvo P ow)).Perm (fv P ans P.nh 0) := by
  have h := (perm_fw F).map (fun q : Nat × Nat => (ans q.1 q.2).val)
  have e : ((List.range H).map fw).map (fun q : Nat × Nat => (ans q.1 q.2).val) = (List.range H).map (gvo P ow) := by
    rw [List.map_map]
    refine List.map_congr_left fun p hp => ?_
    show (ans (fw p).1 (fw p).2).val = _
    rw [(F.f1 p (List.mem_range.1 hp)).2.2.2]
  rw [e] at h
  unfold fv
  simpa [jl] using h
theorem fv_len (F : Fa r P f ans ow fw T H) : (fv P ans P.nh 0).length = H := by
  have := (perm_gv F).length_eq
  simpa using this.symm
theorem fv_hand (i : Nat) : fv P ans i (P.jn i) = fv P ans (i + 1) 0 := by unfold fv; simp [fl, jl]
theorem fv_no (h : ¬ ((P.jb i n).kind = 2 ∧ (ans i n).ok = true)) : fv P ans i (n + 1) = fv P ans i n := by
  unfold fv
  show (fl P ans i ++ (jl P ans i n ++ _)).map _ = _
  rw [if_neg h, List.append_nil]
theorem fv_yes (h : (P.jb i n).kind = 2 ∧ (ans i n).ok = true) : fv P ans i (n + 1) = fv P ans i n ++ [(ans i n).val] := by
  unfold fv
  show (fl P ans i ++ (jl P ans i n ++ _)).map _ = _
  rw [if_pos h]
  simp
theorem fl_len (hj : ∀ h, h < P.nh → P.jn h ≤ 256) : ∀ i, i ≤ P.nh → (fl P ans i).length ≤ 256 * i
  | 0, _ => by simp [fl]
  | i + 1, hi => by
    show (fl P ans i ++ jl P ans i (P.jn i)).length ≤ _
    have jlen : ∀ n, (jl P ans i n).length ≤ n := fun n => by
      induction n with
      | zero => simp [jl]
      | succ n ih =>
        show (jl P ans i n ++ _).length ≤ _
        rw [List.length_append]
        split <;> simp <;> omega
    have a := fl_len hj i (by omega)
    have b := jlen (P.jn i)
    have c := hj i (by omega)
    rw [List.length_append]
    omega
theorem fv_len_le (hj : ∀ h, h < P.nh → P.jn h ≤ 256) (hnh : P.nh ≤ 8) (hi : i < P.nh) (hn : n ≤ P.jn i) : (fv P ans i n).length ≤ 2048 := by
  have jlen : ∀ n, (jl P ans i n).length ≤ n := fun n => by
    induction n with
    | zero => simp [jl]
    | succ n ih =>
      show (jl P ans i n ++ _).length ≤ _
      rw [List.length_append]
      split <;> simp <;> omega
  have a := fl_len (ans := ans) hj i (by omega)
  have b := jlen n
  have c := hj i hi
  unfold fv
  rw [List.length_map, List.length_append]
  omega

/-! What was given, as the law goes along hands and jobs. -/
def bf (ow : Nat → Nat × Nat) (i n p : Nat) : Prop := (ow p).1 < i ∨ ((ow p).1 = i ∧ (ow p).2 < n)
instance (ow : Nat → Nat × Nat) (i n p : Nat) : Decidable (bf ow i n p) := by unfold bf; infer_instance
def gs (P : Par) (ow : Nat → Nat × Nat) (i n p : Nat) : Int := if bf ow i n p then gvo P ow p else 0
def La (ow : Nat → Nat × Nat) (T i n : Nat) (l : Int) : Prop := l = 0 ∨ ∃ q, q < T ∧ l = (q : Int) ∧ (ow q).1 = i ∧ (ow q).2 < n
theorem bf_no (hn : ∀ p, p < T → ow p ≠ (i, n)) {p : Nat} (hp : p < T) : bf ow i (n + 1) p ↔ bf ow i n p := by
  have e : ¬ ((ow p).1 = i ∧ (ow p).2 = n) := fun t => hn p hp (Prod.ext t.1 t.2)
  unfold bf
  omega
theorem bf_hand (F : Fa r P f ans ow fw T H) {p : Nat} (hp : p < T) : bf ow i (P.jn i) p ↔ bf ow (i + 1) 0 p := by
  have a := (F.g1 p hp).2.1
  unfold bf
  constructor
  · omega
  · intro h
    rcases h with h | h
    · by_cases e : (ow p).1 = i
      · rw [e] at a; exact .inr ⟨e, a⟩
      · omega
    · omega
theorem bf_self (F : Fa r P f ans ow fw T H) {q : Nat} (hq : q < T) (e : ow q = (i, n)) {p : Nat} (hp : p < T) : bf ow i (n + 1) p ↔ bf ow i n p ∨ p = q := by
  unfold bf
  constructor
  · intro h
    by_cases t : (ow p).1 = i ∧ (ow p).2 = n
    · exact .inr (inj4 F.g4 hp hq (by rw [e]; exact Prod.ext t.1 t.2))
    · omega
  · rintro (h | rfl)
    · omega
    · rw [e]; exact .inr ⟨rfl, Nat.lt_succ_self n⟩
theorem bf_not {q : Nat} (e : ow q = (i, n)) : ¬ bf ow i n q := by unfold bf; rw [e]; simp
theorem gs_no (hn : ∀ p, p < T → ow p ≠ (i, n)) {p : Nat} (hp : p < T) : gs P ow i (n + 1) p = gs P ow i n p := by
  unfold gs
  by_cases c : bf ow i n p
  · rw [if_pos c, if_pos ((bf_no hn hp).2 c)]
  · rw [if_neg c, if_neg (fun t => c ((bf_no hn hp).1 t))]
theorem gs_hand (F : Fa r P f ans ow fw T H) {p : Nat} (hp : p < T) : gs P ow i (P.jn i) p = gs P ow (i + 1) 0 p := by
  unfold gs
  by_cases c : bf ow i (P.jn i) p
  · rw [if_pos c, if_pos ((bf_hand F hp).1 c)]
  · rw [if_neg c, if_neg (fun t => c ((bf_hand F hp).2 t))]
theorem gs_self (F : Fa r P f ans ow fw T H) {q : Nat} (hq : q < T) (e : ow q = (i, n)) {p : Nat} (hp : p < T) : gs P ow i (n + 1) p = if p = q then (P.jb i n).h else gs P ow i n p := by
  have b := bf_self F hq e hp
  unfold gs
  by_cases t : p = q
  · rw [if_pos t, if_pos (b.2 (.inr t))]
    subst t
    unfold gvo
    rw [e]
  · rw [if_neg t]
    by_cases c : bf ow i n p
    · rw [if_pos c, if_pos (b.2 (.inl c))]
    · rw [if_neg c, if_neg (fun z => (b.1 z).elim c t)]
theorem bf_all (F : Fa r P f ans ow fw T H) {p : Nat} (hp : p < T) : bf ow P.nh 0 p := .inl (F.g1 p hp).1
theorem gs_all (F : Fa r P f ans ow fw T H) {p : Nat} (hp : p < T) : gs P ow P.nh 0 p = gvo P ow p := if_pos (bf_all F hp)
theorem La.step {l : Int} (L : La ow T i n l) : La ow T i (n + 1) l := by
  rcases L with L | ⟨q, a, b, c, d⟩
  · exact .inl L
  · exact .inr ⟨q, a, b, c, by omega⟩
theorem La.le (F : Fa r P f ans ow fw T H) {l : Int} (L : La ow T i n l) {q : Nat} (hq : q < T) (e : ow q = (i, n)) : l ≤ (q : Int) ∧ 0 ≤ l := by
  rcases L with rfl | ⟨p, a, rfl, c, d⟩
  · omega
  · rcases Nat.lt_or_ge q p with z | z
    · have := F.g4 q p z a (by rw [e]; exact c.symm)
      rw [e] at this
      simp only at this
      omega
    · omega
theorem La.self {q : Nat} (hq : q < T) (e : ow q = (i, n)) : La ow T i (n + 1) (q : Int) := .inr ⟨q, hq, rfl, by rw [e], by rw [e]; exact Nat.lt_succ_self n⟩
/-- What a job's answer is to the law. -/
theorem job_is (F : Fa r P f ans ow fw T H) (hi : i < P.nh) (hn : n < P.jn i) : (ans i n = no ∧ ∀ p, p < T → ow p ≠ (i, n)) ∨ ((P.jb i n).kind = 2 ∧ ∃ v, ans i n = ⟨true, v⟩ ∧ 0 ≤ v ∧ v ≤ 18446744073709551615 ∧ ∀ p, p < T → ow p ≠ (i, n)) ∨ ((P.jb i n).kind = 1 ∧ ∃ q, q < T ∧ ow q = (i, n) ∧ ans i n = ⟨true, q⟩) := by
  rcases F.kd i n hi hn with k | k
  · rcases F.g2 i n hi hn k with a | ⟨q, x, y, z⟩
    · refine .inl ⟨a, fun p hp e => ?_⟩
      have := (F.g1 p hp).2.2.2
      rw [e, a] at this
      cases this
    · exact .inr (.inr ⟨k, q, x, y, z⟩)
  · have nk : ∀ p, p < T → ow p ≠ (i, n) := fun p hp e => by
      have := (F.g1 p hp).2.2.1
      rw [e] at this
      simp only at this
      omega
    rcases F.f2 i n hi hn k with a | ⟨q, x, y, z⟩
    · exact .inl ⟨a, nk⟩
    · obtain ⟨a, b, _⟩ := F.g1 q (by have := F.b; omega)
      have w := F.wd _ _ a b
      exact .inr (.inl ⟨k, _, z, w.1, w.2, nk⟩)
end
end Belt
end Go.Proofs.Ytchhkoalibapiaa

/-
  Lists of words as cells; append at an operation, whatever slice is appended.
-/
namespace Go.Proofs.Ytchhkoalibapiaa
open Go.RowKit
set_option linter.unusedVariables false
set_option linter.unusedSimpArgs false
set_option maxRecDepth 20000
namespace PKept

def lenV : Value → Nat
  | .slice _ n _ => n
  | _ => 0
theorem own_slice {w : World} {base : Nat} {e : TypeId} {size : Nat} {v : Value} {n : Nat} {xs : List Value} (h : w.ownsRow base e size v n xs) : ∃ ao cp, v = .slice ao n cp := by
  obtain ⟨hl, ⟨rfl, rfl⟩ | ⟨g, cap, cur, rfl, _⟩⟩ := h
  · exact ⟨_, _, rfl⟩
  · exact ⟨_, _, rfl⟩
theorem grown_below {B : Nat} {w wr w1 : World} {v : Value} {o : Obj} {e : TypeId} {n : Nat} {xs : List Value} (HB : Below B w wr) (hB : B ≤ wr.heap.size) (HO : wr.ownsRow B e 1 v n xs) (G : (wr.alloc o).grownBy w1 v.ownBlock) : Below B w w1 := by
  have HA : Below B w (wr.alloc o) := HB.alloc hB o
  refine ⟨G.os.trans HA.os, G.tape.trans HA.tape, G.output.trans HA.output, Nat.le_trans HA.size G.size, fun k hk => ?_⟩
  refine (G.block k (by simp; omega) (fun e => ?_)).trans (HA.block k hk)
  have := (HO.lt k e.symm).1
  omega

/-- Words as cells. -/
def wc (l : List Int) : List Value := l.map fun x => Value.int .u64 x
theorem wc_len (l : List Int) : (wc l).length = l.length := by simp [wc]
theorem wc_more (l : List Int) (x : Int) : wc (l ++ [x]) = wc l ++ [.int .u64 x] := by simp [wc]
theorem wc_get {l : List Int} {j : Nat} {x : Int} (h : l[j]? = some x) : (wc l)[j]? = some (.int .u64 x) := by simp [wc, h]

/-- append at an operation, the appended whatever slice: nil, empty or not. -/
theorem wp_append_opt {P : Program} {w : World} {o : Oper} {a : Act} {K : Act → World → Prop} {Q : Exit → Act → World → Prop} (s x : Operand) (t : TypeId)
    (ho : o.op = .call { callee := .builtin .append, args := #[s, x], argTypes := #[t, t] })
    (base : Nat) (e : TypeId) (i : TypeInfo) (z : Value) (size bytes : Nat) (ht : P.underlying t = some (.slice e)) (hi : P.info? e = some i) (hz : i.zero = some z)
    (hsize : i.size = size) (hby : i.bytes = bytes) (hzs : z.cells.size = size) (hsz : 0 < size)
    (v : Value) (n : Nat) (xs : List Value) (hs : a.eval s = v) (hown : w.ownsRow base e size v n xs)
    (ao : Option Addr) (m c : Nat) (news : List Value) (hx : a.eval x = .slice ao m c) (hnil : ao = none → m = 0 ∧ c = 0) (hl : news.length = m * size) (hnews : ∀ ad, ao = some ad → ∀ j u, news[j]? = some u → w.cell? (ad.add j) = some u) (h1 : ∀ u ∈ news, u.oneCell' = true)
    (h63 : n + m ≤ maxLen) (hbytes : (n + m) * bytes ≤ 140737488355328) (hbase : base ≤ w.heap.size)
    (h : ∀ v' w', w'.ownsRow base e size v' (n + m) (xs ++ news) → w.grownBy w' v.ownBlock → K (a.put o.dst v') w') : o.wp P a w K Q := by
  cases ao with
  | none =>
    obtain ⟨rfl, rfl⟩ := hnil rfl
    have hn : news = [] := by simpa using hl
    subst hn
    have hrun := run_append_owned_none (P := P) (w := w) base t o.type e i size ht hi v n xs hown
    unfold Oper.wp
    simp [execOp, ho, resolve, invoke, builtin, hs, hx, hrun, Result.andThen]
    exact h v w (by simpa using hown) ⟨rfl, rfl, rfl, Nat.le_refl _, fun _ _ _ => rfl⟩
  | some ad =>
    obtain ⟨v', w', hr, h2, h3, _, _⟩ := run_append_own_at (P := P) w base t o.type e i z size bytes ht hi hz hsize hby hzs hsz v n xs hown ad m c news hl (hnews ad rfl) h1 h63 hbytes hbase
    unfold Oper.wp execOp
    simp only [ho, resolve, invoke, builtin, Sem.run_bind, Sem.run_pure, Result.andThen_ok, List.map_toArray, List.map_cons, List.map_nil, hs, hx, hr]
    exact h v' w' h2 h3

theorem owns_keep {w w' : World} {base : Nat} {e : TypeId} {size : Nat} {v : Value} {n : Nat} {xs : List Value} (h : w.ownsRow base e size v n xs) (hk : ∀ b, v.ownBlock = some b → b < w.heap.size → w'.heap[b]? = w.heap[b]?) : w'.ownsRow base e size v n xs := by
  obtain ⟨hl, h | ⟨g, cap, cur, rfl, hb, hg, hc, hm, hs, ht⟩⟩ := h
  · exact ⟨hl, .inl h⟩
  · refine ⟨hl, .inr ⟨g, cap, cur, rfl, hb, ?_, hc, hm, hs, ht⟩⟩
    rw [hk g (by simp [Value.ownBlock]) ?_]
    · exact hg
    · rcases Nat.lt_or_ge g w.heap.size with l | l
      · exact l
      · rw [Array.getElem?_eq_none l] at hg
        cases hg

/-- What a row of one's own tells to one that appends it. -/
theorem own_news {w : World} {B : Nat} {ao : Option Addr} {n cp : Nat} {xs : List Value} {e : TypeId} (h : w.ownsRow B e 1 (.slice ao n cp) n xs) : (ao = none → n = 0 ∧ cp = 0) ∧ xs.length = n * 1 ∧ ∀ ad, ao = some ad → ∀ j u, xs[j]? = some u → w.cell? (ad.add j) = some u := by
  refine ⟨fun e0 => ?_, h.1, fun ad e0 j u hj => ?_⟩
  · obtain ⟨hl, ⟨e1, e2⟩ | ⟨g, cap, cur, e1, _⟩⟩ := h
    · cases e1; exact ⟨rfl, rfl⟩
    · rw [e0] at e1; cases e1
  · have hjl := (List.getElem?_eq_some_iff.1 hj).1
    have hl := h.1
    obtain ⟨g, cap, F, e1, hb, R, hp, hc, _⟩ := row_of_owns h (by omega)
    rw [e0] at e1
    cases e1
    rw [Go.WideShapes.add_plain, Nat.zero_add, R.cell (i := j) (by omega)]
    exact congrArg some (hp j u hj)
end PKept
end Go.Proofs.Ytchhkoalibapiaa

/-
  BeltOrder: the law's look at a run's end: who has given at which turn, what was fetched, what stands on the belt.
-/
namespace Go.Proofs.Ytchhkoalibapiaa
open Go.RowKit PKept
set_option linter.unusedVariables false
set_option linter.unusedSimpArgs false
set_option linter.unnecessarySimpa false
set_option maxRecDepth 20000
namespace Belt

theorem infoB : (Try.prog.info? 4).map (fun i => (i.zero.map Value.cells, i.size, i.bytes)) = some (some #[.bool false], 1, 1) := by kernel_rfl
theorem infoU : (Try.prog.info? 55).map (fun i => (i.zero.map Value.cells, i.size, i.bytes)) = some (some #[.int .u64 0], 1, 8) := by kernel_rfl
theorem run_make_u {P : Program} (t e : TypeId) (zc : Array Value) (size bytes : Nat) (ht : P.underlying t = some (.slice e)) (hinfo : (P.info? e).map (fun i => (i.zero.map Value.cells, i.size, i.bytes)) = some (some zc, size, bytes))
    (n : Nat) (hbytes : bytes * n ≤ 281474976710656) (h63 : n ≤ 9223372036854775807) (w : World) :
    (Instr.makeSlice t (.int .u64 (n : Int)) (.int .u64 (n : Int))).run P w = .ok (.slice (some ⟨w.heap.size, 0, none⟩) n n) (w.alloc (.cells (madeCells zc (n * size)) e)) := by
  obtain ⟨i, hi, hzz⟩ := Option.map_eq_some_iff.1 hinfo
  simp only [Prod.mk.injEq] at hzz
  obtain ⟨hz, hs, hb⟩ := hzz
  obtain ⟨z, hz, hzc⟩ := Option.map_eq_some_iff.1 hz
  have hbi : (i.bytes : Int) * (n : Int) ≤ 281474976710656 := by
    rw [hb]
    have h : ((bytes * n : Nat) : Int) ≤ 281474976710656 := by omega
    rwa [Int.natCast_mul] at h
  have hr := run_make (P := P) w t e i z ht hi hz .u64 .u64 n n (by omega) (Int.le_refl _) hbi (by omega)
  simpa [hs, hzc] using hr

theorem at_rows {w : World} {aoh aa : Option Addr} {P : Par} {done : Nat → Nat} {ans : Nat → Nat → Ans} (SH : SeesH w w.heap.size aoh P.nh P.jn P.jb) (SA : SeesA w w.heap.size aa P.nh done ans) (hd : ∀ h, h < P.nh → done h = P.jn h) {i : Nat} (hi : i < P.nh) :
    ∃ bh oh av cv ba oa bv ca, aoh = some ⟨bh, oh, none⟩ ∧ aa = some ⟨ba, oa, none⟩ ∧ ∀ wr, Below w.heap.size w wr → wr.cell? ⟨bh, oh + i, none⟩ = some (.slice av (P.jn i) cv) ∧ wr.cell? ⟨ba, oa + i, none⟩ = some (.slice bv (P.jn i) ca) ∧ bh < wr.heap.size ∧ ba < wr.heap.size ∧
      ∀ n, n < P.jn i → ∃ bj oj bx ox, av = some ⟨bj, oj, none⟩ ∧ bv = some ⟨bx, ox, none⟩ ∧ bj < wr.heap.size ∧ bx < wr.heap.size ∧ bx < w.heap.size ∧ ba < w.heap.size ∧ (∀ q, q < 5 → wr.cell? ⟨bj, oj + n * 5 + q, none⟩ = some ((P.jb i n).cell q)) ∧ wr.cell? ⟨bx, ox + n * 2, none⟩ = some (.bool (ans i n).ok) ∧ wr.cell? ⟨bx, ox + n * 2 + 1, none⟩ = some (.int .u64 (ans i n).val) := by
  obtain ⟨bh, oh, av, cv, e1, l1, c1, j1⟩ := SH i hi
  obtain ⟨ba, oa, bv, ca, e2, l2, c2, j2⟩ := SA i hi
  rw [hd i hi] at c2 j2
  refine ⟨bh, oh, av, cv, ba, oa, bv, ca, e1, e2, fun wr hb => ⟨(hb.cell (p := ⟨bh, oh + i, none⟩) l1).trans c1, (hb.cell (p := ⟨ba, oa + i, none⟩) l2).trans c2, Nat.lt_of_lt_of_le l1 hb.size, Nat.lt_of_lt_of_le l2 hb.size, fun n hn => ?_⟩⟩
  obtain ⟨bj, oj, e3, l3, c3⟩ := j1 n hn
  obtain ⟨bx, ox, e4, l4, c4⟩ := j2 n hn
  exact ⟨bj, oj, bx, ox, e3, e4, Nat.lt_of_lt_of_le l3 hb.size, Nat.lt_of_lt_of_le l4 hb.size, l4, l2, fun q hq => (hb.cell (p := ⟨bj, oj + n * 5 + q, none⟩) l3).trans (c3 q hq), (hb.cell (p := ⟨bx, ox + n * 2, none⟩) l4).trans (c4 0 (by omega)), (hb.cell (p := ⟨bx, ox + n * 2 + 1, none⟩) l4).trans (c4 1 (by omega))⟩

theorem meas_b {k n : Nat} (h : k < n) : n - (intOf (.int .i64 ((k : Int) + 1))).toNat < n - (intOf (.int .i64 (k : Int))).toNat := by
  show n - ((k : Int) + 1).toNat < n - (k : Int).toNat
  omega
theorem meas_u {k n : Nat} (h : k < n) : n - (intOf (.int .u64 ((k : Int) + 1))).toNat < n - (intOf (.int .u64 (k : Int))).toNat := by
  show n - ((k : Int) + 1).toNat < n - (k : Int).toNat
  omega
theorem vi_b {i : Nat} : Value.int .i64 ((i : Int) + 1) = .int .i64 ((i + 1 : Nat) : Int) := by simp
theorem vi_u {i : Nat} : Value.int .u64 ((i : Int) + 1) = .int .u64 ((i + 1 : Nat) : Int) := by simp

/-- A list that is seen: whatever slice. -/
structure LV (w : World) (lo : Option Addr) (l : List Int) (cp : Nat) : Prop where
  nil : lo = none → l.length = 0 ∧ cp = 0
  cap : l.length ≤ cp
  see : ∀ k v, l[k]? = some v → ∃ b off, lo = some ⟨b, off, none⟩ ∧ b < w.heap.size ∧ w.cell? ⟨b, off + k, none⟩ = some (.int .u64 v)
theorem LV.below {w w' : World} {lo : Option Addr} {l : List Int} {cp : Nat} (h : LV w lo l cp) (hb : Below w.heap.size w w') : LV w' lo l cp :=
  ⟨h.nil, h.cap, fun k v hk => by obtain ⟨b, off, e, hl, hc⟩ := h.see k v hk; exact ⟨b, off, e, Nat.lt_of_lt_of_le hl hb.size, (hb.cell (p := ⟨b, off + k, none⟩) hl).trans hc⟩⟩
theorem LV.nilS (w : World) : LV w none [] 0 := ⟨fun _ => ⟨rfl, rfl⟩, Nat.le_refl _, fun k v hk => by simp at hk⟩
theorem LV.own {w : World} {B : Nat} {v : Value} {l : List Int} (h : w.ownsRow B 55 1 v l.length (wc l)) : ∃ lo cp, v = .slice lo l.length cp ∧ LV w lo l cp := by
  rcases Nat.eq_zero_or_pos l.length with e | e
  · have e' : l = [] := List.length_eq_zero_iff.1 e
    subst e'
    obtain ⟨_, ⟨rfl, _⟩ | ⟨g, cap, cur, rfl, _⟩⟩ := h
    · exact ⟨none, 0, rfl, LV.nilS w⟩
    · exact ⟨_, cap, rfl, fun h => (by cases h), Nat.zero_le _, fun k v hk => by simp at hk⟩
  · obtain ⟨g, cap, F, rfl, hb, R, hp, hc, _⟩ := row_of_owns h e
    refine ⟨_, cap, rfl, fun h => (by cases h), hc, fun k v hk => ⟨g, 0, rfl, R.lt, ?_⟩⟩
    have hkl := (List.getElem?_eq_some_iff.1 hk).1
    rw [Nat.zero_add, R.cell (i := k) (by omega)]
    exact congrArg some (hp k _ (wc_get hk))

/-- The law's three lists, up to job n of hand i. -/
structure Ld (P : Par) (ans : Nat → Nat → Ans) (ow : Nat → Nat × Nat) (T G : Nat) (i n : Nat) (v9 : Value) (wr : World) : Prop where
  own : wr.ownsRow (G + 2) 55 1 v9 (fv P ans i n).length (wc (fv P ans i n))
  giv : wr.rowIs G 55 T (fun p => .int .u64 (gs P ow i n p))
  see : wr.rowIs (G + 1) 4 T (fun p => .bool (decide (bf ow i n p)))
section
variable {r : Nat} {P : Par} {f : Nat → Int} {ans : Nat → Nat → Ans} {ow fw : Nat → Nat × Nat} {T H G i n h : Nat} {v : Value} {w w' : World}
theorem Ld.alloc (L : Ld P ans ow T G i n v w) (o : Obj) : Ld P ans ow T G i n v (w.alloc o) := ⟨L.own.alloc _, L.giv.alloc _, L.see.alloc _⟩
theorem Ld.heap (L : Ld P ans ow T G i n v w) (e : w'.heap = w.heap) : Ld P ans ow T G i n v w' :=
  ⟨owns_keep L.own (fun b _ _ => by rw [e]), L.giv.of_block (by rw [e]), L.see.of_block (by rw [e])⟩
theorem below_set {D b h : Nat} {w6 w : World} {v : Value} (hD : Below D w6 w) (hs : D ≤ w.heap.size) (hb : D ≤ b) : Below D w6 (w.setCell ⟨b, h, none⟩ v) := by
  have T := Touch.setCell (S := fun k => k = b) (Touch.refl w _) ⟨b, h, none⟩ (.inl rfl) v
  exact ⟨T.os.trans hD.os, T.tape.trans hD.tape, T.output.trans hD.output, Nat.le_trans hD.size T.size, fun q hq => (T.block q (Nat.lt_of_lt_of_le hq hs) (by show ¬ q = b; omega)).trans (hD.block q hq)⟩
theorem below_drew {D : Nat} {a b : World} (h : Below D a b) : Below D a b.drew := ⟨h.os, h.tape, h.output, h.size, h.block⟩
theorem below_dn {B : Nat} {a b : World} (h : Below B a b) (k : Nat) : Below B a (b.drewN k) := ⟨h.os, h.tape, h.output, h.size, h.block⟩
theorem Ld.skip (L : Ld P ans ow T G i n v w) (hn : ∀ p, p < T → ow p ≠ (i, n)) (hk : ¬ ((P.jb i n).kind = 2 ∧ (ans i n).ok = true)) : Ld P ans ow T G i (n + 1) v w :=
  ⟨by rw [fv_no hk]; exact L.own, World.rowIs.congr L.giv (fun p hp => by rw [gs_no hn hp]), World.rowIs.congr L.see (fun p hp => by rw [decide_eq_decide.2 (bf_no hn hp)])⟩
theorem Ld.hand (F : Fa r P f ans ow fw T H) (L : Ld P ans ow T G i (P.jn i) v w) : Ld P ans ow T G (i + 1) 0 v w :=
  ⟨by rw [← fv_hand]; exact L.own, World.rowIs.congr L.giv (fun p hp => by rw [gs_hand F hp]), World.rowIs.congr L.see (fun p hp => by rw [decide_eq_decide.2 (bf_hand F hp)])⟩
theorem Ld.fetch {v' : Value} (L : Ld P ans ow T G i n v w) (hn : ∀ p, p < T → ow p ≠ (i, n)) {x : Int} (hk : (P.jb i n).kind = 2) (ha : ans i n = ⟨true, x⟩) (hown : w'.ownsRow (G + 2) 55 1 v' ((fv P ans i n).length + 1) (wc (fv P ans i n) ++ [.int .u64 x])) (hg : w.grownBy w' v.ownBlock) : Ld P ans ow T G i (n + 1) v' w' := by
  have e : fv P ans i (n + 1) = fv P ans i n ++ [x] := by rw [fv_yes ⟨hk, by rw [ha]⟩, ha]
  have ob : ∀ b, v.ownBlock = some b → G + 2 ≤ b := fun b hb => (L.own.lt b hb).1
  refine ⟨by rw [e, wc_more, List.length_append]; exact hown, World.rowIs.congr (L.giv.of_block (hg.block G L.giv.lt ?_)) (fun p hp => by rw [gs_no hn hp]), World.rowIs.congr (L.see.of_block (hg.block (G + 1) L.see.lt ?_)) (fun p hp => by rw [decide_eq_decide.2 (bf_no hn hp)])⟩
  · intro e'; have := ob G e'.symm; omega
  · intro e'; have := ob (G + 1) e'.symm; omega
theorem Ld.give (F : Fa r P f ans ow fw T H) (L : Ld P ans ow T G i n v w) {q : Nat} (hq : q < T) (e : ow q = (i, n)) (hk : (P.jb i n).kind = 1) : Ld P ans ow T G i (n + 1) v ((w.setCell ⟨G + 1, q, none⟩ (.bool true)).setCell ⟨G, q, none⟩ (.int .u64 (P.jb i n).h)) := by
  have ob : ∀ b, v.ownBlock = some b → G + 2 ≤ b := fun b hb => (L.own.lt b hb).1
  refine ⟨?_, ?_, ?_⟩
  · rw [fv_no (fun t => by omega)]
    refine owns_keep L.own fun b hb hl => ?_
    have := ob b hb
    have T1 := Touch.setCell (S := fun k => k = G ∨ k = G + 1) (Touch.refl w _) ⟨G + 1, q, none⟩ (.inl (.inr rfl)) (.bool true)
    have T2 := Touch.setCell (S := fun k => k = G ∨ k = G + 1) T1 ⟨G, q, none⟩ (.inl (.inl rfl)) (.int .u64 (P.jb i n).h)
    exact T2.block b hl (by show ¬ (b = G ∨ b = G + 1); omega)
  · refine World.rowIs.congr ((L.giv.setOther (by show G ≠ G + 1; omega) _).set q _) (fun p hp => ?_)
    rw [gs_self F hq e hp]
    by_cases t : p = q
    · simp [t]
    · simp [t]
  · refine World.rowIs.congr ((L.see.set q _).setOther (by show G + 1 ≠ G; omega) _) (fun p hp => ?_)
    have b := bf_self F hq e hp
    by_cases t : p = q
    · rw [decide_eq_true (b.2 (.inr t))]; simp [t]
    · have b' : bf ow i (n + 1) p ↔ bf ow i n p := ⟨fun z => (b.1 z).elim id (fun z => absurd z t), fun z => b.2 (.inl z)⟩
      simp [t, b']
end
end Belt
end Go.Proofs.Ytchhkoalibapiaa
