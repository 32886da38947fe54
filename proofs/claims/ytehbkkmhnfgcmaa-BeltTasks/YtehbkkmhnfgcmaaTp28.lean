/-
  Lemmas: BeltP, BeltL, BeltRS.
-/
import Derived.Test.YtehbkkmhnfgcmaaTp27
import Derived.Test.YtehbkkmhnfgcmaaTp18
import Derived.Test.YtehbkkmhnfgcmaaTp19
import Derived.Test.YtehbkkmhnfgcmaaTp22
/-
  The belt's Size and Play, whatever they are given.
-/
namespace Go.Proofs.Ytehbkkmhnfgcmaa
open Go.RowKit
set_option linter.unusedVariables false
set_option linter.unusedSimpArgs false
set_option maxRecDepth 20000
namespace Belt

theorem callSize (args : Array Value) (w : World) : (callFunc 20 args).run Try.prog w = .ok (.enter 20 args) w := by simp [go_sem]

theorem size_ok (w : World) (sh : Shp) (h1 : 1 ≤ sh.f) (h2 : sh.f ≤ 64) : Calls Try.prog 20 #[sh.val] w fun e w' => e = .returned (.tuple #[.int .i64 (2 + 2 * sh.f), .int .i64 0]) ∧ w.grownBy w' none := by
  obtain ⟨s0, s1, s2, s3, s4, s5⟩ := sh
  simp only [Shp.val] at h1 h2 ⊢
  have g3 : wrap64 (2 * s5) = 2 * s5 := by unfold wrap64; omega
  have g4 : wrap64 (2 + 2 * s5) = 2 + 2 * s5 := by unfold wrap64; omega
  go_enter Try.func20, Try.ntmps20
  go_wp2_with (go_at_call 41; refine (room_ok _ ⟨s0, s1, s2, s3, s4, s5⟩ h1 h2).mono ?_; rintro e w1 ⟨rfl, hg1⟩; have HG := hide hg1; have sh5 : w1.cell? ⟨w.heap.size, 5, none⟩ = some (.int .i64 s5) := hg1.cell (a := ⟨w.heap.size, 5, none⟩) (by simp) (by simp); clear hg1)
  go_ret2
  exact ⟨rfl, grown_trans (grown_alloc (grown_refl _ _) _) HG.out⟩
theorem size_bad (w : World) (sh : Shp) (h : sh.f < 1 ∨ 64 < sh.f) : Calls Try.prog 20 #[sh.val] w fun e w' => e = .returned (.tuple #[.int .i64 0, .int .i64 120]) ∧ w.grownBy w' none := by
  obtain ⟨s0, s1, s2, s3, s4, s5⟩ := sh
  simp only [Shp.val] at h ⊢
  go_enter Try.func20, Try.ntmps20
  go_wp2_with (go_at_call 41; refine (room_bad _ ⟨s0, s1, s2, s3, s4, s5⟩ h).mono ?_; rintro e w1 ⟨rfl, hg1⟩; have HG := hide hg1; clear hg1)
  go_ret2
  exact ⟨rfl, grown_trans (grown_alloc (grown_refl _ _) _) HG.out⟩

variable {w : World} {ao aoh aos : Option Addr} {cap caph caps : Nat} {P : Par} {f : Nat → Int} {most : Int} {sh : Shp}

theorem play_any {R : Ending → World → Prop} {Q : Ending → World → Prop}
    (h : Calls Try.prog 39 #[.func (.func 20) #[] #[], .func (.func 24) #[] #[], sh.val, .slice ao P.n cap, .slice aoh P.nh caph, .slice aos P.ns caps, .int .i64 most]
      ((w.alloc (.cells #[.int .i64 sh.a, .int .i64 sh.b, .int .i64 sh.c, .int .i64 sh.d, .int .i64 sh.e, .int .i64 sh.f] 23)).alloc (.cells #[.slice none 0 0, .slice none 0 0, .bool false] 32)) Q)
    (hs : ∀ e w', Q e w' → Below (w.heap.size + 2) ((w.alloc (.cells #[.int .i64 sh.a, .int .i64 sh.b, .int .i64 sh.c, .int .i64 sh.d, .int .i64 sh.e, .int .i64 sh.f] 23)).alloc (.cells #[.slice none 0 0, .slice none 0 0, .bool false] 32)) w' ∧
      ∃ sa k sc wa n wc en aa m ac er, e = .returned (tv3 sa k sc wa n wc en aa m ac er) ∧ R e (((w'.setCell ⟨w.heap.size + 1, 0, none⟩ (.slice sa k sc)).setCell ⟨w.heap.size + 1, 1, none⟩ (.slice wa n wc)).setCell ⟨w.heap.size + 1, 2, none⟩ (.bool en))) :
    Calls Try.prog 14 #[sh.val, .slice ao P.n cap, .slice aoh P.nh caph, .slice aos P.ns caps, .int .i64 most] w R := by
  obtain ⟨s0, s1, s2, s3, s4, s5⟩ := sh
  simp only [Shp.val] at h hs ⊢
  have HH := hide h
  have HS := hide hs
  clear h hs
  go_enter Try.func14, Try.ntmps14
  go_wp2_with fail
  refine HH.out.mono ?_
  intro e w3 hq
  obtain ⟨hb, sa, k, sc, wa, n, wc, en, aa, m, ac, er, rfl, hR⟩ := HS.out e w3 hq
  have u0 := hb.cell (p := ⟨w.heap.size + 1, 0, none⟩) (by simp)
  have u1 := hb.cell (p := ⟨w.heap.size + 1, 1, none⟩) (by simp)
  have u2 := hb.cell (p := ⟨w.heap.size + 1, 2, none⟩) (by simp)
  have v0 := hb.frozen (p := ⟨w.heap.size + 1, 0, none⟩) (by simp)
  have v1 := hb.frozen (p := ⟨w.heap.size + 1, 1, none⟩) (by simp)
  have v2 := hb.frozen (p := ⟨w.heap.size + 1, 2, none⟩) (by simp)
  simp at u0 u1 u2 v0 v1 v2
  have HR := hide hR
  clear hb hR hq
  unfold tv3
  go_wp2_with fail
  go_light
  refine bodyPost_ret (v := tv3 sa k sc wa n wc en aa m ac er) ?_ rfl HR.out
  simp [results, Try.results14, go_sem, tv3, *]

theorem play_shape (h : sh.f < 1 ∨ 64 < sh.f) : Calls Try.prog 14 #[sh.val, .slice ao P.n cap, .slice aoh P.nh caph, .slice aos P.ns caps, .int .i64 most] w fun e w' => e = .returned (errVal 120) ∧ Below w.heap.size w w' := by
  have b0 : Below w.heap.size w ((w.alloc (.cells #[.int .i64 sh.a, .int .i64 sh.b, .int .i64 sh.c, .int .i64 sh.d, .int .i64 sh.e, .int .i64 sh.f] 23)).alloc (.cells #[.slice none 0 0, .slice none 0 0, .bool false] 32)) := ((Below.refl _ w).alloc (Nat.le_refl _) _).alloc (by simp) _
  refine play_any (lay_size_err (by decide) callSize (fun w' => size_bad w' sh h)) ?_
  rintro e w' ⟨rfl, hb⟩
  simp only [World.size_alloc] at hb
  refine ⟨hb, none, 0, 0, none, 0, 0, false, none, 0, 0, 120, rfl, rfl, ?_⟩
  exact (((b0.trans (hb.mono (by omega))).setCell (by simp) _).setCell (by simp) _).setCell (by simp) _

theorem play_all {want : Nat} (h1 : 1 ≤ sh.f) (h2 : sh.f ≤ 64) (hwant : (want : Int) = 2 + 2 * sh.f) (S : Sees w w.heap.size ao P.n f) (hf : ∀ i, i < P.n → 0 ≤ f i ∧ f i ≤ 18446744073709551615) (SH : SeesH w w.heap.size aoh P.nh P.jn P.jb) (hn63 : P.nh ≤ 9223372036854775807) (SI : SeesI w w.heap.size aos P.ns P.sched) (hjw : ∀ h, h < P.nh → ∀ j, j < P.jn h → (P.jb h j).wf) :
    Calls Try.prog 14 #[sh.val, .slice ao P.n cap, .slice aoh P.nh caph, .slice aos P.ns caps, .int .i64 most] w (LAll (kBelt sh.f) want w P f most) := by
  have b0 : Below w.heap.size w ((w.alloc (.cells #[.int .i64 sh.a, .int .i64 sh.b, .int .i64 sh.c, .int .i64 sh.d, .int .i64 sh.e, .int .i64 sh.f] 23)).alloc (.cells #[.slice none 0 0, .slice none 0 0, .bool false] 32)) := ((Below.refl _ w).alloc (Nat.le_refl _) _).alloc (by simp) _
  have sz0 : ((w.alloc (.cells #[.int .i64 sh.a, .int .i64 sh.b, .int .i64 sh.c, .int .i64 sh.d, .int .i64 sh.e, .int .i64 sh.f] 23)).alloc (.cells #[.slice none 0 0, .slice none 0 0, .bool false] 32)).heap.size = w.heap.size + 2 := by simp
  refine play_any (lay_any (K := kBelt sh.f) (want := want) callSize (fun w' => by rw [hwant]; exact size_ok w' sh h1 h2) (isKind sh.f h1 h2) (fun w' tb sb H => makes h1 h2 H) ((S.below b0 (Nat.le_refl _)).mono (by omega)) hf ((SH.below b0 (Nat.le_refl _)).up (by omega)) hn63 ((SI.below b0 (Nat.le_refl _)).up (by omega)) hjw) ?_
  intro e w' hq
  obtain ⟨sa, k, sc, wa, n, wc, en, aa, m, ac, er, rfl⟩ := hq.shape
  have hb := hq.1
  rw [sz0] at hb
  exact ⟨hb, sa, k, sc, wa, n, wc, en, aa, m, ac, er, rfl, hq.up b0 (touch3 w' (w.heap.size + 1) (.slice sa k sc) (.slice wa n wc) (.bool en)) (by omega) (by omega)⟩

end Belt
end Go.Proofs.Ytehbkkmhnfgcmaa

/-
  The belt's Fresh, and the statements' own example through the belt.
-/
namespace Go.Proofs.Ytehbkkmhnfgcmaa
open Go.RowKit
set_option linter.unusedVariables false
set_option linter.unusedSimpArgs false
set_option maxRecDepth 20000
namespace Belt

/-- Fresh words with the marks of the places below k. -/
def bfr (k : Nat) (i : Nat) : Int := if 2 ≤ i ∧ i < 2 + k then 2 * ((i : Int) - 2) else 0
theorem bfr_bounds {k : Nat} (hk : k ≤ 64) (i : Nat) : 0 ≤ bfr k i ∧ bfr k i ≤ 18446744073709551615 := by
  unfold bfr
  split
  all_goals omega
theorem bfr_zero (i : Nat) : bfr 0 i = 0 := by
  unfold bfr
  rw [if_neg (by omega)]
theorem bfr_next (k : Nat) (i : Nat) : bfr (k + 1) i = putF (bfr k) (2 + k) (2 * (k : Int)) i := by
  unfold putF
  by_cases h : i = 2 + k
  · subst h
    rw [if_pos rfl]
    unfold bfr
    rw [if_pos (by omega)]
    omega
  · rw [if_neg h]
    unfold bfr
    repeat' split
    all_goals omega

theorem free_any (p : Int) (h0 : 0 ≤ p) (h1 : p ≤ 18446744073709551615) (w : World) : Calls Try.prog 42 #[.int .u64 p] w fun e w' => e = .returned (.int .u64 (fre p)) ∧ w' = w := free_call p w

set_option maxHeartbeats 4000000 in
theorem fresh_ok (w : World) (sh : Shp) (h1 : 1 ≤ sh.f) (h2 : sh.f ≤ 64) {want r : Nat} (hr : (r : Int) = sh.f) (hwant : want = 2 + 2 * r) : Calls Try.prog 22 #[sh.val] w fun e w' => ∃ g, e = .returned (.tuple #[.slice (some ⟨g, 0, none⟩) want want, .int .i64 0]) ∧ IsRow w' g want want (bfr r) ∧ w.heap.size ≤ g ∧ w.grownBy w' none := by
  have SZ := hide (fun w' : World => size_ok w' sh h1 h2)
  obtain ⟨s0, s1, s2, s3, s4, s5⟩ := sh
  simp only [Shp.val] at SZ h1 h2 hr ⊢
  subst hr
  have ew : (2 + 2 * (r : Int)) = (want : Int) := by omega
  rw [ew] at SZ
  have hmk := run_make_z (P := Try.prog) 24 47 _ 1 8 Try.underlying24 info46 want (by omega) (by omega)
  simp only [Nat.mul_one] at hmk
  have hw4 : want ≤ 130 := by omega
  have hw2 : 4 ≤ want := by omega
  have r1 : 1 ≤ r := by omega
  have r64 : r ≤ 64 := by omega
  have HWT := hide hwant
  clear hwant ew
  go_enter Try.func22, Try.ntmps22
  go_wp2_with (go_at_call 20; refine (SZ.out _).mono ?_; rintro e w1 ⟨rfl, hg1⟩; have HG := hide hg1; have sz1 := hg1.size; simp only [World.size_alloc] at sz1; have sh5 : w1.cell? ⟨w.heap.size, 5, none⟩ = some (.int .i64 r) := hg1.cell (a := ⟨w.heap.size, 5, none⟩) (by simp) (by simp); have lt1 : w.heap.size < w1.heap.size := (by omega); have ne1 : ¬ w.heap.size = w1.heap.size := (by omega); clear hg1)
  obtain ⟨W2, hW2⟩ : ∃ W2, w1.alloc (.cells (madeCells #[.int .u64 0] want) 47) = W2 := ⟨_, rfl⟩
  have R2 : IsRow W2 w1.heap.size want want (fun _ => 0) := by
    rw [← hW2]
    exact ⟨Nat.le_refl _, by unfold maxLen; omega, ⟨_, World.rowIs_made w1 (.int .u64 0) want 47, fun i hi => rfl⟩, fun i hi => ⟨Int.le_refl 0, by show (0 : Int) ≤ 18446744073709551615; decide⟩⟩
  have G2 := hide (show w.grownBy W2 none from by rw [← hW2]; exact grown_alloc (grown_trans (grown_alloc (grown_refl _ _) _) HG.out) _)
  have C2 : W2.cell? ⟨w.heap.size, 5, none⟩ = some (.int .i64 r) := by rw [← hW2]; exact ((((Below.refl w1.heap.size w1).alloc (Nat.le_refl _) _).cell (p := ⟨w.heap.size, 5, none⟩) (show w.heap.size < w1.heap.size by omega))).trans sh5
  have HR2 := hide R2
  simp only [hW2]
  clear hW2 R2 sh5
  go_wp2_with fail
  go_loopw [20] (fun i wr => ∃ k : Nat, k ≤ r ∧ i = .int .i64 k ∧ IsRow wr w1.heap.size want want (bfr k) ∧ W2.grownBy wr (some w1.heap.size)) (fun i _ => r - (intOf i).toNat)
  case atStart => exact ⟨0, Nat.zero_le _, rfl, HR2.out.congr (fun i _ => (bfr_zero i).symm), grown_refl _ _⟩
  case round =>
    obtain ⟨k, hk, rfl, hrw, hgr⟩ := hrel
    by_cases hlt : k < r
    · have hlt' : (k : Int) < r := by omega
      have e4 : IntKind.u64.wrap (k : Int) = (k : Int) := by rw [IntKind.wrap_u64]; omega
      have HL := hide (fun w' : World => free_any (k : Int) (by omega) (by omega) w')
      have e2 : fre (k : Int) = 2 * (k : Int) := by unfold fre u64; omega
      rw [e2] at HL
      have e3 : wrap64 (2 + (k : Int)) = ((2 + k : Nat) : Int) := by unfold wrap64; omega
      have e5 : wrap64 ((k : Int) + 1) = (k : Int) + 1 := by unfold wrap64; omega
      have cc' := hrw.cell (show 2 + k < want by have := HWT.out; omega)
      have cf' := hrw.frozen (2 + k)
      have hib : ((2 + k : Nat) : Int) < want := by have := HWT.out; omega
      have hib2 : 2 + k < want := by have := HWT.out; omega
      obtain ⟨kk, hkk⟩ : ∃ kk, 2 + k = kk := ⟨_, rfl⟩
      rw [hkk] at e3 cc' cf' hib hib2
      have HRW := hide hrw
      have HGR := hide hgr
      clear hrw hgr e2
      go_wp2_with (go_at_call 42; refine (HL.out _).mono ?_; rintro e w' ⟨rfl, rfl⟩)
      go_roundw
      case rel =>
        refine ⟨k + 1, by omega, by go_num, (HRW.out.set kk (2 * (k : Int)) ⟨by omega, by omega⟩).congr (fun i _ => ?_), grown_setCell HGR.out _ (.inl rfl) _⟩
        rw [← hkk]
        exact (bfr_next k i).symm
      case measure => simp [intOf]; omega
    · have hlt' : ¬ (k : Int) < r := by omega
      obtain rfl : k = r := by omega
      have HRW := hide hrw
      have HGR := hide hgr
      clear hrw hgr
      go_wp2_with fail
      go_ret2
      refine ⟨w1.heap.size, rfl, HRW.out, by omega, ?_⟩
      have t := (Touch.of_grown G2.out).trans' (Touch.of_grown HGR.out) (S' := fun q => some q = some w1.heap.size) (fun q hq h => by simp at h; omega)
      exact ⟨t.os, t.tape, t.output, t.size, fun q hq hn => t.block q hq (by simp)⟩
set_option maxHeartbeats 2000000 in
theorem fresh_bad (w : World) (sh : Shp) (h : sh.f < 1 ∨ 64 < sh.f) : Calls Try.prog 22 #[sh.val] w fun e w' => e = .returned (.tuple #[.slice none 0 0, .int .i64 120]) ∧ w.grownBy w' none := by
  have SZ := hide (fun w' : World => size_bad w' sh h)
  obtain ⟨s0, s1, s2, s3, s4, s5⟩ := sh
  simp only [Shp.val] at SZ h ⊢
  go_enter Try.func22, Try.ntmps22
  go_wp2_with (go_at_call 20; refine (SZ.out _).mono ?_; rintro e w1 ⟨rfl, hg1⟩; have HG := hide hg1; clear hg1)
  go_ret2
  exact ⟨rfl, grown_trans (grown_alloc (grown_refl _ _) _) HG.out⟩

namespace Exam
def P0 : Par := { n := 4, nh := 1, jn := fun _ => 2, jb := fun _ j => if j = 0 then ⟨1, 0, 0, 0, 7⟩ else ⟨2, 0, 0, 0, 0⟩, ns := 0, sched := fun _ => 0 }
def s10 : St (kBelt 1) := runSt P0 (st0 (kBelt 1) P0 (bfr 1)) 99
theorem k10 : s10.k = 10 := by decide +kernel
theorem e10 : Go.Proofs.Ytehbkkmhnfgcmaa.cnt (s10.going P0) P0.nh = 0 := by decide +kernel
theorem d10 : s10.done 0 = 2 := by decide +kernel
theorem a1 : (s10.ans 0 1).val = 7 ∧ (s10.ans 0 1).ok = true := by decide +kernel
end Exam

theorem exam_play (v : World) (g : Nat) (R : IsRow v g 4 4 (bfr 1)) (hgl : g < v.heap.size) : Calls Try.prog 14 #[(⟨0, 0, 0, 0, 0, 1⟩ : Shp).val, .slice (some ⟨g, 0, none⟩) 4 4, .slice (some ⟨v.heap.size + 1, 0, none⟩) 1 1, .slice none 0 0, .int .i64 99]
    ((v.alloc (.cells #[.int .i64 1, .int .i64 0, .int .i64 0, .int .i64 0, .int .u64 7, .int .i64 2, .int .i64 0, .int .i64 0, .int .i64 0, .int .u64 0] 49)).alloc (.cells #[.slice (some ⟨v.heap.size, 0, none⟩) 2 2] 80)) (LAll (kBelt 1) 4 ((v.alloc (.cells #[.int .i64 1, .int .i64 0, .int .i64 0, .int .i64 0, .int .u64 7, .int .i64 2, .int .i64 0, .int .i64 0, .int .i64 0, .int .u64 0] 49)).alloc (.cells #[.slice (some ⟨v.heap.size, 0, none⟩) 2 2] 80)) Exam.P0 (bfr 1) 99) := by
  have B0 : Below v.heap.size v ((v.alloc (.cells #[.int .i64 1, .int .i64 0, .int .i64 0, .int .i64 0, .int .u64 7, .int .i64 2, .int .i64 0, .int .i64 0, .int .i64 0, .int .u64 0] 49)).alloc (.cells #[.slice (some ⟨v.heap.size, 0, none⟩) 2 2] 80)) := ((Below.refl _ v).alloc (Nat.le_refl _) _).alloc (by simp) _
  have R1 := (row_arr v #[.int .i64 1, .int .i64 0, .int .i64 0, .int .i64 0, .int .u64 7, .int .i64 2, .int .i64 0, .int .i64 0, .int .i64 0, .int .u64 0] 49).alloc (.cells #[.slice (some ⟨v.heap.size, 0, none⟩) 2 2] 80)
  have R3 := row_arr (v.alloc (.cells #[.int .i64 1, .int .i64 0, .int .i64 0, .int .i64 0, .int .u64 7, .int .i64 2, .int .i64 0, .int .i64 0, .int .i64 0, .int .u64 0] 49)) #[.slice (some ⟨v.heap.size, 0, none⟩) 2 2] 80
  simp only [World.size_alloc] at R1 R3
  refine play_all (sh := ⟨0, 0, 0, 0, 0, 1⟩) (P := Exam.P0) (f := bfr 1) (most := 99) (want := 4) (by decide) (by decide) (by decide) ?_ (fun i _ => bfr_bounds (by decide) i) ?_ (by decide) ?_ (fun h _ j _ => ?_)
  · exact (R.sees.below B0 (Nat.le_refl _)).mono (by simp; omega)
  · intro h hh
    have : h < 1 := hh
    match h, this with
    | 0, _ =>
      refine ⟨v.heap.size + 1, 0, some ⟨v.heap.size, 0, none⟩, 2, rfl, R3.lt, R3.cell (i := 0) (by simp), ?_⟩
      intro i hi
      refine ⟨v.heap.size, 0, rfl, R1.lt, fun q hq => ?_⟩
      have : i < 2 := hi
      match i, this, q, hq with
      | 0, _, 0, _ => exact R1.cell (i := 0) (by decide)
      | 0, _, 1, _ => exact R1.cell (i := 1) (by decide)
      | 0, _, 2, _ => exact R1.cell (i := 2) (by decide)
      | 0, _, 3, _ => exact R1.cell (i := 3) (by decide)
      | 0, _, 4, _ => exact R1.cell (i := 4) (by decide)
      | 1, _, 0, _ => exact R1.cell (i := 5) (by decide)
      | 1, _, 1, _ => exact R1.cell (i := 6) (by decide)
      | 1, _, 2, _ => exact R1.cell (i := 7) (by decide)
      | 1, _, 3, _ => exact R1.cell (i := 8) (by decide)
      | 1, _, 4, _ => exact R1.cell (i := 9) (by decide)
  · intro j hj
    exact absurd hj (Nat.not_lt_zero j)
  · simp only [Exam.P0, Jb.wf]
    repeat' split
    all_goals decide

set_option maxHeartbeats 4000000 in
theorem awake_any (w : World) : Calls Try.prog 9 #[] w fun e w' => e = .returned (.bool true) ∧ Below w.heap.size w w' := by
  have FR := hide (fun w' : World => fresh_ok w' ⟨0, 0, 0, 0, 0, 1⟩ (by decide) (by decide) (want := 4) (r := 1) (by decide) (by decide))
  have EX := hide exam_play
  simp only [Shp.val] at FR EX
  obtain ⟨W0, hW0⟩ : ∃ W0, w.alloc (.cells #[.int .i64 0, .int .i64 0, .int .i64 0, .int .i64 0, .int .i64 0, .int .i64 1] 23) = W0 := ⟨_, rfl⟩
  have b0 : Below w.heap.size w W0 := by rw [← hW0]; exact (Below.refl _ w).alloc (Nat.le_refl _) _
  have R0 : W0.rowIs w.heap.size 23 6 (fun i => (#[Value.int .i64 0, .int .i64 0, .int .i64 0, .int .i64 0, .int .i64 0, .int .i64 1]).getD i undef) := by rw [← hW0]; exact row_arr w _ _
  have keep : Hid (∀ w' : World, Below W0.heap.size W0 w' → Below w.heap.size w w' ∧ w.heap.size < w'.heap.size ∧ w'.cell? ⟨w.heap.size, 0, none⟩ = some (.int .i64 0) ∧ w'.cell? ⟨w.heap.size, 1, none⟩ = some (.int .i64 0) ∧ w'.cell? ⟨w.heap.size, 2, none⟩ = some (.int .i64 0) ∧ w'.cell? ⟨w.heap.size, 3, none⟩ = some (.int .i64 0) ∧ w'.cell? ⟨w.heap.size, 4, none⟩ = some (.int .i64 0) ∧ w'.cell? ⟨w.heap.size, 5, none⟩ = some (.int .i64 1)) := fun w' hb => by
    have r := R0.of_block (hb.block w.heap.size R0.lt)
    exact ⟨b0.trans (hb.mono b0.size), r.lt, r.cell (i := 0) (by decide), r.cell (i := 1) (by decide), r.cell (i := 2) (by decide), r.cell (i := 3) (by decide), r.cell (i := 4) (by decide), r.cell (i := 5) (by decide)⟩
  obtain ⟨_, l0, c0, c1, c2, c3, c4, c5⟩ := keep.out W0 (Below.refl _ _)
  clear b0 R0
  go_enter Try.func9, Try.ntmps9
  go_wp2_with fail
  refine (FR.out _).mono ?_
  rintro e w2 ⟨g, rfl, hr2, hg2, hgr⟩
  have B2 := hide (below_of_grown_none hgr W0.heap.size (Nat.le_refl _))
  have HR2 := hide hr2
  clear hgr hr2 c0 c1 c2 c3 c4 c5 hW0
  obtain ⟨bw2, l2, c0, c1, c2, c3, c4, c5⟩ := keep.out w2 B2.out
  have HB2 := hide bw2
  clear bw2
  go_wp2_with fail
  refine (EX.out w2 g HR2.out HR2.out.lt).mono ?_
  rintro e w3 ⟨hb, hcase⟩
  have BX : Below w2.heap.size w2 ((w2.alloc (.cells #[.int .i64 1, .int .i64 0, .int .i64 0, .int .i64 0, .int .u64 7, .int .i64 2, .int .i64 0, .int .i64 0, .int .i64 0, .int .u64 0] 49)).alloc (.cells #[.slice (some ⟨w2.heap.size, 0, none⟩) 2 2] 80)) := ((Below.refl w2.heap.size w2).alloc (Nat.le_refl _) _).alloc (by simp) _
  have BB := hide (HB2.out.trans ((BX.trans (hb.mono (by simp; omega))).mono (by omega)))
  clear hb BX c0 c1 c2 c3 c4 c5
  rcases hcase with ⟨er, hle, rfl⟩ | ⟨_, hF, hok, v, rfl, blk, c, g', sv, rfl, H, G, GS, R, hg, hne⟩
  · refine absurd ⟨?_, ?_⟩ (show ¬ (Fine Exam.P0 99 ∧ AllOk (kBelt 1) Exam.P0) from by rcases hle with ⟨h, _⟩ | ⟨_, h⟩; exact absurd rfl h; exact h.not)
    · refine ⟨by decide, ?_, by decide, by decide, by decide⟩
      rintro (h | ⟨h, _, h2⟩)
      · exact absurd h (by decide)
      · have h3 : 256 < 2 := h2
        omega
    · intro h hh j hj
      have : h < 1 := hh
      match h, this with
      | 0, _ =>
        have : j < 2 := hj
        match j, this with
        | 0, _ => decide
        | 1, _ => decide
  · have hst : runSt Exam.P0 (st0 (kBelt 1) Exam.P0 (bfr 1)) (Int.toNat 99) = Exam.s10 := rfl
    rw [hst] at G GS R ⊢
    rw [Exam.e10]
    obtain ⟨b, cap, rfl, hbl, _, hcs⟩ := grows_cell GS H (stepCells_length _ _) (by rw [Exam.k10]; decide)
    obtain ⟨A, eA, hA⟩ := G.answers
    have a0 := hA 0 (by decide)
    rw [Exam.d10] at a0
    obtain ⟨b', cap', eA0, hbl', _, hcs'⟩ := grows_cell a0 H (ansCells_length _ _) (by decide)
    have ac := hcs' _ _ (ansCells_get (Exam.s10.ans 0) 2 1 1 (by decide) (by decide))
    have ak := hcs' _ _ (ansCells_get (Exam.s10.ans 0) 2 1 0 (by decide) (by decide))
    simp only [Ans.cell, Exam.a1.1, Exam.a1.2] at ac ak
    have ah := H.cell eA (i := 0) (show 0 < 1 by decide)
    simp only [eA0] at ah
    have la := H.lt eA
    rw [Exam.k10]
    have n1 : Exam.P0.n = 4 := rfl
    have n2 : Exam.P0.nh = 1 := rfl
    rw [n1, n2]
    obtain ⟨ba, hba⟩ : ∃ ba, blk .answers = ba := ⟨_, rfl⟩
    rw [hba] at ah la ⊢
    simp only [Nat.zero_mul, Nat.zero_add, Nat.reduceMul, Nat.reduceAdd] at ac ak
    clear H G GS R hne hcs hcs' hA a0 hok hst hF
    simp only [decide_true]
    go_wp2_with fail
    go_ret
    exact ⟨rfl, BB.out.alloc (by have := BB.out.size; omega) _⟩
end Belt
end Go.Proofs.Ytehbkkmhnfgcmaa

/-
  The belt's reference: Size and Start.
-/
namespace Go.Proofs.Ytehbkkmhnfgcmaa
open Go.RowKit
set_option linter.unusedVariables false
set_option linter.unusedSimpArgs false
set_option linter.unnecessarySimpa false
set_option maxRecDepth 20000
namespace Belt

theorem rsize_ok (w : World) (sh : Shp) (h1 : 1 ≤ sh.f) (h2 : sh.f ≤ 64) : Calls Try.prog 19 #[sh.val] w fun e w' => e = .returned (.tuple #[.int .i64 (2 + 2 * sh.f), .int .i64 0]) ∧ w.grownBy w' none := by
  obtain ⟨s0, s1, s2, s3, s4, s5⟩ := sh
  simp only [Shp.val] at h1 h2 ⊢
  have g1 : ¬ s5 < 1 := by omega
  have g2 : ¬ 64 < s5 := by omega
  have g3 : wrap64 (2 * s5) = 2 * s5 := by unfold wrap64; omega
  have g4 : wrap64 (2 + 2 * s5) = 2 + 2 * s5 := by unfold wrap64; omega
  go_enter Try.func19, Try.ntmps19
  go_wp2
  go_ret2
  exact ⟨rfl, grown_alloc (grown_refl _ _) _⟩
theorem rsize_bad (w : World) (sh : Shp) (h : sh.f < 1 ∨ 64 < sh.f) : Calls Try.prog 19 #[sh.val] w fun e w' => e = .returned (.tuple #[.int .i64 0, .int .i64 120]) ∧ w.grownBy w' none := by
  obtain ⟨s0, s1, s2, s3, s4, s5⟩ := sh
  simp only [Shp.val] at h ⊢
  by_cases g1 : s5 < 1
  · go_enter Try.func19, Try.ntmps19
    go_wp2
    go_ret2
    exact ⟨rfl, grown_alloc (grown_refl _ _) _⟩
  · have g2 : 64 < s5 := by omega
    go_enter Try.func19, Try.ntmps19
    go_wp2
    go_ret2
    exact ⟨rfl, grown_alloc (grown_refl _ _) _⟩

set_option maxHeartbeats 4000000 in
theorem rstart_ok (w : World) (s0 s1 s2 s3 s4 s5 hand kind a b c hh : Int) (h1 : 1 ≤ s5) (h2 : s5 ≤ 64) (hk : kind = 1 ∨ kind = 2) :
    Calls Try.prog 23 #[.agg #[.int .i64 s0, .int .i64 s1, .int .i64 s2, .int .i64 s3, .int .i64 s4, .int .i64 s5], .int .i64 hand, .agg #[.int .i64 kind, .int .i64 a, .int .i64 b, .int .i64 c, .int .u64 hh], .agg #[.int .u64 0, .int .u64 0, .int .u64 0, .int .u64 0]] w fun e w' => e = .returned (.tuple #[.agg (tk ⟨s0, s1, s2, s3, s4, s5⟩ hand ⟨kind, a, b, c, hh⟩ 0 .zero ⟨false, 0⟩).toArray, .int .i64 0]) ∧ Below w.heap.size w w' := by
  obtain ⟨l, hl⟩ : ∃ l, tk ⟨s0, s1, s2, s3, s4, s5⟩ hand ⟨kind, a, b, c, hh⟩ 0 .zero ⟨false, 0⟩ = l := ⟨_, rfl⟩
  rw [hl]
  have hl1 := hide (show IsTk l from by rw [← hl]; exact tk_is _ _ _ _ _ _)
  have HLA := hide (show Value.agg #[.int .i64 s0, .int .i64 s1, .int .i64 s2, .int .i64 s3, .int .i64 s4, .int .i64 s5, .int .i64 hand, .int .i64 kind, .int .i64 a, .int .i64 b, .int .i64 c, .int .u64 hh, .int .i64 0, .int .u64 0, .int .u64 0, .int .u64 0, .int .u64 0, .int .u64 0, .int .u64 0, .int .u64 0, .int .u64 0, .slice none 0 0, .bool false, .int .u64 0, .int .u64 0, .int .u64 0, .int .u64 0, .int .u64 0] = .agg l.toArray from by rw [← hl]; rfl)
  obtain ⟨W4, hW4⟩ : ∃ W4, (((w.alloc (.cells #[.int .i64 s0, .int .i64 s1, .int .i64 s2, .int .i64 s3, .int .i64 s4, .int .i64 s5] 23)).alloc (.cells #[.int .i64 kind, .int .i64 a, .int .i64 b, .int .i64 c, .int .u64 hh] 49)).alloc (.cells #[.int .u64 0, .int .u64 0, .int .u64 0, .int .u64 0] 62)).alloc (.cells #[.int .i64 0, .int .i64 0, .int .i64 0, .int .i64 0, .int .i64 0, .int .i64 0, .int .i64 0, .int .i64 0, .int .i64 0, .int .i64 0, .int .i64 0, .int .u64 0, .int .i64 0, .int .u64 0, .int .u64 0, .int .u64 0, .int .u64 0, .int .u64 0, .int .u64 0, .int .u64 0, .int .u64 0, .slice none 0 0, .bool false, .int .u64 0, .int .u64 0, .int .u64 0, .int .u64 0, .int .u64 0] 64) = W4 := ⟨_, rfl⟩
  have th : W4.there (w.heap.size + 3) 0 28 := by
    rw [← hW4]
    have := there_alloc_new (w := (((w.alloc (.cells #[.int .i64 s0, .int .i64 s1, .int .i64 s2, .int .i64 s3, .int .i64 s4, .int .i64 s5] 23)).alloc (.cells #[.int .i64 kind, .int .i64 a, .int .i64 b, .int .i64 c, .int .u64 hh] 49)).alloc (.cells #[.int .u64 0, .int .u64 0, .int .u64 0, .int .u64 0] 62))) (t := 64) (cs := tk0)
    simpa [tk0] using this
  have sz4 : W4.heap.size = w.heap.size + 4 := by rw [← hW4]; simp
  have B4 := hide (show Below w.heap.size w W4 from by rw [← hW4]; exact ((((Below.refl _ w).alloc (Nat.le_refl _) _).alloc (by simp) _).alloc (by simp; omega) _).alloc (by simp; omega) _)
  have r0 : W4.rangeAt w.heap.size 0 [.int .i64 s0, .int .i64 s1, .int .i64 s2, .int .i64 s3, .int .i64 s4, .int .i64 s5] := by rw [← hW4]; exact World.rangeAt_alloc (World.rangeAt_alloc (World.rangeAt_alloc (cell_range (b := 0)) _) _) _
  have r1 : W4.rangeAt (w.heap.size + 1) 0 [.int .i64 kind, .int .i64 a, .int .i64 b, .int .i64 c, .int .u64 hh] := by
    rw [← hW4]
    have := cell_range (b := 0) (w := w.alloc (.cells #[.int .i64 s0, .int .i64 s1, .int .i64 s2, .int .i64 s3, .int .i64 s4, .int .i64 s5] 23)) (t := 49) (cs := [.int .i64 kind, .int .i64 a, .int .i64 b, .int .i64 c, .int .u64 hh])
    rw [World.size_alloc] at this
    exact World.rangeAt_alloc (World.rangeAt_alloc this _) _
  have HR0 := hide r0
  have HR1 := hide r1
  have HTH := hide th
  have g := fun i v hv => r0 i v hv
  simp only [Nat.zero_add] at g
  have q0 := g 0 _ rfl
  have q1 := g 1 _ rfl
  have q2 := g 2 _ rfl
  have q3 := g 3 _ rfl
  have q4 := g 4 _ rfl
  have q5 := g 5 _ rfl
  clear g r0 r1 th
  obtain ⟨dT, hdT1, hdT2⟩ := row79
  have DT1 := hide hdT1
  have DT2 := hide hdT2
  clear hdT1 hdT2 hl
  rcases hk with rfl | rfl
  · skip
    go_enter Try.func23, Try.ntmps23
    go_wp2_with (first
      | (go_at_call 19; refine (rsize_ok _ ⟨s0, s1, s2, s3, s4, s5⟩ h1 h2).mono ?_; rintro e w1 ⟨rfl, hg⟩; have HB := hide (below_of_grown_none hg W4.heap.size (Nat.le_refl _)); have t0 := rangeAt_block HR0.out (HB.out.block w.heap.size (by omega)); have t1 := rangeAt_block HR1.out (HB.out.block (w.heap.size + 1) (by omega)); have g := (fun i v hv => t0 i v hv); have g' := (fun i v hv => t1 i v hv); simp only [Nat.zero_add] at g g'; have c0 := g 0 _ rfl; have c1 := g 1 _ rfl; have c2 := g 2 _ rfl; have c3 := g 3 _ rfl; have c4 := g 4 _ rfl; have c5 := g 5 _ rfl; have d0 := g' 0 _ rfl;  have d1 := g' 1 _ rfl;  have d2 := g' 2 _ rfl;  have d3 := g' 3 _ rfl;  have d4 := g' 4 _ rfl; have HT1 := hide (there_block HTH.out (HB.out.block (w.heap.size + 3) (by omega))); clear g g' t0 t1 hg)
      | (refine wpList_store_mid (by rfl) 64 (.tmp 8) (.tmp 33) (by rfl) (w.heap.size + 3) 0 l.toArray (by rfl) (by exact HLA.out) (by simpa [hl1.out.1] using HT1.out) (by simpa [hl1.out.1] using size79) (by exact all_oneCell_toArray hl1.out.2) ?_))
    have r5 := World.rangeAt_setCells_same w1 (w.heap.size + 3) 0 l (by rw [hl1.out.1]; exact HT1.out)
    refine bodyPost_ret (v := .tuple #[.agg l.toArray, .int .i64 0]) ?res rfl ⟨rfl, ?bel⟩
    case res => exact results_ct (fn := Try.f23) (t := 8) (t' := 9) (by rfl) (by rfl) (run_loadVar_mid _ _ 0 _ l dT r5 DT1.out DT2.out (by rw [hl1.out.1]; exact size79))
    case bel => exact (B4.out.trans (HB.out.mono (by omega))).trans ((touch_setCells (w.heap.size + 3) l 0 w1).below (fun k hk => by omega) (by have := HB.out.size; omega))
  · skip
    go_enter Try.func23, Try.ntmps23
    go_wp2_with (first
      | (go_at_call 19; refine (rsize_ok _ ⟨s0, s1, s2, s3, s4, s5⟩ h1 h2).mono ?_; rintro e w1 ⟨rfl, hg⟩; have HB := hide (below_of_grown_none hg W4.heap.size (Nat.le_refl _)); have t0 := rangeAt_block HR0.out (HB.out.block w.heap.size (by omega)); have t1 := rangeAt_block HR1.out (HB.out.block (w.heap.size + 1) (by omega)); have g := (fun i v hv => t0 i v hv); have g' := (fun i v hv => t1 i v hv); simp only [Nat.zero_add] at g g'; have c0 := g 0 _ rfl; have c1 := g 1 _ rfl; have c2 := g 2 _ rfl; have c3 := g 3 _ rfl; have c4 := g 4 _ rfl; have c5 := g 5 _ rfl; have d0 := g' 0 _ rfl;  have d1 := g' 1 _ rfl;  have d2 := g' 2 _ rfl;  have d3 := g' 3 _ rfl;  have d4 := g' 4 _ rfl; have HT1 := hide (there_block HTH.out (HB.out.block (w.heap.size + 3) (by omega))); clear g g' t0 t1 hg)
      | (refine wpList_store_mid (by rfl) 64 (.tmp 8) (.tmp 33) (by rfl) (w.heap.size + 3) 0 l.toArray (by rfl) (by exact HLA.out) (by simpa [hl1.out.1] using HT1.out) (by simpa [hl1.out.1] using size79) (by exact all_oneCell_toArray hl1.out.2) ?_))
    have r5 := World.rangeAt_setCells_same w1 (w.heap.size + 3) 0 l (by rw [hl1.out.1]; exact HT1.out)
    refine bodyPost_ret (v := .tuple #[.agg l.toArray, .int .i64 0]) ?res rfl ⟨rfl, ?bel⟩
    case res => exact results_ct (fn := Try.f23) (t := 8) (t' := 9) (by rfl) (by rfl) (run_loadVar_mid _ _ 0 _ l dT r5 DT1.out DT2.out (by rw [hl1.out.1]; exact size79))
    case bel => exact (B4.out.trans (HB.out.mono (by omega))).trans ((touch_setCells (w.heap.size + 3) l 0 w1).below (fun k hk => by omega) (by have := HB.out.size; omega))

set_option maxHeartbeats 4000000 in
theorem rstart_kind (w : World) (s0 s1 s2 s3 s4 s5 hand kind a b c hh : Int) (h1 : 1 ≤ s5) (h2 : s5 ≤ 64) (k1 : ¬ kind = 1) (k2 : ¬ kind = 2) :
    Calls Try.prog 23 #[.agg #[.int .i64 s0, .int .i64 s1, .int .i64 s2, .int .i64 s3, .int .i64 s4, .int .i64 s5], .int .i64 hand, .agg #[.int .i64 kind, .int .i64 a, .int .i64 b, .int .i64 c, .int .u64 hh], .agg #[.int .u64 0, .int .u64 0, .int .u64 0, .int .u64 0]] w fun e w' => e = .returned (.tuple #[.agg (tk0).toArray, .int .i64 200]) ∧ Below w.heap.size w w' := by
  obtain ⟨l, hl⟩ : ∃ l, tk0 = l := ⟨_, rfl⟩
  rw [hl]
  have hl1 := hide (show IsTk l from by rw [← hl]; exact tk0_is)
  have HLA := hide (show Value.agg #[.int .i64 0, .int .i64 0, .int .i64 0, .int .i64 0, .int .i64 0, .int .i64 0, .int .i64 0, .int .i64 0, .int .i64 0, .int .i64 0, .int .i64 0, .int .u64 0, .int .i64 0, .int .u64 0, .int .u64 0, .int .u64 0, .int .u64 0, .int .u64 0, .int .u64 0, .int .u64 0, .int .u64 0, .slice none 0 0, .bool false, .int .u64 0, .int .u64 0, .int .u64 0, .int .u64 0, .int .u64 0] = .agg l.toArray from by rw [← hl]; rfl)
  obtain ⟨W4, hW4⟩ : ∃ W4, (((w.alloc (.cells #[.int .i64 s0, .int .i64 s1, .int .i64 s2, .int .i64 s3, .int .i64 s4, .int .i64 s5] 23)).alloc (.cells #[.int .i64 kind, .int .i64 a, .int .i64 b, .int .i64 c, .int .u64 hh] 49)).alloc (.cells #[.int .u64 0, .int .u64 0, .int .u64 0, .int .u64 0] 62)).alloc (.cells #[.int .i64 0, .int .i64 0, .int .i64 0, .int .i64 0, .int .i64 0, .int .i64 0, .int .i64 0, .int .i64 0, .int .i64 0, .int .i64 0, .int .i64 0, .int .u64 0, .int .i64 0, .int .u64 0, .int .u64 0, .int .u64 0, .int .u64 0, .int .u64 0, .int .u64 0, .int .u64 0, .int .u64 0, .slice none 0 0, .bool false, .int .u64 0, .int .u64 0, .int .u64 0, .int .u64 0, .int .u64 0] 64) = W4 := ⟨_, rfl⟩
  have th : W4.there (w.heap.size + 3) 0 28 := by
    rw [← hW4]
    have := there_alloc_new (w := (((w.alloc (.cells #[.int .i64 s0, .int .i64 s1, .int .i64 s2, .int .i64 s3, .int .i64 s4, .int .i64 s5] 23)).alloc (.cells #[.int .i64 kind, .int .i64 a, .int .i64 b, .int .i64 c, .int .u64 hh] 49)).alloc (.cells #[.int .u64 0, .int .u64 0, .int .u64 0, .int .u64 0] 62))) (t := 64) (cs := tk0)
    simpa [tk0] using this
  have sz4 : W4.heap.size = w.heap.size + 4 := by rw [← hW4]; simp
  have B4 := hide (show Below w.heap.size w W4 from by rw [← hW4]; exact ((((Below.refl _ w).alloc (Nat.le_refl _) _).alloc (by simp) _).alloc (by simp; omega) _).alloc (by simp; omega) _)
  have r0 : W4.rangeAt w.heap.size 0 [.int .i64 s0, .int .i64 s1, .int .i64 s2, .int .i64 s3, .int .i64 s4, .int .i64 s5] := by rw [← hW4]; exact World.rangeAt_alloc (World.rangeAt_alloc (World.rangeAt_alloc (cell_range (b := 0)) _) _) _
  have r1 : W4.rangeAt (w.heap.size + 1) 0 [.int .i64 kind, .int .i64 a, .int .i64 b, .int .i64 c, .int .u64 hh] := by
    rw [← hW4]
    have := cell_range (b := 0) (w := w.alloc (.cells #[.int .i64 s0, .int .i64 s1, .int .i64 s2, .int .i64 s3, .int .i64 s4, .int .i64 s5] 23)) (t := 49) (cs := [.int .i64 kind, .int .i64 a, .int .i64 b, .int .i64 c, .int .u64 hh])
    rw [World.size_alloc] at this
    exact World.rangeAt_alloc (World.rangeAt_alloc this _) _
  have HR0 := hide r0
  have HR1 := hide r1
  have HTH := hide th
  have g := fun i v hv => r0 i v hv
  simp only [Nat.zero_add] at g
  have q0 := g 0 _ rfl
  have q1 := g 1 _ rfl
  have q2 := g 2 _ rfl
  have q3 := g 3 _ rfl
  have q4 := g 4 _ rfl
  have q5 := g 5 _ rfl
  clear g r0 r1 th
  obtain ⟨dT, hdT1, hdT2⟩ := row79
  have DT1 := hide hdT1
  have DT2 := hide hdT2
  clear hdT1 hdT2 hl
  have k1' : (kind != 1) = true := by simpa using k1
  have k2' : (kind != 2) = true := by simpa using k2
  · skip
    go_enter Try.func23, Try.ntmps23
    go_wp2_with (first
      | (go_at_call 19; refine (rsize_ok _ ⟨s0, s1, s2, s3, s4, s5⟩ h1 h2).mono ?_; rintro e w1 ⟨rfl, hg⟩; have HB := hide (below_of_grown_none hg W4.heap.size (Nat.le_refl _)); have t0 := rangeAt_block HR0.out (HB.out.block w.heap.size (by omega)); have t1 := rangeAt_block HR1.out (HB.out.block (w.heap.size + 1) (by omega)); have g := (fun i v hv => t0 i v hv); have g' := (fun i v hv => t1 i v hv); simp only [Nat.zero_add] at g g'; have c0 := g 0 _ rfl; have c1 := g 1 _ rfl; have c2 := g 2 _ rfl; have c3 := g 3 _ rfl; have c4 := g 4 _ rfl; have c5 := g 5 _ rfl; have d0 := g' 0 _ rfl;  have d1 := g' 1 _ rfl;  have d2 := g' 2 _ rfl;  have d3 := g' 3 _ rfl;  have d4 := g' 4 _ rfl; have HT1 := hide (there_block HTH.out (HB.out.block (w.heap.size + 3) (by omega))); clear g g' t0 t1 hg)
      | (refine wpList_store_mid (by rfl) 64 (.tmp 8) (.tmp 29) (by rfl) (w.heap.size + 3) 0 l.toArray (by rfl) (by exact HLA.out) (by simpa [hl1.out.1] using HT1.out) (by simpa [hl1.out.1] using size79) (by exact all_oneCell_toArray hl1.out.2) ?_))
    have r5 := World.rangeAt_setCells_same w1 (w.heap.size + 3) 0 l (by rw [hl1.out.1]; exact HT1.out)
    refine bodyPost_ret (v := .tuple #[.agg l.toArray, .int .i64 200]) ?res rfl ⟨rfl, ?bel⟩
    case res => exact results_ct (fn := Try.f23) (t := 8) (t' := 9) (by rfl) (by rfl) (run_loadVar_mid _ _ 0 _ l dT r5 DT1.out DT2.out (by rw [hl1.out.1]; exact size79))
    case bel => exact (B4.out.trans (HB.out.mono (by omega))).trans ((touch_setCells (w.heap.size + 3) l 0 w1).below (fun k hk => by omega) (by have := HB.out.size; omega))

set_option maxHeartbeats 4000000 in
theorem rstart_shape (w : World) (s0 s1 s2 s3 s4 s5 hand kind a b c hh : Int) (h : s5 < 1 ∨ 64 < s5) :
    Calls Try.prog 23 #[.agg #[.int .i64 s0, .int .i64 s1, .int .i64 s2, .int .i64 s3, .int .i64 s4, .int .i64 s5], .int .i64 hand, .agg #[.int .i64 kind, .int .i64 a, .int .i64 b, .int .i64 c, .int .u64 hh], .agg #[.int .u64 0, .int .u64 0, .int .u64 0, .int .u64 0]] w fun e w' => e = .returned (.tuple #[.agg (tk0).toArray, .int .i64 120]) ∧ Below w.heap.size w w' := by
  obtain ⟨l, hl⟩ : ∃ l, tk0 = l := ⟨_, rfl⟩
  rw [hl]
  have hl1 := hide (show IsTk l from by rw [← hl]; exact tk0_is)
  have HLA := hide (show Value.agg #[.int .i64 0, .int .i64 0, .int .i64 0, .int .i64 0, .int .i64 0, .int .i64 0, .int .i64 0, .int .i64 0, .int .i64 0, .int .i64 0, .int .i64 0, .int .u64 0, .int .i64 0, .int .u64 0, .int .u64 0, .int .u64 0, .int .u64 0, .int .u64 0, .int .u64 0, .int .u64 0, .int .u64 0, .slice none 0 0, .bool false, .int .u64 0, .int .u64 0, .int .u64 0, .int .u64 0, .int .u64 0] = .agg l.toArray from by rw [← hl]; rfl)
  obtain ⟨W4, hW4⟩ : ∃ W4, (((w.alloc (.cells #[.int .i64 s0, .int .i64 s1, .int .i64 s2, .int .i64 s3, .int .i64 s4, .int .i64 s5] 23)).alloc (.cells #[.int .i64 kind, .int .i64 a, .int .i64 b, .int .i64 c, .int .u64 hh] 49)).alloc (.cells #[.int .u64 0, .int .u64 0, .int .u64 0, .int .u64 0] 62)).alloc (.cells #[.int .i64 0, .int .i64 0, .int .i64 0, .int .i64 0, .int .i64 0, .int .i64 0, .int .i64 0, .int .i64 0, .int .i64 0, .int .i64 0, .int .i64 0, .int .u64 0, .int .i64 0, .int .u64 0, .int .u64 0, .int .u64 0, .int .u64 0, .int .u64 0, .int .u64 0, .int .u64 0, .int .u64 0, .slice none 0 0, .bool false, .int .u64 0, .int .u64 0, .int .u64 0, .int .u64 0, .int .u64 0] 64) = W4 := ⟨_, rfl⟩
  have th : W4.there (w.heap.size + 3) 0 28 := by
    rw [← hW4]
    have := there_alloc_new (w := (((w.alloc (.cells #[.int .i64 s0, .int .i64 s1, .int .i64 s2, .int .i64 s3, .int .i64 s4, .int .i64 s5] 23)).alloc (.cells #[.int .i64 kind, .int .i64 a, .int .i64 b, .int .i64 c, .int .u64 hh] 49)).alloc (.cells #[.int .u64 0, .int .u64 0, .int .u64 0, .int .u64 0] 62))) (t := 64) (cs := tk0)
    simpa [tk0] using this
  have sz4 : W4.heap.size = w.heap.size + 4 := by rw [← hW4]; simp
  have B4 := hide (show Below w.heap.size w W4 from by rw [← hW4]; exact ((((Below.refl _ w).alloc (Nat.le_refl _) _).alloc (by simp) _).alloc (by simp; omega) _).alloc (by simp; omega) _)
  have r0 : W4.rangeAt w.heap.size 0 [.int .i64 s0, .int .i64 s1, .int .i64 s2, .int .i64 s3, .int .i64 s4, .int .i64 s5] := by rw [← hW4]; exact World.rangeAt_alloc (World.rangeAt_alloc (World.rangeAt_alloc (cell_range (b := 0)) _) _) _
  have r1 : W4.rangeAt (w.heap.size + 1) 0 [.int .i64 kind, .int .i64 a, .int .i64 b, .int .i64 c, .int .u64 hh] := by
    rw [← hW4]
    have := cell_range (b := 0) (w := w.alloc (.cells #[.int .i64 s0, .int .i64 s1, .int .i64 s2, .int .i64 s3, .int .i64 s4, .int .i64 s5] 23)) (t := 49) (cs := [.int .i64 kind, .int .i64 a, .int .i64 b, .int .i64 c, .int .u64 hh])
    rw [World.size_alloc] at this
    exact World.rangeAt_alloc (World.rangeAt_alloc this _) _
  have HR0 := hide r0
  have HR1 := hide r1
  have HTH := hide th
  have g := fun i v hv => r0 i v hv
  simp only [Nat.zero_add] at g
  have q0 := g 0 _ rfl
  have q1 := g 1 _ rfl
  have q2 := g 2 _ rfl
  have q3 := g 3 _ rfl
  have q4 := g 4 _ rfl
  have q5 := g 5 _ rfl
  clear g r0 r1 th
  obtain ⟨dT, hdT1, hdT2⟩ := row79
  have DT1 := hide hdT1
  have DT2 := hide hdT2
  clear hdT1 hdT2 hl
  · skip
    go_enter Try.func23, Try.ntmps23
    go_wp2_with (first
      | (go_at_call 19; refine (rsize_bad _ ⟨s0, s1, s2, s3, s4, s5⟩ h).mono ?_; rintro e w1 ⟨rfl, hg⟩; have HB := hide (below_of_grown_none hg W4.heap.size (Nat.le_refl _)); have t0 := rangeAt_block HR0.out (HB.out.block w.heap.size (by omega)); have t1 := rangeAt_block HR1.out (HB.out.block (w.heap.size + 1) (by omega)); have g := (fun i v hv => t0 i v hv); have g' := (fun i v hv => t1 i v hv); simp only [Nat.zero_add] at g g'; have c0 := g 0 _ rfl; have c1 := g 1 _ rfl; have c2 := g 2 _ rfl; have c3 := g 3 _ rfl; have c4 := g 4 _ rfl; have c5 := g 5 _ rfl; have d0 := g' 0 _ rfl;  have d1 := g' 1 _ rfl;  have d2 := g' 2 _ rfl;  have d3 := g' 3 _ rfl;  have d4 := g' 4 _ rfl; have HT1 := hide (there_block HTH.out (HB.out.block (w.heap.size + 3) (by omega))); clear g g' t0 t1 hg)
      | (refine wpList_store_mid (by rfl) 64 (.tmp 8) (.tmp 19) (by rfl) (w.heap.size + 3) 0 l.toArray (by rfl) (by exact HLA.out) (by simpa [hl1.out.1] using HT1.out) (by simpa [hl1.out.1] using size79) (by exact all_oneCell_toArray hl1.out.2) ?_))
    have r5 := World.rangeAt_setCells_same w1 (w.heap.size + 3) 0 l (by rw [hl1.out.1]; exact HT1.out)
    refine bodyPost_ret (v := .tuple #[.agg l.toArray, .int .i64 120]) ?res rfl ⟨rfl, ?bel⟩
    case res => exact results_ct (fn := Try.f23) (t := 8) (t' := 9) (by rfl) (by rfl) (run_loadVar_mid _ _ 0 _ l dT r5 DT1.out DT2.out (by rw [hl1.out.1]; exact size79))
    case bel => exact (B4.out.trans (HB.out.mono (by omega))).trans ((touch_setCells (w.heap.size + 3) l 0 w1).below (fun k hk => by omega) (by have := HB.out.size; omega))

end Belt
end Go.Proofs.Ytehbkkmhnfgcmaa
