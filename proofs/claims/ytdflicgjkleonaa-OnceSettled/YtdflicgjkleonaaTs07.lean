/-
  Lemmas: OnceP, OnceL, OnceX.
-/
import Derived.Test.YtdflicgjkleonaaTs06
import Derived.Test.YtdflicgjkleonaaTp18
import Derived.Test.YtdflicgjkleonaaTp19
import Derived.Test.YtdflicgjkleonaaTs01
import Derived.Test.YtdflicgjkleonaaTp20
set_option linter.unusedVariables false
set_option linter.unusedSimpArgs false
set_option maxRecDepth 20000
namespace Go.Proofs.Ytdflicgjkleonaa
open Go.RowKit
namespace Once

theorem callSize (args : Array Value) (w : World) : (callFunc 45 args).run Try.prog w = .ok (.enter 45 args) w := by simp [go_sem]

theorem size_ok (w : World) (sh : Shp) (h1 : 1 ≤ sh.f) (h2 : sh.f ≤ 64) : Calls Try.prog 45 #[sh.val] w fun e w' => e = .returned (.tuple #[.int .i64 (2 * sh.f), .int .i64 0]) ∧ w.grownBy w' none := by
  obtain ⟨s0, s1, s2, s3, s4, s5⟩ := sh
  simp only [Shp.val] at h1 h2 ⊢
  have g3 : wrap64 (2 * s5) = 2 * s5 := by unfold wrap64; omega
  go_enter Try.func45, Try.ntmps45
  go_wp2_with (go_at_call 37; refine (room_ok _ ⟨s0, s1, s2, s3, s4, s5⟩ h1 h2).mono ?_; rintro e w1 ⟨rfl, hg1⟩; have HG := hide hg1; have sh5 : w1.cell? ⟨w.heap.size, 5, none⟩ = some (.int .i64 s5) := hg1.cell (a := ⟨w.heap.size, 5, none⟩) (by simp) (by simp); clear hg1)
  go_ret2
  exact ⟨rfl, grown_trans (grown_alloc (grown_refl _ _) _) HG.out⟩
theorem size_bad (w : World) (sh : Shp) (h : sh.f < 1 ∨ 64 < sh.f) : Calls Try.prog 45 #[sh.val] w fun e w' => e = .returned (.tuple #[.int .i64 0, .int .i64 120]) ∧ w.grownBy w' none := by
  obtain ⟨s0, s1, s2, s3, s4, s5⟩ := sh
  simp only [Shp.val] at h ⊢
  go_enter Try.func45, Try.ntmps45
  go_wp2_with (go_at_call 37; refine (room_bad _ ⟨s0, s1, s2, s3, s4, s5⟩ h).mono ?_; rintro e w1 ⟨rfl, hg1⟩; have HG := hide hg1; clear hg1)
  go_ret2
  exact ⟨rfl, grown_trans (grown_alloc (grown_refl _ _) _) HG.out⟩

variable {w : World} {ao aoh aos : Option Addr} {cap caph caps : Nat} {P : Par} {f : Nat → Int} {most : Int} {sh : Shp}

theorem play_any {R : Ending → World → Prop} {Q : Ending → World → Prop}
    (h : Calls Try.prog 35 #[.func (.func 45) #[] #[], .func (.func 46) #[] #[], sh.val, .slice ao P.n cap, .slice aoh P.nh caph, .slice aos P.ns caps, .int .i64 most]
      ((w.alloc (.cells #[.int .i64 sh.a, .int .i64 sh.b, .int .i64 sh.c, .int .i64 sh.d, .int .i64 sh.e, .int .i64 sh.f] 23)).alloc (.cells #[.slice none 0 0, .slice none 0 0, .bool false] 32)) Q)
    (hs : ∀ e w', Q e w' → Below (w.heap.size + 2) ((w.alloc (.cells #[.int .i64 sh.a, .int .i64 sh.b, .int .i64 sh.c, .int .i64 sh.d, .int .i64 sh.e, .int .i64 sh.f] 23)).alloc (.cells #[.slice none 0 0, .slice none 0 0, .bool false] 32)) w' ∧
      ∃ sa k sc wa n wc en aa m ac er, e = .returned (tv3 sa k sc wa n wc en aa m ac er) ∧ R e (((w'.setCell ⟨w.heap.size + 1, 0, none⟩ (.slice sa k sc)).setCell ⟨w.heap.size + 1, 1, none⟩ (.slice wa n wc)).setCell ⟨w.heap.size + 1, 2, none⟩ (.bool en))) :
    Calls Try.prog 32 #[sh.val, .slice ao P.n cap, .slice aoh P.nh caph, .slice aos P.ns caps, .int .i64 most] w R := by
  obtain ⟨s0, s1, s2, s3, s4, s5⟩ := sh
  simp only [Shp.val] at h hs ⊢
  have HH := hide h
  have HS := hide hs
  clear h hs
  go_enter Try.func32, Try.ntmps32
  go_wp2_with fail
  refine HH.out.mono ?_
  intro e w3 hq
  obtain ⟨hb, sa, k, sc, wa, n, wc, en, aa, m, ac, er, rfl, hR⟩ := HS.out e w3 hq
  have u0 := hb.cell (p := ⟨w.heap.size + 1, 0, none⟩) (by simp)
  have u1 := hb.cell (p := ⟨w.heap.size + 1, 1, none⟩) (by simp)
  have u2 := hb.cell (p := ⟨w.heap.size + 1, 2, none⟩) (by simp)
  have v0 := hb.frozen (p := ⟨w.heap.size + 1, 0, none⟩) (by simp)
  have v1 := hb.frozen (p := ⟨w.heap.size + 1, 1, none⟩) (by simp)
  have v2 := hb.frozen (p := ⟨w.heap.size + 1, 2, none⟩) (by simp)
  simp at u0 u1 u2 v0 v1 v2
  have HR := hide hR
  clear hb hR hq
  unfold tv3
  go_wp2_with fail
  go_light
  refine bodyPost_ret (v := tv3 sa k sc wa n wc en aa m ac er) ?_ rfl HR.out
  simp [results, Try.results32, go_sem, tv3, *]

theorem play_shape (h : sh.f < 1 ∨ 64 < sh.f) : Calls Try.prog 32 #[sh.val, .slice ao P.n cap, .slice aoh P.nh caph, .slice aos P.ns caps, .int .i64 most] w fun e w' => e = .returned (errVal 120) ∧ Below w.heap.size w w' := by
  have b0 : Below w.heap.size w ((w.alloc (.cells #[.int .i64 sh.a, .int .i64 sh.b, .int .i64 sh.c, .int .i64 sh.d, .int .i64 sh.e, .int .i64 sh.f] 23)).alloc (.cells #[.slice none 0 0, .slice none 0 0, .bool false] 32)) := ((Below.refl _ w).alloc (Nat.le_refl _) _).alloc (by simp) _
  refine play_any (lay_size_err (by decide) callSize (fun w' => size_bad w' sh h)) ?_
  rintro e w' ⟨rfl, hb⟩
  simp only [World.size_alloc] at hb
  refine ⟨hb, none, 0, 0, none, 0, 0, false, none, 0, 0, 120, rfl, rfl, ?_⟩
  exact (((b0.trans (hb.mono (by omega))).setCell (by simp) _).setCell (by simp) _).setCell (by simp) _

theorem play_all {want : Nat} (h1 : 1 ≤ sh.f) (h2 : sh.f ≤ 64) (hwant : (want : Int) = 2 * sh.f) (S : Sees w w.heap.size ao P.n f) (hf : ∀ i, i < P.n → 0 ≤ f i ∧ f i ≤ 18446744073709551615) (SH : SeesH w w.heap.size aoh P.nh P.jn P.jb) (hn63 : P.nh ≤ 9223372036854775807) (SI : SeesI w w.heap.size aos P.ns P.sched) (hjw : ∀ h, h < P.nh → ∀ j, j < P.jn h → (P.jb h j).wf) :
    Calls Try.prog 32 #[sh.val, .slice ao P.n cap, .slice aoh P.nh caph, .slice aos P.ns caps, .int .i64 most] w (LAll (kOnce sh.f) want w P f most) := by
  have b0 : Below w.heap.size w ((w.alloc (.cells #[.int .i64 sh.a, .int .i64 sh.b, .int .i64 sh.c, .int .i64 sh.d, .int .i64 sh.e, .int .i64 sh.f] 23)).alloc (.cells #[.slice none 0 0, .slice none 0 0, .bool false] 32)) := ((Below.refl _ w).alloc (Nat.le_refl _) _).alloc (by simp) _
  have sz0 : ((w.alloc (.cells #[.int .i64 sh.a, .int .i64 sh.b, .int .i64 sh.c, .int .i64 sh.d, .int .i64 sh.e, .int .i64 sh.f] 23)).alloc (.cells #[.slice none 0 0, .slice none 0 0, .bool false] 32)).heap.size = w.heap.size + 2 := by simp
  refine play_any (lay_any (K := kOnce sh.f) (want := want) callSize (fun w' => by rw [hwant]; exact size_ok w' sh h1 h2) (isKind sh.f) (fun w' tb sb H => makes h1 h2 H) ((S.below b0 (Nat.le_refl _)).mono (by omega)) hf ((SH.below b0 (Nat.le_refl _)).up (by omega)) hn63 ((SI.below b0 (Nat.le_refl _)).up (by omega)) hjw) ?_
  intro e w' hq
  obtain ⟨sa, k, sc, wa, n, wc, en, aa, m, ac, er, rfl⟩ := hq.shape
  have hb := hq.1
  rw [sz0] at hb
  exact ⟨hb, sa, k, sc, wa, n, wc, en, aa, m, ac, er, rfl, hq.up b0 (touch3 w' (w.heap.size + 1) (.slice sa k sc) (.slice wa n wc) (.bool en)) (by omega) (by omega)⟩

end Once
end Go.Proofs.Ytdflicgjkleonaa

namespace Go.Proofs.Ytdflicgjkleonaa
open Go.RowKit
namespace Once

set_option maxHeartbeats 2000000 in
theorem fresh_ok (w : World) (sh : Shp) (h1 : 1 ≤ sh.f) (h2 : sh.f ≤ 64) {want : Nat} (hwant : (want : Int) = 2 * sh.f) : Calls Try.prog 31 #[sh.val] w fun e w' => ∃ g, e = .returned (.tuple #[.slice (some ⟨g, 0, none⟩) want want, .int .i64 0]) ∧ IsRow w' g want want (fun _ => 0) ∧ w.heap.size ≤ g ∧ w.grownBy w' none := by
  have SZ := hide (fun w' : World => size_ok w' sh h1 h2)
  obtain ⟨s0, s1, s2, s3, s4, s5⟩ := sh
  simp only [Shp.val] at SZ h1 h2 hwant ⊢
  rw [← hwant] at SZ
  have hmk := run_make_z (P := Try.prog) 24 42 _ 1 8 Try.underlying24 info46 want (by omega) (by omega)
  simp only [Nat.mul_one] at hmk
  have hw4 : want ≤ 128 := by omega
  clear hwant
  go_enter Try.func31, Try.ntmps31
  go_wp2_with (go_at_call 45; refine (SZ.out _).mono ?_; rintro e w1 ⟨rfl, hg1⟩; have HG := hide hg1; have sz1 := hg1.size; simp only [World.size_alloc] at sz1; clear hg1)
  go_ret2
  exact ⟨w1.heap.size, rfl, ⟨Nat.le_refl _, by unfold maxLen; omega, ⟨_, World.rowIs_made w1 (.int .u64 0) want 42, fun i hi => rfl⟩, fun i hi => ⟨Int.le_refl 0, by show (0 : Int) ≤ 18446744073709551615; decide⟩⟩, by omega, grown_alloc (grown_trans (grown_alloc (grown_refl _ _) _) HG.out) _⟩
set_option maxHeartbeats 2000000 in
theorem fresh_bad (w : World) (sh : Shp) (h : sh.f < 1 ∨ 64 < sh.f) : Calls Try.prog 31 #[sh.val] w fun e w' => e = .returned (.tuple #[.slice none 0 0, .int .i64 120]) ∧ w.grownBy w' none := by
  have SZ := hide (fun w' : World => size_bad w' sh h)
  obtain ⟨s0, s1, s2, s3, s4, s5⟩ := sh
  simp only [Shp.val] at SZ h ⊢
  go_enter Try.func31, Try.ntmps31
  go_wp2_with (go_at_call 45; refine (SZ.out _).mono ?_; rintro e w1 ⟨rfl, hg1⟩; have HG := hide hg1; clear hg1)
  go_ret2
  exact ⟨rfl, grown_trans (grown_alloc (grown_refl _ _) _) HG.out⟩

namespace Exam
def P0 : Par := { n := 2, nh := 1, jn := fun _ => 1, jb := fun _ _ => ⟨1, 0, 0, 0, 0⟩, ns := 0, sched := fun _ => 0 }
def s0 : St (kOnce 1) := st0 (kOnce 1) P0 (fun _ => 0)
def s1 : St (kOnce 1) := stepSt P0 s0 0
def s2 : St (kOnce 1) := stepSt P0 s1 0
def s3 : St (kOnce 1) := stepSt P0 s2 0
theorem t0 : s0.turn P0 = (0 : Nat) := by decide +kernel
theorem t1 : s1.turn P0 = (0 : Nat) := by decide +kernel
theorem t2 : s2.turn P0 = (0 : Nat) := by decide +kernel
theorem t3 : s3.turn P0 < 0 := by decide +kernel
theorem r1 : runSt P0 s0 1 = s1 := runSt_step (m := 0) t0
theorem r2 : runSt P0 s0 2 = s2 := by have := runSt_step (P := P0) (st := s0) (m := 1) (h := 0) (by rw [r1]; exact t1); rw [this, r1]; rfl
theorem r3 : runSt P0 s0 3 = s3 := by have := runSt_step (P := P0) (st := s0) (m := 2) (h := 0) (by rw [r2]; exact t2); rw [this, r2]; rfl
theorem r9 : runSt P0 s0 9 = s3 := by have := runSt_stuck (P := P0) (st := s0) (m := 3) (by rw [r3]; exact t3) 6; rw [r3] at this; exact this
theorem k3 : s3.k = 3 := by decide +kernel
theorem e3 : cnt (s3.going P0) P0.nh = 0 := by decide +kernel
theorem d3 : s3.done 0 = 1 := by decide +kernel
theorem a3 : (s3.ans 0 0).val = 1 ∧ (s3.ans 0 0).ok = true := by decide +kernel
end Exam

theorem exam_play (v : World) (g : Nat) (R : IsRow v g 2 2 (fun _ => 0)) (hgl : g < v.heap.size) : Calls Try.prog 32 #[(⟨0, 0, 0, 0, 0, 1⟩ : Shp).val, .slice (some ⟨g, 0, none⟩) 2 2, .slice (some ⟨v.heap.size + 1, 0, none⟩) 1 1, .slice none 0 0, .int .i64 9]
    ((v.alloc (.cells #[.int .i64 1, .int .i64 0, .int .i64 0, .int .i64 0, .int .u64 0] 44)).alloc (.cells #[.slice (some ⟨v.heap.size, 0, none⟩) 1 1] 79)) (LAll (kOnce 1) 2 ((v.alloc (.cells #[.int .i64 1, .int .i64 0, .int .i64 0, .int .i64 0, .int .u64 0] 44)).alloc (.cells #[.slice (some ⟨v.heap.size, 0, none⟩) 1 1] 79)) Exam.P0 (fun _ => 0) 9) := by
  have B0 : Below v.heap.size v ((v.alloc (.cells #[.int .i64 1, .int .i64 0, .int .i64 0, .int .i64 0, .int .u64 0] 44)).alloc (.cells #[.slice (some ⟨v.heap.size, 0, none⟩) 1 1] 79)) := ((Below.refl _ v).alloc (Nat.le_refl _) _).alloc (by simp) _
  have R1 := (row_arr v #[.int .i64 1, .int .i64 0, .int .i64 0, .int .i64 0, .int .u64 0] 44).alloc (.cells #[.slice (some ⟨v.heap.size, 0, none⟩) 1 1] 79)
  have R3 := row_arr (v.alloc (.cells #[.int .i64 1, .int .i64 0, .int .i64 0, .int .i64 0, .int .u64 0] 44)) #[.slice (some ⟨v.heap.size, 0, none⟩) 1 1] 79
  simp only [World.size_alloc] at R1 R3
  refine play_all (sh := ⟨0, 0, 0, 0, 0, 1⟩) (P := Exam.P0) (f := fun _ => 0) (most := 9) (want := 2) (by decide) (by decide) (by decide) ?_ (fun i _ => by constructor <;> decide) ?_ (by decide) ?_ (fun h _ j _ => by simp only [Exam.P0, Jb.wf]; decide)
  · exact (R.sees.below B0 (Nat.le_refl _)).mono (by simp; omega)
  · intro h hh
    have : h < 1 := hh
    match h, this with
    | 0, _ =>
      refine ⟨v.heap.size + 1, 0, some ⟨v.heap.size, 0, none⟩, 1, rfl, R3.lt, R3.cell (i := 0) (by simp), ?_⟩
      intro i hi
      refine ⟨v.heap.size, 0, rfl, R1.lt, fun q hq => ?_⟩
      have : i < 1 := hi
      match i, this, q, hq with
      | 0, _, 0, _ => exact R1.cell (i := 0) (by decide)
      | 0, _, 1, _ => exact R1.cell (i := 1) (by decide)
      | 0, _, 2, _ => exact R1.cell (i := 2) (by decide)
      | 0, _, 3, _ => exact R1.cell (i := 3) (by decide)
      | 0, _, 4, _ => exact R1.cell (i := 4) (by decide)
  · intro j hj
    exact absurd hj (Nat.not_lt_zero j)

set_option maxHeartbeats 4000000 in
theorem awake_any (w : World) : Calls Try.prog 29 #[] w fun e w' => e = .returned (.bool true) ∧ Below w.heap.size w w' := by
  have FR := hide (fun w' : World => fresh_ok w' ⟨0, 0, 0, 0, 0, 1⟩ (by decide) (by decide) (want := 2) (by decide))
  have EX := hide exam_play
  simp only [Shp.val] at FR EX
  obtain ⟨W0, hW0⟩ : ∃ W0, w.alloc (.cells #[.int .i64 0, .int .i64 0, .int .i64 0, .int .i64 0, .int .i64 0, .int .i64 1] 23) = W0 := ⟨_, rfl⟩
  have b0 : Below w.heap.size w W0 := by rw [← hW0]; exact (Below.refl _ w).alloc (Nat.le_refl _) _
  have R0 : W0.rowIs w.heap.size 23 6 (fun i => (#[Value.int .i64 0, .int .i64 0, .int .i64 0, .int .i64 0, .int .i64 0, .int .i64 1]).getD i undef) := by rw [← hW0]; exact row_arr w _ _
  have keep : Hid (∀ w' : World, Below W0.heap.size W0 w' → Below w.heap.size w w' ∧ w.heap.size < w'.heap.size ∧ w'.cell? ⟨w.heap.size, 0, none⟩ = some (.int .i64 0) ∧ w'.cell? ⟨w.heap.size, 1, none⟩ = some (.int .i64 0) ∧ w'.cell? ⟨w.heap.size, 2, none⟩ = some (.int .i64 0) ∧ w'.cell? ⟨w.heap.size, 3, none⟩ = some (.int .i64 0) ∧ w'.cell? ⟨w.heap.size, 4, none⟩ = some (.int .i64 0) ∧ w'.cell? ⟨w.heap.size, 5, none⟩ = some (.int .i64 1)) := fun w' hb => by
    have r := R0.of_block (hb.block w.heap.size R0.lt)
    exact ⟨b0.trans (hb.mono b0.size), r.lt, r.cell (i := 0) (by decide), r.cell (i := 1) (by decide), r.cell (i := 2) (by decide), r.cell (i := 3) (by decide), r.cell (i := 4) (by decide), r.cell (i := 5) (by decide)⟩
  obtain ⟨_, l0, c0, c1, c2, c3, c4, c5⟩ := keep.out W0 (Below.refl _ _)
  clear b0 R0
  go_enter Try.func29, Try.ntmps29
  go_wp2_with fail
  refine (FR.out _).mono ?_
  rintro e w2 ⟨g, rfl, hr2, hg2, hgr⟩
  have B2 := hide (below_of_grown_none hgr W0.heap.size (Nat.le_refl _))
  have HR2 := hide hr2
  clear hgr hr2 c0 c1 c2 c3 c4 c5 hW0
  obtain ⟨bw2, l2, c0, c1, c2, c3, c4, c5⟩ := keep.out w2 B2.out
  have HB2 := hide bw2
  clear bw2
  go_wp2_with fail
  refine (EX.out w2 g HR2.out HR2.out.lt).mono ?_
  rintro e w3 ⟨hb, hcase⟩
  have BX : Below w2.heap.size w2 ((w2.alloc (.cells #[.int .i64 1, .int .i64 0, .int .i64 0, .int .i64 0, .int .u64 0] 44)).alloc (.cells #[.slice (some ⟨w2.heap.size, 0, none⟩) 1 1] 79)) := ((Below.refl w2.heap.size w2).alloc (Nat.le_refl _) _).alloc (by simp) _
  have BB := hide (HB2.out.trans ((BX.trans (hb.mono (by simp; omega))).mono (by omega)))
  clear hb BX c0 c1 c2 c3 c4 c5
  rcases hcase with ⟨er, hle, rfl⟩ | ⟨_, hF, hok, v, rfl, blk, c, g', sv, rfl, H, G, GS, R, hg, hne⟩
  · refine absurd ⟨?_, ?_⟩ (show ¬ (Fine Exam.P0 9 ∧ AllOk (kOnce 1) Exam.P0) from by rcases hle with ⟨h, _⟩ | ⟨_, h⟩; exact absurd rfl h; exact h.not)
    · refine ⟨by decide, ?_, by decide, by decide, by decide⟩
      rintro (h | ⟨h, _, h2⟩)
      · exact absurd h (by decide)
      · have h3 : 256 < 1 := h2
        omega
    · intro h hh j hj
      have : h < 1 := hh
      match h, this with
      | 0, _ =>
        have : j < 1 := hj
        match j, this with
        | 0, _ => decide
  · have hst : runSt Exam.P0 (st0 (kOnce 1) Exam.P0 (fun _ => 0)) (Int.toNat 9) = Exam.s3 := Exam.r9
    rw [hst] at G GS R ⊢
    rw [Exam.e3]
    obtain ⟨b, cap, rfl, hbl, _, hcs⟩ := grows_cell GS H (stepCells_length _ _) (by rw [Exam.k3]; decide)
    obtain ⟨A, eA, hA⟩ := G.answers
    have a0 := hA 0 (by decide)
    rw [Exam.d3] at a0
    obtain ⟨b', cap', eA0, hbl', _, hcs'⟩ := grows_cell a0 H (ansCells_length _ _) (by decide)
    have ac := hcs' _ _ (ansCells_get (Exam.s3.ans 0) 1 0 1 (by decide) (by decide))
    have ak := hcs' _ _ (ansCells_get (Exam.s3.ans 0) 1 0 0 (by decide) (by decide))
    simp only [Ans.cell, Exam.a3.1, Exam.a3.2] at ac ak
    have ah := H.cell eA (i := 0) (show 0 < 1 by decide)
    simp only [eA0] at ah
    have la := H.lt eA
    rw [Exam.k3]
    have n1 : Exam.P0.n = 2 := rfl
    have n2 : Exam.P0.nh = 1 := rfl
    rw [n1, n2]
    obtain ⟨ba, hba⟩ : ∃ ba, blk .answers = ba := ⟨_, rfl⟩
    rw [hba] at ah la ⊢
    simp only [Nat.zero_mul, Nat.zero_add] at ac ak
    clear H G GS R hne hcs hcs' hA a0 hok hst hF
    simp only [decide_true]
    go_wp2_with fail
    go_ret
    exact ⟨rfl, BB.out.alloc (by have := BB.out.size; omega) _⟩
end Once
end Go.Proofs.Ytdflicgjkleonaa

namespace Go.Proofs.Ytdflicgjkleonaa
open Go.RowKit
namespace Once

abbrev rn (r : Nat) (P : Par) (m : Nat) : St (kOnce r) := runSt P (st0 (kOnce r) P (fun _ => 0)) m
abbrev IO (r : Nat) (P : Par) (i : Nat) (win : Nat → Option (Nat × Nat)) : Prop := Io r P (rn r P i).f (rn r P i).done (rn r P i).cur (rn r P i).ans win

theorem one_on {r : Nat} {P : Par} (hn : P.n = 2 * r) (hok : ∀ h, h < P.nh → ∀ j, j < P.jn h → oerr r (P.jb h j) = 0) {i h : Nat} (hh : h < P.nh) (hg : (rn r P i).done h < P.jn h) (e : rn r P (i + 1) = stepSt P (rn r P i) h) {win : Nat → Option (Nat × Nat)} (I : IO r P i win) :
    ∃ (a : Nat) (en : Bool) (win' : Nat → Option (Nat × Nat)), a < r ∧ (P.jb h ((rn r P i).done h)).a = (a : Int) ∧ (1 ≤ (P.jb h ((rn r P i).done h)).kind ∧ (P.jb h ((rn r P i).done h)).kind ≤ 3) ∧ (stepOf P.n (rn r P i).f (oreq r ((rn r P i).cur h))).hand = (h : Int) ∧
      Ko r (rn r P i).f a (P.jb h ((rn r P i).done h)) (stepOf P.n (rn r P i).f (oreq r ((rn r P i).cur h))) en (rn r P (i + 1)).f ∧ IO r P (i + 1) win' ∧ (rn r P (i + 1)).done = (if en = true then upd (rn r P i).done h ((rn r P i).done h + 1) else (rn r P i).done) := by
  obtain ⟨a, win', a1, a2, a3, a4, K, I'⟩ := I.step hn hok hh hg
  refine ⟨a, oends ((rn r P i).cur h) (stepOf P.n (rn r P i).f (oreq r ((rn r P i).cur h))), win', a1, a2, a3, a4, ?_, ?_, ?_⟩
  · rw [e]; exact K
  · show Io r P (rn r P (i + 1)).f (rn r P (i + 1)).done (rn r P (i + 1)).cur (rn r P (i + 1)).ans win'
    rw [e]; exact I'
  · rw [e]; rfl

theorem law_step {r : Nat} {P : Par} (hn : P.n = 2 * r) (hok : ∀ h, h < P.nh → ∀ j, j < P.jn h → oerr r (P.jb h j) = 0) {m i : Nat} (hi : i < (rn r P m).k) {win : Nat → Option (Nat × Nat)} (I : IO r P i win) :
    ∃ (h a : Nat) (en : Bool) (win' : Nat → Option (Nat × Nat)), h < P.nh ∧ (rn r P i).done h < P.jn h ∧ a < r ∧ (P.jb h ((rn r P i).done h)).a = (a : Int) ∧ (1 ≤ (P.jb h ((rn r P i).done h)).kind ∧ (P.jb h ((rn r P i).done h)).kind ≤ 3) ∧ ((rn r P m).s i).hand = (h : Int) ∧
      Ko r (rn r P i).f a (P.jb h ((rn r P i).done h)) ((rn r P m).s i) en (rn r P (i + 1)).f ∧ IO r P (i + 1) win' ∧ (rn r P (i + 1)).done = (if en = true then upd (rn r P i).done h ((rn r P i).done h + 1) else (rn r P i).done) := by
  obtain ⟨hk, ⟨h, _, hh, hg, e⟩, es⟩ := hist P (st0 (kOnce r) P (fun _ => 0)) rfl m i hi
  have ex : (rn r P m).s i = stepOf P.n (rn r P i).f (oreq r ((rn r P i).cur h)) := by
    show (runSt P (st0 (kOnce r) P (fun _ => 0)) m).s i = _
    rw [es, e]
    show upd (runSt P (st0 (kOnce r) P (fun _ => 0)) i).s (runSt P (st0 (kOnce r) P (fun _ => 0)) i).k _ i = _
    rw [hk, upd_same]
    rfl
  obtain ⟨a, en, win', a1, a2, a3, a4, K, I', D⟩ := one_on hn hok hh hg e I
  rw [ex]
  exact ⟨h, a, en, win', hh, hg, a1, a2, a3, a4, K, I', D⟩

theorem run_io {r : Nat} {P : Par} (hn : P.n = 2 * r) (hok : ∀ h, h < P.nh → ∀ j, j < P.jn h → oerr r (P.jb h j) = 0) : ∀ m, ∃ win, IO r P m win
  | 0 => ⟨_, Io.start⟩
  | m + 1 => by
    obtain ⟨win, I⟩ := run_io hn hok m
    rcases run_succ_cases P (st0 (kOnce r) P (fun _ => 0)) rfl m with ⟨e, _⟩ | ⟨h, _, hh, hd, _, e⟩
    · have e' : rn r P (m + 1) = rn r P m := e
      exact ⟨win, by show Io r P (rn r P (m + 1)).f (rn r P (m + 1)).done (rn r P (m + 1)).cur (rn r P (m + 1)).ans win; rw [e']; exact I⟩
    · obtain ⟨a, en, win', _, _, _, _, _, I', _⟩ := one_on hn hok hh hd e I
      exact ⟨win', I'⟩

/-- What a run from fresh words told. -/
def SO (r : Nat) (P : Par) (m0 : Nat) (er : Int) (sa : Option Addr) (k : Nat) (wa : Option Addr) (n : Nat) (en : Bool) (aa : Option Addr) (m : Nat) (w' : World) : Prop :=
  er = 0 → P.nh ≤ 8 ∧ (∀ h, h < P.nh → P.jn h ≤ 256) ∧ (∀ h, h < P.nh → (rn r P m0).done h ≤ P.jn h) ∧ (∀ h, h < P.nh → ∀ j, j < P.jn h → oerr r (P.jb h j) = 0) ∧ k = (rn r P m0).k ∧ m = P.nh ∧ n = P.n ∧ en = decide (cnt ((rn r P m0).going P) P.nh = 0) ∧ SeesS w' w'.heap.size sa (rn r P m0).k (rn r P m0).s ∧ Sees w' w'.heap.size wa P.n (rn r P m0).f ∧ SeesA w' w'.heap.size aa P.nh (rn r P m0).done (rn r P m0).ans

theorem play_so {w : World} {ao aoh aos : Option Addr} {cap caph caps : Nat} {P : Par} {most : Int} {sh : Shp} {r : Nat} (hr : sh.f = (r : Int)) (h1 : 1 ≤ r) (h2 : r ≤ 64) (hn : P.n = 2 * r) (S : Sees w w.heap.size ao P.n (fun _ => 0)) (SH : SeesH w w.heap.size aoh P.nh P.jn P.jb) (hn63 : P.nh ≤ 9223372036854775807) (SI : SeesI w w.heap.size aos P.ns P.sched) (hjw : ∀ h, h < P.nh → ∀ j, j < P.jn h → (P.jb h j).wf) :
    Calls Try.prog 32 #[sh.val, .slice ao P.n cap, .slice aoh P.nh caph, .slice aos P.ns caps, .int .i64 most] w fun e w' => Below w.heap.size w w' ∧ ∃ sa k sc wa n wc en aa m ac er, e = .returned (tv3 sa k sc wa n wc en aa m ac er) ∧ SO r P most.toNat er sa k wa n en aa m w' := by
  refine (play_all (want := P.n) (f := fun _ => 0) (by omega) (by omega) (by rw [hr]; omega) S (fun i _ => ⟨Int.le_refl 0, by show (0 : Int) ≤ 18446744073709551615; decide⟩) SH hn63 SI hjw).mono fun e w' h => ?_
  refine ⟨h.1, ?_⟩
  rcases h.2 with ⟨er, hle, he⟩ | ⟨hn', hF, hok, v, he, hT⟩
  · refine ⟨none, 0, 0, none, 0, 0, false, none, 0, 0, er, he, fun h0 => ?_⟩
    rcases hle with ⟨_, rfl⟩ | ⟨_, h⟩
    · exact absurd h0 (by decide)
    · exact absurd h0 h.ne
  · rw [hr] at hok hT
    obtain ⟨blk, c, g', sv, rfl, H, G, GS, R, hg, hne⟩ := hT
    obtain ⟨sa, sc, rfl⟩ := GS.isSlice'
    refine ⟨sa, _, sc, _, _, _, _, some ⟨blk .answers, 0, none⟩, P.nh, _, 0, he, fun _ => ⟨?_, fun h hh => G.jobs h hh, fun h hh => G.doneLe h hh, fun h hh j hj => hok h hh j hj, rfl, rfl, rfl, rfl, GS.seesS H, R.sees, seesA_of G.answers H⟩⟩
    rcases Nat.lt_or_ge 8 P.nh with l | l
    · exact absurd (.inl l) hF.2.1
    · exact l

/-- All have ended: each hand has done its jobs. -/
theorem all_done {r : Nat} {P : Par} {m : Nat} (hc : cnt ((rn r P m).going P) P.nh = 0) (hle : ∀ h, h < P.nh → (rn r P m).done h ≤ P.jn h) {h : Nat} (hh : h < P.nh) : (rn r P m).done h = P.jn h := by
  have := cnt_zero hc h hh
  have hl := hle h hh
  simp only [St.going, decide_eq_false_iff_not] at this
  omega

/-- Ahead of job n of hand i. -/
def Bef (i n h j : Nat) : Prop := h < i ∨ (h = i ∧ j < n)
/-- What the law has counted of key k, up to job n of hand i. -/
structure Sc (P : Par) (wk : Option (Nat × Nat)) (k i n q wv cv : Nat) : Prop where
  no : q = 0 → ∀ h j, Bef i n h j → j < P.jn h → (P.jb h j).a = (k : Int) → (P.jb h j).kind = 3
  yes : ¬ q = 0 → ∃ h j, Bef i n h j ∧ h < P.nh ∧ j < P.jn h ∧ (P.jb h j).a = (k : Int) ∧ (P.jb h j).kind ≠ 3
  won : (wv = 1 ∧ ∃ p : Nat × Nat, wk = some p ∧ Bef i n p.1 p.2 ∧ cv = (if (P.jb p.1 p.2).kind = 1 then 1 else 0)) ∨ (wv = 0 ∧ cv = 0 ∧ ∀ p : Nat × Nat, wk = some p → ¬ Bef i n p.1 p.2)
  le : q ≤ 256 * i + n
section
variable {P : Par} {wk : Option (Nat × Nat)} {k i n q wv cv : Nat}
theorem bef_step {i n h j : Nat} : Bef i (n + 1) h j ↔ Bef i n h j ∨ (h = i ∧ j = n) := by unfold Bef; omega
theorem Sc.start : Sc P wk k 0 0 0 0 0 := ⟨fun _ h j b => by unfold Bef at b; omega, fun h => absurd rfl h, .inr ⟨rfl, rfl, fun p _ b => by unfold Bef at b; omega⟩, by omega⟩
theorem Sc.hand (S : Sc P wk k i (P.jn i) q wv cv) (hj : P.jn i ≤ 256) (hp : ∀ p : Nat × Nat, wk = some p → p.2 < P.jn p.1) : Sc P wk k (i + 1) 0 q wv cv := by
  have up : ∀ h j, Bef i (P.jn i) h j → Bef (i + 1) 0 h j := fun h j b => by unfold Bef at *; omega
  have dn : ∀ h j, Bef (i + 1) 0 h j → j < P.jn h → Bef i (P.jn i) h j := fun h j b hjj => by
    unfold Bef at *
    by_cases e : h = i
    · subst e; exact .inr ⟨rfl, hjj⟩
    · omega
  refine ⟨fun z h j b hj => S.no z h j (dn h j b hj) hj, fun z => ?_, ?_, by have := S.le; omega⟩
  · obtain ⟨h, j, b, r⟩ := S.yes z
    exact ⟨h, j, up h j b, r⟩
  · rcases S.won with ⟨w1, p, p1, p2, p3⟩ | ⟨w1, c1, w2⟩
    · exact .inl ⟨w1, p, p1, up _ _ p2, p3⟩
    · exact .inr ⟨w1, c1, fun p hp' b => w2 p hp' (dn _ _ b (hp p hp'))⟩
theorem Sc.skip (S : Sc P wk k i n q wv cv) (hs : (P.jb i n).a = (k : Int) → (P.jb i n).kind = 3) (hw : wk ≠ some (i, n)) : Sc P wk k i (n + 1) q wv cv := by
  refine ⟨fun z h j b hj ka => ?_, fun z => ?_, ?_, by have := S.le; omega⟩
  · rcases bef_step.1 b with b | ⟨rfl, rfl⟩
    · exact S.no z h j b hj ka
    · exact hs ka
  · obtain ⟨h, j, b, r⟩ := S.yes z
    exact ⟨h, j, bef_step.2 (.inl b), r⟩
  · rcases S.won with ⟨w1, p, p1, p2, p3⟩ | ⟨w1, c1, w2⟩
    · exact .inl ⟨w1, p, p1, bef_step.2 (.inl p2), p3⟩
    · refine .inr ⟨w1, c1, fun p hp' b => ?_⟩
      rcases bef_step.1 b with b | ⟨e1, e2⟩
      · exact w2 p hp' b
      · exact hw (by rw [hp']; congr 1; exact Prod.ext e1 e2)
theorem Sc.lose (S : Sc P wk k i n q wv cv) (hi : i < P.nh) (hn : n < P.jn i) (ka : (P.jb i n).a = (k : Int)) (kk : (P.jb i n).kind ≠ 3) (hw : wk ≠ some (i, n)) : Sc P wk k i (n + 1) (q + 1) wv cv := by
  refine ⟨fun z => absurd z (by omega), fun _ => ⟨i, n, bef_step.2 (.inr ⟨rfl, rfl⟩), hi, hn, ka, kk⟩, ?_, by have := S.le; omega⟩
  rcases S.won with ⟨w1, p, p1, p2, p3⟩ | ⟨w1, c1, w2⟩
  · exact .inl ⟨w1, p, p1, bef_step.2 (.inl p2), p3⟩
  · refine .inr ⟨w1, c1, fun p hp' b => ?_⟩
    rcases bef_step.1 b with b | ⟨e1, e2⟩
    · exact w2 p hp' b
    · exact hw (by rw [hp']; congr 1; exact Prod.ext e1 e2)
theorem Sc.wins (S : Sc P wk k i n q wv cv) (hi : i < P.nh) (hn : n < P.jn i) (ka : (P.jb i n).a = (k : Int)) (kk : (P.jb i n).kind ≠ 3) (hw : wk = some (i, n)) : wv = 0 ∧ cv = 0 ∧ Sc P wk k i (n + 1) (q + 1) 1 (if (P.jb i n).kind = 1 then 1 else 0) := by
  have nb : ¬ Bef i n i n := by unfold Bef; omega
  rcases S.won with ⟨w1, p, p1, p2, p3⟩ | ⟨w1, c1, w2⟩
  · rw [hw] at p1
    cases p1
    exact absurd p2 nb
  · exact ⟨w1, c1, fun z => absurd z (by omega), fun _ => ⟨i, n, bef_step.2 (.inr ⟨rfl, rfl⟩), hi, hn, ka, kk⟩, .inl ⟨rfl, (i, n), hw, bef_step.2 (.inr ⟨rfl, rfl⟩), rfl⟩, by have := S.le; omega⟩
/-- All is counted: what the key's words are. -/
theorem Sc.last {r : Nat} {f : Nat → Int} {done : Nat → Nat} {cur : Nat → OnS} {ans : Nat → Nat → Ans} {win : Nat → Option (Nat × Nat)} (S : Sc P (win k) k P.nh 0 q wv cv) (I : Io r P f done cur ans win) (hd : ∀ h, h < P.nh → done h = P.jn h) (hk : k < r) : (q = 0 ∧ wv = 0 ∧ cv = 0 ∧ f k = 0 ∧ f (r + k) = 0) ∨ (¬ q = 0 ∧ wv = 1 ∧ f k = 2 ∧ f (r + k) = (cv : Int)) := by
  have all : ∀ h j, h < P.nh → Bef P.nh 0 h j := fun h j hh => .inl hh
  by_cases z : q = 0
  · refine .inl ⟨z, ?_⟩
    rcases I.w3 k hk with f0 | f1 | f2
    · have hw := I.nowin k hk (by omega)
      rcases S.won with ⟨w1, p, p1, _⟩ | ⟨w1, c1, _⟩
      · rw [hw] at p1; cases p1
      · exact ⟨w1, c1, f0, (I.zero k hk f0).1⟩
    · obtain ⟨h, hh, hdh, _⟩ := I.one k hk f1
      rw [hd h hh] at hdh
      exact absurd hdh (Nat.lt_irrefl _)
    · obtain ⟨p, p1, p2, p3, p4, p5, _⟩ := I.two k hk f2
      exact absurd (S.no z p.1 p.2 (all _ _ p2) (by rw [← hd p.1 p2]; exact p3) p4) p5
  · refine .inr ⟨z, ?_⟩
    obtain ⟨h, j, _, hh, hj, ka, kk⟩ := S.yes z
    have t1 := (I.told h hh j (by rw [hd h hh]; exact hj) kk k ka).1
    obtain ⟨p, p1, p2, p3, p4, p5, p6, _⟩ := I.two k hk t1
    rcases S.won with ⟨w1, p', p1', _, c1⟩ | ⟨_, _, w2⟩
    · rw [p1] at p1'
      cases p1'
      refine ⟨w1, t1, ?_⟩
      rw [p6, c1]
      split <;> rfl
    · exact absurd (all _ _ p2) (w2 p p1)
end
end Once
end Go.Proofs.Ytdflicgjkleonaa
