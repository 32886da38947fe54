/-
  Lemmas: TallyNL.
-/
import Derived.Test.YtpghfebnggoacaaTp23
import Derived.Test.YtpghfebnggoacaaNl01
import Derived.Test.YtpghfebnggoacaaTp29
/-
  TallyNothingLost: the law's own walk.
-/
namespace Go.Proofs.Ytpghfebnggoacaa
open Go.RowKit
set_option linter.unusedVariables false
set_option linter.unusedSimpArgs false
set_option linter.unnecessarySimpa false
set_option maxRecDepth 20000
namespace Tally

variable {w : World} {ao aoh aos : Option Addr} {cap caph caps : Nat} {P : Par} {f : Nat → Int} {most : Int} {sh : Shp}

/-- What a run that is sound tells. -/
def SoundB (sh : Shp) (P : Par) (f : Nat → Int) (most : Int) (base : Nat) (er : Int) (wa : Option Addr) (n wc : Nat) (en : Bool) (w' : World) : Prop :=
  ¬ er = 0 ∨ (er = 0 ∧ (1 ≤ sh.f ∧ sh.f ≤ 64) ∧ (P.n : Int) = 2 * sh.f ∧ Fine P most ∧ AllOk (kTally sh.f) P ∧ n = P.n ∧ wc = P.n ∧ ∃ g, wa = some ⟨g, 0, none⟩ ∧ base ≤ g ∧ IsRow w' g P.n P.n (runSt P (st0 (kTally sh.f) P f) most.toNat).f ∧ en = decide (cnt ((runSt P (st0 (kTally sh.f) P f) most.toNat).going P) P.nh = 0))

theorem SoundB.touch {base base' b : Nat} {er : Int} {wa : Option Addr} {n wc : Nat} {en : Bool} {w1 w2 : World} (h : SoundB sh P f most base er wa n wc en w1) (ht : Touch w1 w2 (fun k => k = b)) (hb : b < base) (hbb : base' ≤ base) : SoundB sh P f most base' er wa n wc en w2 := by
  rcases h with h | ⟨h1, h2, h3, h4, h5, h6, h7, g, h8, h9, h10, h11⟩
  · exact .inl h
  · exact .inr ⟨h1, h2, h3, h4, h5, h6, h7, g, h8, by omega, h10.block (ht.block g h10.lt (by omega)), h11⟩

/-- The tally's Play, told so. -/
theorem play_sound (S : Sees w w.heap.size ao P.n f) (hf : ∀ i, i < P.n → 0 ≤ f i ∧ f i ≤ 18446744073709551615) (SH : SeesH w w.heap.size aoh P.nh P.jn P.jb) (hn63 : P.nh ≤ 9223372036854775807) (SI : SeesI w w.heap.size aos P.ns P.sched) (hjw : ∀ h, h < P.nh → ∀ j, j < P.jn h → (P.jb h j).wf) :
    Calls Try.prog 27 #[sh.val, .slice ao P.n cap, .slice aoh P.nh caph, .slice aos P.ns caps, .int .i64 most] w fun e w' => Below w.heap.size w w' ∧ ∃ sa k sc wa n wc en aa m ac er, e = .returned (tv3 sa k sc wa n wc en aa m ac er) ∧ SoundB sh P f most w.heap.size er wa n wc en w' := by
  by_cases hr : sh.f < 1 ∨ 64 < sh.f
  · exact (play_shape hr).mono fun e w' ⟨he, hb⟩ => ⟨hb, none, 0, 0, none, 0, 0, false, none, 0, 0, 120, he, .inl (by decide)⟩
  · have h1 : 1 ≤ sh.f := by omega
    have h2 : sh.f ≤ 64 := by omega
    obtain ⟨want, hwant⟩ : ∃ want : Nat, (want : Int) = 2 * sh.f := ⟨(2 * sh.f).toNat, by omega⟩
    refine (play_all h1 h2 hwant S hf SH hn63 SI hjw).mono fun e w' h => ?_
    refine ⟨h.1, ?_⟩
    rcases h.2 with ⟨er, hle, he⟩ | ⟨hn, hF, hok, v, he, blk, c, g, sv, hv, H, G, GS, R, hg, hne⟩
    · refine ⟨none, 0, 0, none, 0, 0, false, none, 0, 0, er, he, .inl ?_⟩
      rcases hle with ⟨_, rfl⟩ | ⟨_, h⟩
      · decide
      · exact h.ne
    · obtain ⟨sa, sc, rfl⟩ := GS.isSlice
      subst hv
      exact ⟨_, _, _, _, _, _, _, _, _, _, _, he, .inr ⟨rfl, ⟨h1, h2⟩, by rw [hn]; exact hwant, hF, hok, rfl, rfl, g, rfl, hg, R, rfl⟩⟩

set_option maxHeartbeats 8000000 in
theorem sound_any (S : Sees w w.heap.size ao P.n f) (hf : ∀ i, i < P.n → 0 ≤ f i ∧ f i ≤ 18446744073709551615) (SH : SeesH w w.heap.size aoh P.nh P.jn P.jb) (hn63 : P.nh ≤ 9223372036854775807) (SI : SeesI w w.heap.size aos P.ns P.sched) (hjw : ∀ h, h < P.nh → ∀ j, j < P.jn h → (P.jb h j).wf) :
    Calls Try.prog 38 #[.agg #[.int .i64 sh.a, .int .i64 sh.b, .int .i64 sh.c, .int .i64 sh.d, .int .i64 sh.e, .int .i64 sh.f, .slice ao P.n cap, .slice aoh P.nh caph, .slice aos P.ns caps, .int .i64 most]] w fun e w' => Below w.heap.size w w' ∧ ∃ sa k sc wa n wc en aa m ac er, e = .returned (.tuple #[.agg #[.slice sa k sc, .slice wa n wc, .bool en], .slice aa m ac, .bool (er == 0)]) ∧ SoundB sh P f most w.heap.size er wa n wc en w' := by
  have PL := hide (fun (w1 : World) (B1 : Below w.heap.size w w1) => play_sound (sh := sh) (most := most) (cap := cap) (caph := caph) (caps := caps) ((S.below B1 (Nat.le_refl _)).mono B1.size) hf ((SH.below B1 (Nat.le_refl _)).up B1.size) hn63 ((SI.below B1 (Nat.le_refl _)).up B1.size) hjw)
  have UP := hide (fun (base base' b : Nat) er wa n wc en (w1 w2 : World) => @SoundB.touch P f most sh base base' b er wa n wc en w1 w2)
  obtain ⟨SB, hSB⟩ : ∃ SB, SoundB sh P f most = SB := ⟨_, rfl⟩
  rw [hSB] at PL UP ⊢
  clear hSB
  obtain ⟨s0, s1, s2, s3, s4, s5⟩ := sh
  simp only [Shp.val] at PL ⊢
  clear S hf SH SI hjw
  obtain ⟨W0, hW0⟩ : ∃ W0, (w.alloc (.cells #[.int .i64 s0, .int .i64 s1, .int .i64 s2, .int .i64 s3, .int .i64 s4, .int .i64 s5, .slice ao P.n cap, .slice aoh P.nh caph, .slice aos P.ns caps, .int .i64 most] 76)).alloc (.cells #[.slice none 0 0, .slice none 0 0, .bool false] 32) = W0 := ⟨_, rfl⟩
  have b0 : Below w.heap.size w W0 := by rw [← hW0]; exact ((Below.refl _ w).alloc (Nat.le_refl _) _).alloc (by simp) _
  have sz0 : W0.heap.size = w.heap.size + 2 := by rw [← hW0]; simp
  have R0 : W0.rowIs w.heap.size 76 10 (lrow [.int .i64 s0, .int .i64 s1, .int .i64 s2, .int .i64 s3, .int .i64 s4, .int .i64 s5, .slice ao P.n cap, .slice aoh P.nh caph, .slice aos P.ns caps, .int .i64 most]) := by rw [← hW0]; exact (rowL_alloc w [.int .i64 s0, .int .i64 s1, .int .i64 s2, .int .i64 s3, .int .i64 s4, .int .i64 s5, .slice ao P.n cap, .slice aoh P.nh caph, .slice aos P.ns caps, .int .i64 most] _ rfl).alloc _
  have RT : W0.rowIs (w.heap.size + 1) 32 3 (lrow [.slice none 0 0, .slice none 0 0, .bool false]) := by
    rw [← hW0]
    have := rowL_alloc (w.alloc (.cells #[.int .i64 s0, .int .i64 s1, .int .i64 s2, .int .i64 s3, .int .i64 s4, .int .i64 s5, .slice ao P.n cap, .slice aoh P.nh caph, .slice aos P.ns caps, .int .i64 most] 76)) [.slice none 0 0, .slice none 0 0, .bool false] 32 (n := 3) rfl
    rwa [World.size_alloc] at this
  have c0 : W0.cell? ⟨w.heap.size, 0, none⟩ = some (.int .i64 s0) := R0.cell (i := 0) (by omega)
  have c1 : W0.cell? ⟨w.heap.size, 1, none⟩ = some (.int .i64 s1) := R0.cell (i := 1) (by omega)
  have c2 : W0.cell? ⟨w.heap.size, 2, none⟩ = some (.int .i64 s2) := R0.cell (i := 2) (by omega)
  have c3 : W0.cell? ⟨w.heap.size, 3, none⟩ = some (.int .i64 s3) := R0.cell (i := 3) (by omega)
  have c4 : W0.cell? ⟨w.heap.size, 4, none⟩ = some (.int .i64 s4) := R0.cell (i := 4) (by omega)
  have c5 : W0.cell? ⟨w.heap.size, 5, none⟩ = some (.int .i64 s5) := R0.cell (i := 5) (by omega)
  have c6 : W0.cell? ⟨w.heap.size, 6, none⟩ = some (.slice ao P.n cap) := R0.cell (i := 6) (by omega)
  have c7 : W0.cell? ⟨w.heap.size, 7, none⟩ = some (.slice aoh P.nh caph) := R0.cell (i := 7) (by omega)
  have c8 : W0.cell? ⟨w.heap.size, 8, none⟩ = some (.slice aos P.ns caps) := R0.cell (i := 8) (by omega)
  have c9 : W0.cell? ⟨w.heap.size, 9, none⟩ = some (.int .i64 most) := R0.cell (i := 9) (by omega)
  have HRT := hide RT
  have HB0 := hide b0
  clear R0 RT b0
  go_enter Try.func38, Try.ntmps38
  go_wp2_with fail
  refine (PL.out W0 HB0.out).mono ?_
  rintro e w1 ⟨hb1, sa, k, sc, wa, n, wc, en, aa, m, ac, er, rfl, hS⟩
  have hs1 := hb1.size
  have RT1 := HRT.out.of_block (hb1.block (w.heap.size + 1) (by omega))
  obtain ⟨W2, hW2⟩ : ∃ W2, w1.alloc (.cells #[.slice sa k sc, .slice wa n wc, .bool en] 32) = W2 := ⟨_, rfl⟩
  have R2 : W2.rowIs w1.heap.size 32 3 (lrow [.slice sa k sc, .slice wa n wc, .bool en]) := by rw [← hW2]; exact rowL_alloc w1 [.slice sa k sc, .slice wa n wc, .bool en] _ rfl
  have RT2 : W2.rowIs (w.heap.size + 1) 32 3 (lrow [.slice none 0 0, .slice none 0 0, .bool false]) := by rw [← hW2]; exact RT1.alloc _
  have B2 : Below w.heap.size w W2 := by rw [← hW2]; exact (HB0.out.trans (hb1.mono (by omega))).alloc (by omega) _
  have T2 : Touch w1 W2 (fun k => k = w.heap.size + 1) := by rw [← hW2]; exact (Touch.refl w1 _).alloc _
  have sz2 : W2.heap.size = w1.heap.size + 1 := by rw [← hW2]; simp
  have d0 : W2.cell? ⟨w1.heap.size, 0, none⟩ = some (.slice sa k sc) := R2.cell (i := 0) (by omega)
  have d1 : W2.cell? ⟨w1.heap.size, 1, none⟩ = some (.slice wa n wc) := R2.cell (i := 1) (by omega)
  have d2 : W2.cell? ⟨w1.heap.size, 2, none⟩ = some (.bool en) := R2.cell (i := 2) (by omega)
  have z0 : W2.cell? ⟨w.heap.size + 1, 0, none⟩ = some (.slice none 0 0) := RT2.cell (i := 0) (by omega)
  have z1 : W2.cell? ⟨w.heap.size + 1, 1, none⟩ = some (.slice none 0 0) := RT2.cell (i := 1) (by omega)
  have z2 : W2.cell? ⟨w.heap.size + 1, 2, none⟩ = some (.bool false) := RT2.cell (i := 2) (by omega)
  have y0 := RT2.frozen 0
  have y1 := RT2.frozen 1
  have y2 := RT2.frozen 2
  have tt := touch3 W2 (w.heap.size + 1) (.slice sa k sc) (.slice wa n wc) (.bool en)
  have FIN := hide (And.intro (B2.trans (tt.below (fun k hk => by omega) (by omega))) (UP.out W0.heap.size w.heap.size (w.heap.size + 1) er wa n wc en w1 _ hS (T2.trans tt) (by omega) (by omega)))
  clear hb1 hS RT1 R2 RT2 B2 T2 tt c0 c1 c2 c3 c4 c5 c6 c7 c8 c9 hW0
  unfold tv3
  go_wp2_with fail
  go_light
  refine bodyPost_ret (v := .tuple #[.agg #[.slice sa k sc, .slice wa n wc, .bool en], .slice aa m ac, .bool (er == 0)]) ?_ rfl ⟨FIN.out.1, sa, k, sc, wa, n, wc, en, aa, m, ac, er, rfl, FIN.out.2⟩
  simp [results, Try.results38, go_sem, *]

theorem done_le {K : Kd} (P : Par) (f : Nat → Int) : ∀ m i, i < P.nh → (runSt P (st0 K P f) m).done i ≤ P.jn i
  | 0, i, _ => Nat.zero_le _
  | m + 1, i, hi => by
    have ih := done_le (K := K) P f m
    rcases turn_ok P (runSt P (st0 K P f) m) with ⟨ht, _⟩ | ⟨h, ht, hh, hd⟩
    · have := runSt_stuck (P := P) (st := st0 K P f) (m := m) (by rw [ht]; decide) 1
      rw [this]; exact ih i hi
    · rw [runSt_step ht]
      show (if _ then upd (runSt P (st0 K P f) m).done h ((runSt P (st0 K P f) m).done h + 1) else (runSt P (st0 K P f) m).done) i ≤ P.jn i
      split
      · by_cases e : i = h
        · subst e; rw [upd_same]; omega
        · rw [upd_other _ _ e]; exact ih i hi
      · exact ih i hi
theorem all_done {room : Int} {m : Nat} (h : cnt ((runSt P (st0 (kTally room) P f) m).going P) P.nh = 0) : ∀ i, i < P.nh → P.jn i = (runSt P (st0 (kTally room) P f) m).done i := fun i hi => by
  have h1 := cnt_zero h i hi
  simp [St.going] at h1
  have h2 := done_le (K := kTally room) P f m i hi
  omega

set_option maxHeartbeats 8000000 in
theorem nothing_walk (S : Sees w w.heap.size ao P.n f) (hnil : ao = none → P.n = 0 ∧ cap = 0) (hf : ∀ i, i < P.n → 0 ≤ f i ∧ f i ≤ 18446744073709551615) (SH : SeesH w w.heap.size aoh P.nh P.jn P.jb) (hn63 : P.nh ≤ 9223372036854775807) (SI : SeesI w w.heap.size aos P.ns P.sched) (hjw : ∀ h, h < P.nh → ∀ j, j < P.jn h → (P.jb h j).wf) :
    Calls Try.prog 8 #[.agg #[.int .i64 sh.a, .int .i64 sh.b, .int .i64 sh.c, .int .i64 sh.d, .int .i64 sh.e, .int .i64 sh.f, .slice ao P.n cap, .slice aoh P.nh caph, .slice aos P.ns caps, .int .i64 most]] w fun e w' => e = .returned (.bool true) ∧ Below w.heap.size w w' := by
  have SN := hide (fun (w1 : World) (B1 : Below w.heap.size w w1) => sound_any (sh := sh) (most := most) (cap := cap) (caph := caph) (caps := caps) ((S.below B1 (Nat.le_refl _)).mono B1.size) hf ((SH.below B1 (Nat.le_refl _)).up B1.size) hn63 ((SI.below B1 (Nat.le_refl _)).up B1.size) hjw)
  have SU := hide (fun (w1 : World) (B1 : Below w.heap.size w w1) (hr : 1 ≤ sh.f ∧ sh.f ≤ 64) (hn : (P.n : Int) = 2 * sh.f) (hl : ¬ LongHands P.nh P.jn) (hok : AllOk (kTally sh.f) P) => summed_any (cap := cap) (caph := caph) (room := sh.f) ((S.below B1 (Nat.le_refl _)).mono B1.size) hnil hf ((SH.below B1 (Nat.le_refl _)).up B1.size) hr hn hl hok hjw)
  have NI := hide (fun (hr : 1 ≤ sh.f ∧ sh.f ≤ 64) (hn : (P.n : Int) = 2 * sh.f) (hok : AllOk (kTally sh.f) P) => ninv_run (f0 := f) hf hr hn hok hjw most.toNat)
  have HSB : Hid (∀ base er wa n wc en w', SoundB sh P f most base er wa n wc en w' → er = 0 → (1 ≤ sh.f ∧ sh.f ≤ 64) ∧ (P.n : Int) = 2 * sh.f ∧ Fine P most ∧ AllOk (kTally sh.f) P ∧ n = P.n ∧ wc = P.n ∧ ∃ g, wa = some ⟨g, 0, none⟩ ∧ base ≤ g ∧ IsRow w' g P.n P.n (runSt P (st0 (kTally sh.f) P f) most.toNat).f ∧ en = decide (cnt ((runSt P (st0 (kTally sh.f) P f) most.toNat).going P) P.nh = 0)) := fun base er wa n wc en w' h he => by
    rcases h with h | ⟨_, h⟩
    · exact absurd he h
    · exact h
  obtain ⟨SB, hSB⟩ : ∃ SB, SoundB sh P f most = SB := ⟨_, rfl⟩
  rw [hSB] at SN HSB
  clear hSB
  obtain ⟨s0, s1, s2, s3, s4, s5⟩ := sh
  simp only at SN SU NI HSB ⊢
  clear S hf SH SI hjw hnil
  obtain ⟨W0, hW0⟩ : ∃ W0, w.alloc (.cells #[.int .i64 s0, .int .i64 s1, .int .i64 s2, .int .i64 s3, .int .i64 s4, .int .i64 s5, .slice ao P.n cap, .slice aoh P.nh caph, .slice aos P.ns caps, .int .i64 most] 76) = W0 := ⟨_, rfl⟩
  have b0 : Below w.heap.size w W0 := by rw [← hW0]; exact (Below.refl _ w).alloc (Nat.le_refl _) _
  have R0 : W0.rowIs w.heap.size 76 10 (lrow [.int .i64 s0, .int .i64 s1, .int .i64 s2, .int .i64 s3, .int .i64 s4, .int .i64 s5, .slice ao P.n cap, .slice aoh P.nh caph, .slice aos P.ns caps, .int .i64 most]) := by rw [← hW0]; exact rowL_alloc w [.int .i64 s0, .int .i64 s1, .int .i64 s2, .int .i64 s3, .int .i64 s4, .int .i64 s5, .slice ao P.n cap, .slice aoh P.nh caph, .slice aos P.ns caps, .int .i64 most] _ rfl
  have keep : Hid (∀ w' : World, Below W0.heap.size W0 w' → Below w.heap.size w w' ∧ w.heap.size < w'.heap.size ∧ w'.cell? ⟨w.heap.size, 0, none⟩ = some (.int .i64 s0) ∧ w'.cell? ⟨w.heap.size, 1, none⟩ = some (.int .i64 s1) ∧ w'.cell? ⟨w.heap.size, 2, none⟩ = some (.int .i64 s2) ∧ w'.cell? ⟨w.heap.size, 3, none⟩ = some (.int .i64 s3) ∧ w'.cell? ⟨w.heap.size, 4, none⟩ = some (.int .i64 s4) ∧ w'.cell? ⟨w.heap.size, 5, none⟩ = some (.int .i64 s5) ∧
      w'.cell? ⟨w.heap.size, 6, none⟩ = some (.slice ao P.n cap) ∧ w'.cell? ⟨w.heap.size, 7, none⟩ = some (.slice aoh P.nh caph) ∧ w'.cell? ⟨w.heap.size, 8, none⟩ = some (.slice aos P.ns caps) ∧ w'.cell? ⟨w.heap.size, 9, none⟩ = some (.int .i64 most)) := fun w' hb => by
    have r := R0.of_block (hb.block w.heap.size R0.lt)
    exact ⟨b0.trans (hb.mono b0.size), r.lt, r.cell (i := 0) (by decide), r.cell (i := 1) (by decide), r.cell (i := 2) (by decide), r.cell (i := 3) (by decide), r.cell (i := 4) (by decide), r.cell (i := 5) (by decide), r.cell (i := 6) (by decide), r.cell (i := 7) (by decide), r.cell (i := 8) (by decide), r.cell (i := 9) (by decide)⟩
  have sz0 : W0.heap.size = w.heap.size + 1 := by rw [← hW0]; simp
  clear b0 R0
  go_enter Try.func8, Try.ntmps8
  go_wp2_with fail
  refine (alive_any W0).mono ?_
  rintro e w1 ⟨rfl, hb1⟩
  obtain ⟨bw1, l1, c0, c1, c2, c3, c4, c5, c6, c7, c8, c9⟩ := keep.out w1 hb1
  have HB1 := hide hb1
  have BW1 := hide bw1
  have hs1 := hb1.size
  clear hb1 bw1 hW0
  go_wp2_with fail
  refine (SN.out w1 BW1.out).mono ?_
  rintro e w2 ⟨hb2, sa, k, sc, wa, n, wc, en, aa, m, ac, er, rfl, hS⟩
  have hs2 := hb2.size
  have HS := hide hS
  obtain ⟨W3, hW3⟩ : ∃ W3, w2.alloc (.cells #[.slice sa k sc, .slice wa n wc, .bool en] 32) = W3 := ⟨_, rfl⟩
  have B23 : Below w2.heap.size w2 W3 := by rw [← hW3]; exact (Below.refl _ w2).alloc (Nat.le_refl _) _
  have B03 := (HB1.out.trans (hb2.mono hs1)).trans (B23.mono (Nat.le_trans hs1 hs2))
  have R3 : W3.rowIs w2.heap.size 32 3 (lrow [.slice sa k sc, .slice wa n wc, .bool en]) := by rw [← hW3]; exact rowL_alloc w2 [.slice sa k sc, .slice wa n wc, .bool en] _ rfl
  have hs3 : W3.heap.size = w2.heap.size + 1 := by rw [← hW3]; simp
  clear c0 c1 c2 c3 c4 c5 c6 c7 c8 c9 hb2 hS
  obtain ⟨bw3, l3, c0, c1, c2, c3, c4, c5, c6, c7, c8, c9⟩ := keep.out W3 B03
  have t1 : W3.cell? ⟨w2.heap.size, 1, none⟩ = some (.slice wa n wc) := R3.cell (i := 1) (by omega)
  have t2 : W3.cell? ⟨w2.heap.size, 2, none⟩ = some (.bool en) := R3.cell (i := 2) (by omega)
  have BW3 := hide bw3
  have HB23 := hide B23
  clear B23 B03 R3 bw3
  by_cases hE : er = 0
  · subst hE
    obtain ⟨hr, hn, hF, hok, rfl, rfl, g, rfl, hg, R, hen⟩ := HSB.out _ _ _ _ _ _ _ HS.out rfl
    have HR := hide R
    have HEN := hide hen
    have HOK := hide hok
    clear R hen hok
    simp only [show ((0 : Int) == 0) = true from rfl]
    cases en with
    | false =>
      have HW3 := hide hW3
      clear hW3 t1 t2 c0 c1 c2 c3 c4 c5 c6 c7 c8 c9
      go_wp2_with fail
      go_ret
      exact ⟨rfl, by rw [HW3.out]; exact BW3.out⟩
    | true =>
      have hall : cnt ((runSt P (st0 (kTally s5) P f) most.toNat).going P) P.nh = 0 := of_decide_eq_true HEN.out.symm
      have dn := hide (all_done hall)
      have SUMF := hide (fun (w1 : World) (B1 : Below w.heap.size w w1) => SU.out w1 B1 hr hn hF.2.1 HOK.out)
      have NIN := hide (NI.out hr hn HOK.out)
      have hnn : P.n ≤ 128 := by omega
      have R3 := hide (HR.out.block (HB23.out.block g HR.out.lt))
      have lt3 : w2.heap.size < W3.heap.size := by omega
      clear hall hF hr hn
      go_wp2_with fail
      clear hW3
      go_region_held (fun w' => w'.cell? ⟨w2.heap.size, 1, none⟩ = some (.slice (some ⟨g, 0, none⟩) P.n P.n) ∧ w'.cell? ⟨w.heap.size, 6, none⟩ = some (.slice ao P.n cap) ∧ w'.cell? ⟨w.heap.size, 5, none⟩ = some (.int .i64 s5) ∧ w'.cell? ⟨w.heap.size, 7, none⟩ = some (.slice aoh P.nh caph)) (go_keep)
        (first
          | (go_at_call 39; refine (SUMF.out _ BW3.out.drew).mono ?_; rintro e w4 ⟨g4, c4', F4, rfl, R4, S4, B4⟩; have HR4 := hide R4; have HS4 := hide S4; have HB4 := hide (show Below W3.heap.size W3 w4 from ⟨B4.os, B4.tape, B4.output, B4.size, B4.block⟩); have u1 := (B4.cell (p := ⟨w2.heap.size, 1, none⟩) (by show w2.heap.size < _; simp; omega)).trans t1; have u6 := (B4.cell (p := ⟨w.heap.size, 6, none⟩) (by show w.heap.size < _; simp; omega)).trans c6; have u5 := (B4.cell (p := ⟨w.heap.size, 5, none⟩) (by show w.heap.size < _; simp; omega)).trans c5; have u7 := (B4.cell (p := ⟨w.heap.size, 7, none⟩) (by show w.heap.size < _; simp; omega)).trans c7; clear R4 S4 B4)
          | (go_at_call 32; refine (same_words ((R3.out.sees.below HB4.out (Nat.le_refl _))) HR4.out.sees (fun i hi => (NIN.out.sum.congr dn.out).eq HS4.out i hi) (by omega)).mono ?_; rintro e w5 ⟨rfl, m5, hw5⟩; subst hw5))
      all_goals go_wp2_with fail
      all_goals go_ret
      all_goals exact ⟨rfl, below_drewN (BW3.out.trans (HB4.out.mono BW3.out.size)) _⟩
  · have hE' : (er == 0) = false := by simpa using hE
    go_wp2_with fail
    go_ret
    exact ⟨rfl, BW3.out⟩
end Tally
end Go.Proofs.Ytpghfebnggoacaa
