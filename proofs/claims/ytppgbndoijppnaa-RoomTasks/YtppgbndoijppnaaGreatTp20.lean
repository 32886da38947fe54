/-
  Lemmas: PlayG.
-/
import Derived.Test.YtppgbndoijppnaaGreatTp12
import Derived.Test.YtppgbndoijppnaaGreatTp18
import Derived.Test.YtppgbndoijppnaaGreatTp19
namespace Go.Proofs.YtppgbndoijppnaaGreat
set_option maxHeartbeats 8000000
open Go.RowKit
set_option linter.unusedVariables false
set_option linter.unusedSimpArgs false
set_option maxRecDepth 20000
section
namespace OfAny
variable {K : Kd} {mk : Value} {w : World} {ao aoh aos : Option Addr} {cap caph caps : Nat} {P : Par} {f : Nat → Int} {most : Int}
theorem play_words (hn : 4096 < P.n) :
  Calls Tryz.prog 51 #[.slice ao P.n cap, .slice aoh P.nh caph, .slice aos P.ns caps, .int .i64 most, mk] w fun e w' => e = .returned (errVal 1) ∧ Below w.heap.size w w' := by
 unfold errVal
 go_enter Tryz.func51, Tryz.ntmps51
 go_wp2_with (go_at_call 29; refine (new_long hn).mono ?_; rintro e w' ⟨rfl, hw⟩; obtain rfl := hw.symm)
 go_light
 refine bodyPost_ret (v := errVal 1) ?_ rfl ⟨rfl, (Below.refl _ w).alloc (Nat.le_refl _) _⟩
 simp [results, Tryz.results51, go_sem, errVal]
theorem play_err (S : Sees w w.heap.size ao P.n f) (hf : ∀ i, i < P.n → 0 ≤ f i ∧ f i ≤ 18446744073709551615) (hn : P.n ≤ 4096) (SH : SeesH w w.heap.size aoh P.nh P.jn P.jb) (hn63 : P.nh ≤ 9223372036854775807) {er : Int} (her : er ≠ 0)
  (h : ∀ w', Below (w.heap.size + 1) (w.alloc (.cells #[.slice none 0 0, .slice none 0 0, .bool false] 32)) w' → Calls Tryz.prog 78 #[.slice aoh P.nh caph, .slice aos P.ns caps, .int .i64 most] w' fun e w'' => e = .returned (.int .i64 er) ∧ w'' = w') :
  Calls Tryz.prog 51 #[.slice ao P.n cap, .slice aoh P.nh caph, .slice aos P.ns caps, .int .i64 most, mk] w fun e w' => e = .returned (errVal er) ∧ Below w.heap.size w w' := by
 have her' : ¬ er = 0 := her
 have HH := hide h
 clear h
 go_enter Tryz.func51, Tryz.ntmps51
 go_wp2_with fail
 refine (new_mem (S.below ((Below.refl _ w).alloc (Nat.le_refl _) _) (Nat.le_refl _) |>.mono (by simp)) hf hn).mono ?_
 rintro e w1 ⟨bm, bw, rfl, hm1, hb1, hbm, hbw⟩
 simp only [World.size_alloc] at hb1 hbm hbw
 have r0 : ∀ i, i < 3 → w1.cell? ⟨w.heap.size, i, none⟩ = (w.alloc (.cells #[.slice none 0 0, .slice none 0 0, .bool false] 32)).cell? ⟨w.heap.size, i, none⟩ := fun i _ => hb1.cell (p := ⟨w.heap.size, i, none⟩) (by show w.heap.size < _; omega)
 have z0 := r0 0 (by omega)
 have z1 := r0 1 (by omega)
 have z2 := r0 2 (by omega)
 simp at z0 z1 z2
 have y0 := (hb1.frozen (p := ⟨w.heap.size, 0, none⟩) (by show w.heap.size < _; omega))
 have y1 := (hb1.frozen (p := ⟨w.heap.size, 1, none⟩) (by show w.heap.size < _; omega))
 have y2 := (hb1.frozen (p := ⟨w.heap.size, 2, none⟩) (by show w.heap.size < _; omega))
 simp at y0 y1 y2
 have HB := hide hb1
 clear r0 hm1 hb1
 go_wp2_with (go_at_call 78; refine (HH.out _ HB.out).mono ?_; rintro e w' ⟨rfl, hw⟩; obtain rfl := hw.symm)
 go_light
 refine bodyPost_ret (v := errVal er) ?_ rfl ⟨rfl, (((((Below.refl w.heap.size w).alloc (Nat.le_refl _) (.cells #[.slice none 0 0, .slice none 0 0, .bool false] 32)).trans (HB.out.mono (by omega))).setCell (Nat.le_refl _) _).setCell (Nat.le_refl _) _).setCell (Nat.le_refl _) _⟩
 simp [results, Tryz.results51, go_sem, errVal, *]
def Ran (K : Kd) (w : World) (P : Par) (f : Nat → Int) (most : Nat) (e : Ending) (w' : World) : Prop :=
 Below w.heap.size w w' ∧ ((AllOk K P ∧ ∃ v, e = .returned v ∧ Told K P (runSt P (st0 K P f) most) (w.heap.size + 1) v w') ∨ ∃ er, FirstErr K P er ∧ e = .returned (errVal er))
theorem play_run (S : Sees w w.heap.size ao P.n f) (hf : ∀ i, i < P.n → 0 ≤ f i ∧ f i ≤ 18446744073709551615) (hn : P.n ≤ 4096) (SH : SeesH w w.heap.size aoh P.nh P.jn P.jb) (hl : ¬ LongHands P.nh P.jn) (SI : SeesI w w.heap.size aos P.ns P.sched) (hs : P.ns ≤ 65536)
  (most : Nat) (hm : most ≤ 65536) (hjw : ∀ h, h < P.nh → ∀ j, j < P.jn h → (P.jb h j).wf) (IK : IsKind K) (MK : ∀ w', Below w.heap.size w w' → MakesAt K mk w') :
  Calls Tryz.prog 51 #[.slice ao P.n cap, .slice aoh P.nh caph, .slice aos P.ns caps, .int .i64 (most : Int), mk] w (Ran K w P f most) := by
 have hnh : P.nh ≤ 8 := by rcases Nat.lt_or_ge 8 P.nh with l | l; exact absurd (.inl l) hl; exact l
 have hjn : ∀ i, i < P.nh → P.jn i ≤ 256 := fun i hi => by rcases Nat.lt_or_ge 256 (P.jn i) with l | l; exact absurd (.inr ⟨i, hi, l⟩) hl; exact l
 have HSH := hide SH
 have HSI := hide SI
 have HL := hide hl
 have HJN := hide hjn
 have HJW := hide hjw
 have HIK := hide IK
 have HMK := hide MK
 have HF := hide hf
 clear SH SI hl hjn hjw IK MK
 go_enter Tryz.func51, Tryz.ntmps51
 go_wp2_with fail
 refine (new_mem (S.below ((Below.refl _ w).alloc (Nat.le_refl _) _) (Nat.le_refl _) |>.mono (by simp)) hf hn).mono ?_
 rintro e w1 ⟨bm, bw, rfl, hm1, hb1, hbm, hbw⟩
 simp only [World.size_alloc] at hb1 hbm hbw
 have bb1 : Below w.heap.size w w1 := ((Below.refl w.heap.size w).alloc (Nat.le_refl _) (.cells #[.slice none 0 0, .slice none 0 0, .bool false] 32)).trans (hb1.mono (by omega))
 have s1 := hb1.size
 simp only [World.size_alloc] at s1
 have H1 := mem_has hm1 hbm hbw
 have HH1 := hide H1
 have BB1 := hide hb1
 have BW1 := hide bb1
 clear hm1 hb1 bb1 H1 S hf
 go_wp2_with (go_at_call 78; refine (checkRun_ok ((HSH.out.below BW1.out (Nat.le_refl _))) HL.out hs most (by omega) (by omega)).mono ?_; rintro e w' ⟨rfl, hw⟩; obtain rfl := hw.symm)
 refine (makeTasks_any (P := P) HH1.out mem_none (HSH.out.below BW1.out (Nat.le_refl _)) (by omega) (by omega) hnh HJN.out HJW.out (fun w' hb => HMK.out w' (BW1.out.trans (hb.mono (by omega))))).mono ?_
 rintro e w2 ⟨b2, hcase⟩
 have s2 := b2.size
 have bb2 := BB1.out.trans b2
 have bw2 := BW1.out.trans (b2.mono (by omega))
 have z : ∀ w', Below (w.heap.size + 1) (w.alloc (.cells #[.slice none 0 0, .slice none 0 0, .bool false] 32)) w' → (w'.cell? ⟨w.heap.size, 0, none⟩ = some (.slice none 0 0) ∧ w'.cell? ⟨w.heap.size, 1, none⟩ = some (.slice none 0 0) ∧ w'.cell? ⟨w.heap.size, 2, none⟩ = some (.bool false)) ∧ w'.frozen? ⟨w.heap.size, 0, none⟩ = false ∧ w'.frozen? ⟨w.heap.size, 1, none⟩ = false ∧ w'.frozen? ⟨w.heap.size, 2, none⟩ = false := by
  intro w' hb
  have q := fun i => hb.cell (p := ⟨w.heap.size, i, none⟩) (by show w.heap.size < _; omega)
  have q' := fun i => hb.frozen (p := ⟨w.heap.size, i, none⟩) (by show w.heap.size < _; omega)
  exact ⟨⟨by rw [q 0]; simp, by rw [q 1]; simp, by rw [q 2]; simp⟩, by rw [q' 0]; simp, by rw [q' 1]; simp, by rw [q' 2]; simp⟩
 have HZ := hide z
 have BB2 := hide bb2
 have BW2 := hide bw2
 clear z b2 bb2 bw2
 rcases hcase with ⟨hok, blk, c, rfl, H2, M2⟩ | ⟨er, hfe, rfl⟩
 ·have HH2 := hide H2
  have MM2 := hide M2
  clear H2 M2
  go_wp2_with fail
  refine (newRun_any HH2.out MM2.out (by omega) HIK.out.ok rfl rfl hn HF.out hnh HJN.out (fun h hh j hj => ⟨HJW.out h hh j hj, _, hok h hh j hj⟩)).mono ?_
  rintro e w3 ⟨blk3, c3, rfl, H3, G3, hbm3, b3⟩
  obtain ⟨br, hbr⟩ : ∃ br, blk3 .run = br := ⟨_, rfl⟩
  rw [hbr]
  replace hbm3 : blk3 .mem = bm := hbm3
  have HH3 := hide H3
  have GG3 := hide G3
  have BB3 := hide (BB2.out.trans b3)
  have BW3 := hide (BW2.out.trans (b3.mono (by omega)))
  have s3 := b3.size
  clear H3 G3 b3
  go_wp2_with fail
  go_loopg [18] (most + 1) (fun gk h wr => ∃ j blk c, gk = most - j + 1 ∧ j ≤ most ∧ Has wr (w.heap.size + 1) blk c ∧ Good K P blk c (runSt P (st0 K P f) j) ∧ (runSt P (st0 K P f) j).k = j ∧ blk .run = br ∧ blk .mem = bm ∧ Below (w.heap.size + 1) (w.alloc (.cells #[.slice none 0 0, .slice none 0 0, .bool false] 32)) wr ∧ Below w.heap.size w wr)
  case atStart => exact ⟨0, blk3, c3, by omega, Nat.zero_le _, HH3.out, GG3.out, rfl, hbr, hbm3, BB3.out, BW3.out⟩
  case round =>
   obtain ⟨j, blk4, c4, rfl, hj, H4, G4, hkj, hbr4, hbm4, b4, bw4⟩ := hrel
   have HX0 := hide H4
   have GX0 := hide G4
   have BX0 := hide b4
   have BW0 := hide bw4
   obtain ⟨sa, sc, hsv⟩ : ∃ sa sc, wr.cell? ⟨br, 3, none⟩ = some (.slice sa j sc) := by
    obtain ⟨sv, RF, eR, R0, R1, R2, R3, R4, GS⟩ := G4.run
    have x3 := H4.cell eR (i := 3) (by simp)
    rw [hbr4] at x3
    simp only [R3] at x3
    rw [hkj] at GS
    rcases GS with ⟨h0, rfl, _⟩ | ⟨cap', F, rfl, _⟩
    ·exact ⟨none, 0, by rw [x3, h0]⟩
    ·exact ⟨_, _, x3⟩
   clear H4 G4 b4 bw4
   by_cases hjm : j < most
   ·have hjm' : (j : Int) < (most : Int) := by omega
    go_wp2_with fail
    have hpk := pick_any (B := w.heap.size) (cap := caps) GX0.out HX0.out (HSI.out.below BW0.out (Nat.le_refl _))
    rw [hbr4] at hpk
    refine hpk.mono ?_
    clear hpk
    rintro e w5 ⟨rfl, m, hw5⟩
    subst hw5
    rcases turn_ok P (runSt P (st0 K P f) j) with ⟨ht, _⟩ | ⟨h, ht, hh, hd⟩
    ·rw [ht]
     have eq : runSt P (st0 K P f) j = runSt P (st0 K P f) most := by
      have := runSt_stuck (P := P) (st := st0 K P f) (m := j) (by rw [ht]; decide) (most - j)
      rw [show j + (most - j) = most by omega] at this
      exact this.symm
     have HX := hide (HX0.out.drewN m)
     have GX := GX0
     rw [eq] at GX
     have BX := hide (below_drewN BX0.out m)
     have BWX := hide (below_drewN BW0.out m)
     have hbrX := hbr4
     have hbmX := hbm4
     clear hsv
     obtain ⟨sv0, RF, eR, R0, R1, R2, R3, R4, GS⟩ := GX.out.run
     obtain ⟨sa0, sc0, hsv0⟩ := GS.isSlice
     subst hsv0
     have x3 := HX.out.cell eR (i := 3) (by simp)
     have x4 := HX.out.cell eR (i := 4) (by simp)
     rw [hbrX] at x3 x4
     simp only [R3] at x3
     simp only [R4] at x4
     replace x3 : wr.cell? ⟨br, 3, none⟩ = some (.slice sa0 (runSt P (st0 K P f) most).k sc0) := x3
     replace x4 : wr.cell? ⟨br, 4, none⟩ = some (.slice (some ⟨blk4 .answers, 0, none⟩) P.nh P.nh) := x4
     have MX := hide (GX.out.isMem HX.out)
     rw [hbmX] at MX
     obtain ⟨⟨z0, z1, z2⟩, y0, y1, y2⟩ := HZ.out _ BX.out
     have lX := HX.out.lt eR
     rw [hbrX] at lX
     have hnb : w.heap.size ≠ br := by have := HX.out.new _ _ eR; rw [hbrX] at this; omega
     obtain ⟨endv, hendv⟩ : ∃ b, decide (cnt ((runSt P (st0 K P f) most).going P) P.nh = 0) = b := ⟨_, rfl⟩
     have HEND := hide hendv
     have sX := BX.out.size
     simp only [World.size_alloc] at sX
     have EN1 := hide (ended_any GX.out HX.out.drew)
     rw [hbrX, HEND.out] at EN1
     go_wp2_with fail
     go_cut [11, 12] from 13 (fun s11 s12 wx => s12 = .int .i64 0 ∧ s11 = .slice (some ⟨blk4 .answers, 0, none⟩) P.nh P.nh ∧ ∃ g, wx.cell? ⟨w.heap.size, 0, none⟩ = some (.slice sa0 (runSt P (st0 K P f) most).k sc0) ∧ wx.cell? ⟨w.heap.size, 1, none⟩ = some (.slice (some ⟨g, 0, none⟩) P.n P.n) ∧ wx.cell? ⟨w.heap.size, 2, none⟩ = some (.bool endv) ∧
       Has wx (w.heap.size + 1) blk4 c4 ∧ IsRow wx g P.n P.n (runSt P (st0 K P f) most).f ∧ w.heap.size + 1 ≤ g ∧ (∀ r x, c4 r = some x → blk4 r ≠ g) ∧ Below w.heap.size w wx)
     case first =>
      go_region_held (fun w' => w'.cell? ⟨br, 3, none⟩ = some (.slice sa0 (runSt P (st0 K P f) most).k sc0) ∧ w'.cell? ⟨br, 4, none⟩ = some (.slice (some ⟨blk4 .answers, 0, none⟩) P.nh P.nh)) (go_keep) (first | (go_at_call 31; refine (words_mem MX.out.drew).mono ?_; rintro e w7 ⟨g, rfl, hr7, hb7, hg7⟩; simp only [World.size_drew] at hb7 hg7; have x37 := (hb7.cell (p := ⟨br, 3, none⟩) lX).trans x3; have x47 := (hb7.cell (p := ⟨br, 4, none⟩) lX).trans x4; have R7 := hide hr7; have H7 := hide (HX.out.drew.below hb7); have BX7 := hide (BX.out.drew.trans (hb7.mono sX)); have BW7 := hide (BWX.out.drew.trans (hb7.mono (by omega))); have G7 := hide hg7; have z7 := HZ.out _ BX7.out; obtain ⟨⟨z07, z17, z27⟩, y07, y17, y27⟩ := z7; have s7 := hb7.size; simp only [World.size_drew] at s7; clear hr7 hb7 hg7) | (go_at_call 83; refine (EN1.out).mono ?_; rintro e w' ⟨rfl, hw⟩; obtain rfl := hw.symm) | (go_at_call 83; have EN2 := ended_any GX.out H7.out; rw [hbrX, HEND.out] at EN2; refine EN2.mono ?_; clear EN2; rintro e w' ⟨rfl, hw⟩; obtain rfl := hw.symm))
      all_goals go_wp2_with fail
      all_goals go_meet
      all_goals
       case rel =>
        have q := cells3 (.slice sa0 (runSt P (st0 K P f) most).k sc0) (.slice (some ⟨g, 0, none⟩) P.n P.n) (.bool endv) z07 z17 z27
        have tt := touch3 w7 w.heap.size (.slice sa0 (runSt P (st0 K P f) most).k sc0) (.slice (some ⟨g, 0, none⟩) P.n P.n) (.bool endv)
        refine ⟨rfl, rfl, g, q.1, q.2.1, q.2.2, H7.out.touch tt (fun r x e he => by have := H7.out.new r x e; omega), R7.out.block (tt.block g R7.out.lt (fun he => by have := G7.out; omega)), by have := G7.out; omega, fun r x e he => by have h1 := HX.out.lt e; have h2 := G7.out; rw [he] at h1; exact absurd h1 (by simp at h2 ⊢; omega), BW7.out.trans (tt.below (fun k hk => by omega) (by omega))⟩
     case rest =>
      obtain ⟨rfl, rfl, g, q0, q1, q2, H8, R8, hg8, hne8, B8⟩ := hcut
      have HH8 := hide H8
      have RR8 := hide R8
      have NN8 := hide hne8
      have BB8 := hide B8
      clear H8 R8 hne8 B8
      go_wp2_with fail
      go_light
      refine bodyPost_ret (v := .tuple #[.agg #[.slice sa0 (runSt P (st0 K P f) most).k sc0, .slice (some ⟨g, 0, none⟩) P.n P.n, .bool endv], .slice (some ⟨blk4 .answers, 0, none⟩) P.nh P.nh, .int .i64 0]) ?_ rfl ⟨BB8.out, .inl ⟨hok, _, rfl, blk4, c4, g, _, by rw [HEND.out], HH8.out, GX.out, by simpa [R3] using GS, RR8.out, hg8, NN8.out⟩⟩
      simp [results, Tryz.results51, go_sem, *]
    ·rw [ht]
     have hstep := runSt_step (P := P) (st := st0 K P f) ht
     have hrs := run_step HIK.out (HX0.out.drewN m) GX0.out h hh hd (by omega) (show w.heap.size + 1 ≤ (wr.drewN m).heap.size from by have := BX0.out.size; simp only [World.size_alloc] at this; exact this)
     rw [hbr4, hbm4] at hrs
     have hh8 : (0 : Int) ≤ (h : Int) := by omega
     go_wp2_with fail
     refine hrs.mono ?_
     clear hrs
     rintro e w6 ⟨rfl, blk6, c6, H6, G6, hbr6, hbm6, b6⟩
     rw [← hstep] at G6
     have HH6 := hide H6
     have GG6 := hide G6
     have BB6 := hide ((below_drewN BX0.out m).trans b6)
     have BW6 := hide ((below_drewN BW0.out m).trans (b6.mono (by omega)))
     clear H6 G6 b6
     go_wp2_with fail
     go_roundg (most - (j + 1) + 1)
     case measure => omega
     case rel => exact ⟨j + 1, blk6, c6, rfl, by omega, HH6.out, GG6.out, by rw [hstep]; show (runSt P (st0 K P f) j).k + 1 = j + 1; rw [hkj], hbr6, hbm6, BB6.out, BW6.out⟩
   ·obtain rfl : j = most := by omega
    have HX := HX0
    have GX := GX0
    have BX := BX0
    have BWX := BW0
    have hbrX := hbr4
    have hbmX := hbm4
    obtain ⟨sv0, RF, eR, R0, R1, R2, R3, R4, GS⟩ := GX.out.run
    obtain ⟨sa0, sc0, hsv0⟩ := GS.isSlice
    subst hsv0
    have MX := hide (GX.out.isMem HX.out)
    rw [hbmX] at MX
    obtain ⟨⟨z0, z1, z2⟩, y0, y1, y2⟩ := HZ.out _ BX.out
    have lX := HX.out.lt eR
    rw [hbrX] at lX
    have hnb : w.heap.size ≠ br := by have := HX.out.new _ _ eR; rw [hbrX] at this; omega
    obtain ⟨endv, hendv⟩ : ∃ b, decide (cnt ((runSt P (st0 K P f) j).going P) P.nh = 0) = b := ⟨_, rfl⟩
    have HEND := hide hendv
    have sX := BX.out.size
    simp only [World.size_alloc] at sX
    have EN1 := hide (ended_any GX.out HX.out.drew)
    rw [hbrX, HEND.out] at EN1
    go_wp2_with fail
    clear hsv
    have x3 := HX.out.cell eR (i := 3) (by simp)
    have x4 := HX.out.cell eR (i := 4) (by simp)
    rw [hbrX] at x3 x4
    simp only [R3, hkj] at x3
    simp only [R4] at x4
    go_cut [11, 12] from 13 (fun s11 s12 wx => s12 = .int .i64 0 ∧ s11 = .slice (some ⟨blk4 .answers, 0, none⟩) P.nh P.nh ∧ ∃ g, wx.cell? ⟨w.heap.size, 0, none⟩ = some (.slice sa0 j sc0) ∧ wx.cell? ⟨w.heap.size, 1, none⟩ = some (.slice (some ⟨g, 0, none⟩) P.n P.n) ∧ wx.cell? ⟨w.heap.size, 2, none⟩ = some (.bool endv) ∧
      Has wx (w.heap.size + 1) blk4 c4 ∧ IsRow wx g P.n P.n (runSt P (st0 K P f) j).f ∧ w.heap.size + 1 ≤ g ∧ (∀ r x, c4 r = some x → blk4 r ≠ g) ∧ Below w.heap.size w wx)
    case first =>
     go_region_held (fun w' => w'.cell? ⟨br, 3, none⟩ = some (.slice sa0 j sc0) ∧ w'.cell? ⟨br, 4, none⟩ = some (.slice (some ⟨blk4 .answers, 0, none⟩) P.nh P.nh)) (go_keep) (first | (go_at_call 31; refine (words_mem MX.out.drew).mono ?_; rintro e w7 ⟨g, rfl, hr7, hb7, hg7⟩; simp only [World.size_drew] at hb7 hg7; have x37 := (hb7.cell (p := ⟨br, 3, none⟩) lX).trans x3; have x47 := (hb7.cell (p := ⟨br, 4, none⟩) lX).trans x4; have R7 := hide hr7; have H7 := hide (HX.out.drew.below hb7); have BX7 := hide (BX.out.drew.trans (hb7.mono sX)); have BW7 := hide (BWX.out.drew.trans (hb7.mono (by omega))); have G7 := hide hg7; have z7 := HZ.out _ BX7.out; obtain ⟨⟨z07, z17, z27⟩, y07, y17, y27⟩ := z7; have s7 := hb7.size; simp only [World.size_drew] at s7; clear hr7 hb7 hg7) | (go_at_call 83; refine (EN1.out).mono ?_; rintro e w' ⟨rfl, hw⟩; obtain rfl := hw.symm) | (go_at_call 83; have EN2 := ended_any GX.out H7.out; rw [hbrX, HEND.out] at EN2; refine EN2.mono ?_; clear EN2; rintro e w' ⟨rfl, hw⟩; obtain rfl := hw.symm))
     all_goals go_wp2_with fail
     all_goals go_meet
     all_goals
      case rel =>
       have q := cells3 (.slice sa0 j sc0) (.slice (some ⟨g, 0, none⟩) P.n P.n) (.bool endv) z07 z17 z27
       have tt := touch3 w7 w.heap.size (.slice sa0 j sc0) (.slice (some ⟨g, 0, none⟩) P.n P.n) (.bool endv)
       refine ⟨rfl, rfl, g, q.1, q.2.1, q.2.2, H7.out.touch tt (fun r x e he => by have := H7.out.new r x e; omega), R7.out.block (tt.block g R7.out.lt (fun he => by have := G7.out; omega)), by have := G7.out; omega, fun r x e he => by have h1 := HX.out.lt e; have h2 := G7.out; rw [he] at h1; exact absurd h1 (by simp at h2 ⊢; omega), BW7.out.trans (tt.below (fun k hk => by omega) (by omega))⟩
    case rest =>
     obtain ⟨rfl, rfl, g, q0, q1, q2, H8, R8, hg8, hne8, B8⟩ := hcut
     have HH8 := hide H8
     have RR8 := hide R8
     have NN8 := hide hne8
     have BB8 := hide B8
     clear H8 R8 hne8 B8
     go_wp2_with fail
     go_light
     refine bodyPost_ret (v := .tuple #[.agg #[.slice sa0 j sc0, .slice (some ⟨g, 0, none⟩) P.n P.n, .bool endv], .slice (some ⟨blk4 .answers, 0, none⟩) P.nh P.nh, .int .i64 0]) ?_ rfl ⟨BB8.out, .inl ⟨hok, _, rfl, blk4, c4, g, _, by rw [HEND.out], HH8.out, GX.out, by have := GS; rw [hkj] at this ⊢; exact this, RR8.out, hg8, NN8.out⟩⟩
     simp [results, Tryz.results51, go_sem, *]
 ·have he0 : ¬ er = 0 := by obtain ⟨_, _, _, _, _, h, _⟩ := hfe; exact h
  obtain ⟨⟨z0, z1, z2⟩, y0, y1, y2⟩ := HZ.out _ BB2.out
  go_wp2_with fail
  go_light
  refine bodyPost_ret (v := errVal er) ?_ rfl ⟨((BW2.out.setCell (Nat.le_refl _) _).setCell (Nat.le_refl _) _).setCell (Nat.le_refl _) _, .inr ⟨er, hfe, rfl⟩⟩
  simp [results, Tryz.results51, go_sem, errVal, *]
end OfAny
end
end Go.Proofs.YtppgbndoijppnaaGreat
