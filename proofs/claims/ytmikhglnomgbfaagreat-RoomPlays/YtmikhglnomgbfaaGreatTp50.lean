/-
  Lemmas: L17Ran.
-/
import Derived.Test.YtmikhglnomgbfaaGreatTp49
import Derived.Test.YtmikhglnomgbfaaGreatTp20
namespace Go.Proofs.YtmikhglnomgbfaaGreat
set_option maxHeartbeats 8000000
open Go.RowKit
set_option linter.unusedVariables false
set_option linter.unusedSimpArgs false
set_option linter.unnecessarySimpa false
set_option maxRecDepth 20000
section
namespace L17
open Beg
theorem callStepW (args : Array Value) (w : World) : (callFunc 27 args).run Tryz.prog w = .ok (.enter 27 args) w := by
  simp [go_sem]
variable {K : Kd} {rep : List Value → K.σ → Prop} {sh : Shp} {v0 : World} {ao aoh aos : Option Addr} {cap caph caps : Nat} {P : Par} {f : Nat → Int} {most : Nat}
theorem ran_run (RK : RKind K rep sh 39 27) (S0 : Sees v0 v0.heap.size ao P.n f) (hnil : ao = none → P.n = 0 ∧ cap = 0) (hf : ∀ i, i < P.n → 0 ≤ f i ∧ f i ≤ 18446744073709551615) (hn : P.n ≤ 4096) (SH0 : SeesH v0 v0.heap.size aoh P.nh P.jn P.jb) (hl : ¬ LongHands P.nh P.jn) (SI0 : SeesI v0 v0.heap.size aos P.ns P.sched) (hs : P.ns ≤ 65536)
    (hm : most ≤ 65536) (hjw : ∀ h, h < P.nh → ∀ j, j < P.jn h → (P.jb h j).wf) (hok : AllOk K P) :
    Calls Tryz.prog 20 #[sh.val, .slice ao P.n cap, .slice aoh P.nh caph, .slice aos P.ns caps, .int .i64 (most : Int)] v0 fun e w' => Below (v0.heap.size + 1) (v0.alloc (.cells #[.int .i64 sh.a, .int .i64 sh.b, .int .i64 sh.c, .int .i64 sh.d, .int .i64 sh.e, .int .i64 sh.f] 23)) w' ∧ ∃ v, e = .returned v ∧ RTold K rep P (runSt P (st0 K P f) most) (v0.heap.size + 1) v w' := by
  have hnh : P.nh ≤ 8 := by rcases Nat.lt_or_ge 8 P.nh with l | l; exact absurd (.inl l) hl; exact l
  have hjn : ∀ i, i < P.nh → P.jn i ≤ 256 := fun i hi => by rcases Nat.lt_or_ge 256 (P.jn i) with l | l; exact absurd (.inr ⟨i, hi, l⟩) hl; exact l
  obtain ⟨w, hw⟩ : ∃ w, v0.alloc (.cells #[.int .i64 sh.a, .int .i64 sh.b, .int .i64 sh.c, .int .i64 sh.d, .int .i64 sh.e, .int .i64 sh.f] 23) = w := ⟨_, rfl⟩
  have B0 : Below v0.heap.size v0 w := by rw [← hw]; exact (Below.refl _ v0).alloc (Nat.le_refl _) _
  have szw : v0.heap.size + 1 = w.heap.size := by rw [← hw]; simp
  have RSw := hide (show w.rangeAt v0.heap.size 0 [Value.int .i64 sh.a, .int .i64 sh.b, .int .i64 sh.c, .int .i64 sh.d, .int .i64 sh.e, .int .i64 sh.f] from by rw [← hw]; exact rowIs.range (rowL_alloc v0 [Value.int .i64 sh.a, .int .i64 sh.b, .int .i64 sh.c, .int .i64 sh.d, .int .i64 sh.e, .int .i64 sh.f] 23 (n := 6) rfl) rfl)
  have S : Sees w w.heap.size ao P.n f := (S0.below B0 (Nat.le_refl _)).mono (by omega)
  have SH : SeesH w w.heap.size aoh P.nh P.jn P.jb := fun i hi => by
    obtain ⟨b, off, ao', cap, e, hb, hc, hj⟩ := SH0.below B0 (Nat.le_refl _) i hi
    exact ⟨b, off, ao', cap, e, by omega, hc, fun q hq => by obtain ⟨b', off', e', hb', hc'⟩ := hj q hq; exact ⟨b', off', e', by omega, hc'⟩⟩
  have SI : SeesI w w.heap.size aos P.ns P.sched := fun i hi => by
    obtain ⟨b, off, e, hb, hc⟩ := SI0.below B0 (Nat.le_refl _) i hi
    exact ⟨b, off, e, by omega, hc⟩
  have HS := hide S
  have HN := hide hnil
  have HF := hide hf
  have HSH := hide SH
  have HSI := hide SI
  have HL := hide hl
  have HJN := hide hjn
  have HJW := hide hjw
  have HOK := hide hok
  have HRK := hide RK
  have hFine : Hid (Fine P most) := ⟨hn, hl, hs, by omega, by omega⟩
  clear S0 SH0 SI0 B0 S hnil hf SH hl SI hjn hjw hok RK
  obtain ⟨W1, hW1⟩ : ∃ W1, w.alloc (.cells #[.slice none 0 0, .slice none 0 0, .bool false] 32) = W1 := ⟨_, rfl⟩
  have B1 : Below w.heap.size w W1 := by rw [← hW1]; exact (Below.refl _ w).alloc (Nat.le_refl _) _
  have sz1 : W1.heap.size = w.heap.size + 1 := by rw [← hW1]; simp
  have R1 : W1.rowIs w.heap.size 32 3 (lrow [.slice none 0 0, .slice none 0 0, .bool false]) := by rw [← hW1]; exact rowL_alloc w [.slice none 0 0, .slice none 0 0, .bool false] _ rfl
  have HB1 := hide B1
  have HR1 := hide R1
  have WR := hide (wrong_all HRK.out HJW.out (caph := caph) (aos := aos) (caps := caps) (most := most) hn (w := W1) (fun i hi => by
    obtain ⟨b, off, ao', cap, e, hb, hc, hj⟩ := HSH.out.below B1 (Nat.le_refl _) i hi
    exact ⟨b, off, ao', cap, e, by omega, hc, fun q hq => by obtain ⟨b', off', e', hb', hc'⟩ := hj q hq; exact ⟨b', off', e', by omega, hc'⟩⟩) (by omega))
  have RS1 := hide (rangeAt_block RSw.out (B1.block v0.heap.size (by omega)))
  obtain ⟨dS42, hd42⟩ := row42
  have DS42 := hide hd42
  clear B1 R1 hd42
  simp only [Shp.val] at WR ⊢
  rw [hw, szw]
  go_enter Tryz.func20, Tryz.ntmps20
  go_wp2_with (first
    | (refine wpList_load_mid (by rfl) 23 (.tmp 5) (by rfl) v0.heap.size 0 (by rfl) [Value.int .i64 sh.a, .int .i64 sh.b, .int .i64 sh.c, .int .i64 sh.d, .int .i64 sh.e, .int .i64 sh.f] dS42 (by exact RS1.out) (by exact DS42.out.1) (by exact DS42.out.2) (by exact size42) ?_)
    | (go_at_call 36; refine WR.out.mono ?_; rintro e wo ⟨hb, hc⟩; obtain rfl : e = .returned (.int .i64 0) := (by rcases hc with ⟨_, _, h⟩ | ⟨er', h, _⟩; exact h; exact absurd ⟨hFine.out, HOK.out⟩ h.not); have HB := hide hb; have RSo := hide (rangeAt_block RS1.out (hb.block v0.heap.size (by omega))); clear hb hc)
    | (refine wpList_load_mid (by rfl) 23 (.tmp 5) (by rfl) v0.heap.size 0 (by rfl) [Value.int .i64 sh.a, .int .i64 sh.b, .int .i64 sh.c, .int .i64 sh.d, .int .i64 sh.e, .int .i64 sh.f] dS42 (by exact RSo.out) (by exact DS42.out.1) (by exact DS42.out.2) (by exact size42) ?_))
  have BG := hide (begin_any (w := wo) (aoh := aoh) (caph := caph) (nh := P.nh) (cap := cap) (n := P.n) sh ((HS.out.below (HB1.out.trans (HB.out.mono (by omega))) (Nat.le_refl _)).mono (Nat.le_trans HB1.out.size HB.out.size)) HN.out HF.out hn hnh)
  simp only [Shp.val] at BG
  obtain ⟨dR, hdR1, hdR2⟩ := row90
  have DR1 := hide hdR1
  have DR2 := hide hdR2
  clear hdR1 hdR2
  go_wp2_with (first
    | (refine wpList_load_mid (by rfl) 23 (.tmp 5) (by rfl) v0.heap.size 0 (by rfl) [Value.int .i64 sh.a, .int .i64 sh.b, .int .i64 sh.c, .int .i64 sh.d, .int .i64 sh.e, .int .i64 sh.f] dS42 (by exact RSo.out) (by exact DS42.out.1) (by exact DS42.out.2) (by exact size42) ?_)
    | (go_at_call 37; refine BG.out.mono ?_; rintro e w2 ⟨blk0, c0, capw, F0, rfl, H0, g1, g2, g3, g4, g5, g6, b2⟩; have G0 := hide (begin_good (K := K) (rep := rep) (blk := blk0) (f := f) g1 g2 g3 g4 g5 g6 HF.out HJN.out hnh HJW.out); have HH0 := hide H0; have HB2 := hide b2; have sz2 := b2.size; obtain ⟨L0, hL0⟩ : ∃ l, cellsAt sh (.slice (some ⟨blk0 .words, 0, none⟩) P.n capw) (.slice aoh P.nh caph) blk0 P.nh = l := ⟨_, rfl⟩; rw [hL0]; have HL0 := hide hL0; have hl0 : L0.length = 15 := (by rw [← hL0]; rfl); have HLL0 := hide hl0; have hl1 := hide (show ∀ v ∈ L0, v.oneCell' = true from (by rw [← hL0]; simp [cellsAt, runCells, sl, Value.oneCell'])); clear g1 g2 g3 g4 g5 g6 H0 b2 hL0 hl0)
    | (refine wpList_store_mid (by rfl) 105 (.tmp 14) (.tmp 35) (by rfl) w2.heap.size 0 L0.toArray (by rfl) (by rfl) (by simpa [HLL0.out, zRun] using there_alloc_new (w := w2) (t := 105) (cs := zRun)) (by simpa [HLL0.out] using size90) (by exact all_oneCell_toArray hl1.out) ?_; generalize hw3 : World.setCells _ _ _ _ = w3; have I0 := hide (show AInv sh K rep w P f (.slice aoh P.nh caph) w2.heap.size capw 0 w3 blk0 (cln P.nh c0) (fun _ => false) (.slice none 0 0) from by
        have tA : Touch w2 w3 (fun _ => False) := by
          rw [← hw3]
          exact ((Touch.refl w2 _).alloc _).trans' (touch_setCells _ _ _ _) (fun k hk h => by omega)
        have hL := HL0.out
        have hbb : w.heap.size ≤ wo.heap.size := Nat.le_trans HB1.out.size HB.out.size
        have hws : w.heap.size < wo.heap.size := by have := HB.out.size; omega
        have bb : Below w.heap.size w w2 := (HB1.out.trans (HB.out.mono (by omega))).trans (HB2.out.mono hbb)
        refine ⟨((HH0.out.clean P.nh).base_le (by omega)).touch tA (fun _ _ _ => id), G0.out.clean, rfl, G0.out.types, ?_, ?_, bb.trans (tA.below (fun _ h => h.elim) (by omega)), by omega⟩
        · have hl : lrow L0 = lrow (rvL sh P blk0 capw (.slice aoh P.nh caph) (.slice none 0 0) (-1)) := by rw [← hL]; rfl
          show w3.rowIs _ _ _ (lrow (rvL sh P blk0 capw (.slice aoh P.nh caph) (.slice none 0 0) (-1)))
          rw [← hl, ← hw3]
          have := rowIs.setCells L0 0 _ _ (rowL_alloc w2 zRun 105 (n := 15) rfl)
          refine this.congr (fun i hi => ?_)
          rw [if_pos (by rw [HLL0.out]; omega)]
          rfl
        · exact ((HR1.out.of_block (HB.out.block _ (by omega))).of_block (HB2.out.block _ (by omega))).of_block (tA.block _ (by omega) id)); have sz3 : w2.heap.size < w3.heap.size := (by rw [← hw3]; have := (touch_setCells w2.heap.size L0 0 (w2.alloc (.cells zRun.toArray 105))).size; simp only [World.size_alloc] at this; exact this); clear hw3)
    | (refine wpList_load_mid (by rfl) 105 (.tmp 14) (by rfl) w2.heap.size 0 (by rfl) (rvL sh P blk0 capw (.slice aoh P.nh caph) (.slice none 0 0) (-1)) dR (by exact rowIs.range I0.out.rrow rfl) (by exact DR1.out) (by exact DR2.out) (by exact size90) ?_)
    | (go_at_call 38; refine (rnext_any (sh := sh) (B := w.heap.size) (caph := caph) (caps := caps) I0.out.good I0.out.has (HSH.out.below I0.out.bel (Nat.le_refl _)) (HSI.out.below I0.out.bel (Nat.le_refl _)) I0.out.bel.size most).mono ?_; rintro e w4 ⟨rfl, b4⟩; obtain ⟨r0, hr0⟩ : ∃ r0, (if (most : Int) ≤ ((runSt P (st0 K P f) 0).k : Int) then -1 else (runSt P (st0 K P f) 0).turn P) = r0 := ⟨_, rfl⟩; rw [hr0]; have HR0 := hide hr0; clear hr0))
  have I4 := hide (I0.out.below b4)
  obtain ⟨bR, hbR⟩ : ∃ b, w2.heap.size = b := ⟨_, rfl⟩
  rw [hbR] at I4 ⊢
  clear b4 I0 HH0 G0 HB2 hl1 HL0 HLL0
  go_loopg [15] (most + 1) (fun gk i wr => ∃ j blk c un sv, gk = most - j + 1 ∧ j ≤ most ∧ i = .int .i64 (if (most : Int) ≤ (j : Int) then -1 else (runSt P (st0 K P f) j).turn P) ∧ AInv sh K rep w P f (.slice aoh P.nh caph) bR capw j wr blk c un sv)
  case atStart => exact ⟨0, _, _, _, _, by omega, Nat.zero_le _, by rw [← HR0.out]; rfl, I4.out⟩
  case round =>
    obtain ⟨j, blk, c, un, sv, rfl, hj, rfl, I⟩ := hrel
    obtain ⟨r, hr⟩ : ∃ r, (if (most : Int) ≤ (j : Int) then -1 else (runSt P (st0 K P f) j).turn P) = r := ⟨_, rfl⟩
    rw [hr]
    have HI := hide I
    have hrL := hide (rowIs.range I.rrow rfl)
    obtain ⟨sa, sc, hsv⟩ := I.good.steps.isSlice'
    subst hsv
    by_cases hneg : r < 0
    · have eq : runSt P (st0 K P f) j = runSt P (st0 K P f) most := by
        by_cases h1 : (most : Int) ≤ (j : Int)
        · rw [show j = most by omega]
        · rw [if_neg h1] at hr
          have := runSt_stuck (P := P) (st := st0 K P f) (m := j) (by rw [hr]; exact hneg) (most - j)
          rw [show j + (most - j) = most by omega] at this
          exact this.symm
      have EQ := hide eq
      have hneg' : ¬ 0 ≤ r := by omega
      have TO := hide (rtold_any (sh := sh) (caph := caph) (la := (runSt P (st0 K P f) j).last) I.good I.has (HSH.out.below I.bel (Nat.le_refl _)) I.bel.size)
      rw [rvL_val] at TO
      clear eq hr I
      go_wp2_with (first
        | (refine wpList_load_mid (by rfl) 105 (.tmp 14) (by rfl) bR 0 (by rfl) (rvL sh P blk capw (.slice aoh P.nh caph) (.slice sa (runSt P (st0 K P f) j).k sc) (runSt P (st0 K P f) j).last) dR (by exact hrL.out) (by exact DR1.out) (by exact DR2.out) (by exact size90) ?_)
        | (go_at_call 42; refine TO.out.mono ?_; rintro e w5 ⟨rfl, b5⟩; have I5 := hide (HI.out.below b5); have z0 : w5.cell? ⟨w.heap.size, 0, none⟩ = some (.slice none 0 0) := (I5.out.trow.cell (i := 0) (by omega)); have z1 : w5.cell? ⟨w.heap.size, 1, none⟩ = some (.slice none 0 0) := (I5.out.trow.cell (i := 1) (by omega)); have z2 : w5.cell? ⟨w.heap.size, 2, none⟩ = some (.bool false) := (I5.out.trow.cell (i := 2) (by omega)); have y0 := I5.out.trow.frozen 0; have y1 := I5.out.trow.frozen 1; have y2 := I5.out.trow.frozen 2; have lW := I5.out.trow.lt; have lne : w.heap.size ≠ w5.heap.size := (by omega); obtain ⟨en, hen⟩ : ∃ en, decide (cnt ((runSt P (st0 K P f) j).going P) P.nh = 0) = en := ⟨_, rfl⟩; rw [hen]; have HEN := hide hen; obtain ⟨kk, hkk⟩ : ∃ kk, (runSt P (st0 K P f) j).k = kk := ⟨_, rfl⟩; rw [hkk]; have HKK := hide hkk; simp only [sl]; clear b5 hen hkk))
      have q := cells3 (.slice sa kk sc) (.slice (some ⟨blk .words, 0, none⟩) P.n capw) (.bool en) z0 z1 z2
      have tt := touch3 w5 w.heap.size (.slice sa kk sc) (.slice (some ⟨blk .words, 0, none⟩) P.n capw) (.bool en)
      have G5 := I5.out.good
      rw [HKK.out, EQ.out] at G5
      refine bodyPost_ret (v := .tuple #[.agg #[.slice sa kk sc, .slice (some ⟨blk .words, 0, none⟩) P.n capw, .bool en], .slice (some ⟨blk .answers, 0, none⟩) P.nh P.nh, .int .i64 0]) ?res rfl ⟨(I5.out.bel.trans (tt.below (fun k hk => by omega) I5.out.bel.size)).alloc (by have := I5.out.bel.size; simp; omega) _, _, rfl, blk, c, un, capw, .slice sa kk sc, by rw [← HEN.out, EQ.out]; rfl, (I5.out.has.touch tt (fun r x e he => ?_)).alloc _, G5⟩
      case res =>
        obtain ⟨q0, q1, q2⟩ := q
        have lx : w.heap.size < (((w5.setCell ⟨w.heap.size, 0, none⟩ (.slice sa kk sc)).setCell ⟨w.heap.size, 1, none⟩ (.slice (some ⟨blk .words, 0, none⟩) P.n capw)).setCell ⟨w.heap.size, 2, none⟩ (.bool en)).heap.size := by simpa using lW
        simp [results, Tryz.results20, go_sem, *]
      exact rowIs.ne (I5.out.has.row r x e) I5.out.trow (I5.out.ty r x e).2.1 he
    · have hjm : ¬ (most : Int) ≤ (j : Int) := fun h1 => by rw [if_pos h1] at hr; omega
      rw [if_neg hjm] at hr
      rcases turn_ok P (runSt P (st0 K P f) j) with ⟨ht, _⟩ | ⟨h, ht, hh, hd⟩
      · rw [ht] at hr; omega
      · rw [ht] at hr
        subst hr
        have hhn : (h : Int) < (P.nh : Int) := by omega
        have hh0 : (0 : Int) ≤ (h : Int) := by omega
        obtain ⟨U, eU, hU⟩ := I.good.under
        have c9 : wr.cell? ⟨bR, 9, none⟩ = some (.slice (some ⟨blk .going, 0, none⟩) P.nh P.nh) := I.rrow.cell (i := 9) (by omega)
        have cu : wr.cell? ⟨blk .going, h, none⟩ = some (.bool (un h)) := by rw [I.has.cell eU (i := h) hh]; exact congrArg some (hU h hh)
        clear I
        go_upto_if 51 with (fail)
        go_cut [] from 40 to 95 (fun wx => ∃ c' un', AInv sh K rep w P f (.slice aoh P.nh caph) bR capw j wx blk c' un' (.slice sa (runSt P (st0 K P f) j).k sc) ∧ un' h = true)
        case first =>
          cases hu : un h with
          | true =>
            go_wp2_with fail
            go_meet
            case rel => exact ⟨c, un, HI.out, hu⟩
          | false =>
            have I := HI.out
            obtain ⟨Bf, eB, hBf⟩ := I.good.begun
            obtain ⟨Kf, eK, hKf⟩ := I.good.kept
            obtain ⟨bh, offh, aoj, capj, hao, hbh, hch, hjs⟩ := (HSH.out.below I.bel (Nat.le_refl _)) h hh
            obtain ⟨bj, offj, haoj, hbj, hcj⟩ := hjs _ hd
            subst hao
            subst haoj
            have hfresh := I.good.fresh h hh hu hd
            obtain ⟨dn, hdn⟩ : ∃ d, (runSt P (st0 K P f) j).done h = d := ⟨_, rfl⟩
            rw [hdn] at hcj hfresh
            have hd' : dn < P.jn h := by rw [← hdn]; exact hd
            obtain ⟨jo, hjo⟩ : ∃ jo, P.jb h dn = jo := ⟨_, rfl⟩
            have hjok := HOK.out h hh dn hd'
            have hjwf := HJW.out h hh dn hd'
            rw [hjo] at hcj hfresh hjok hjwf
            have hjbd := HJN.out h hh
            obtain ⟨cs, hcs1, hcs2, hcs⟩ := HRK.out.start h jo (by omega) (by omega) hjwf
            have HTK := hide hcs1
            have HREP := hide (show rep cs ((runSt P (st0 K P f) j).cur h) from by rw [hfresh]; exact hcs2 hjok)
            have RSW := hide (rangeAt_block RSw.out (I.bel.block v0.heap.size (by omega)))
            have lsw : v0.heap.size < wr.heap.size := by have := I.bel.size; omega
            have nsw : v0.heap.size ≠ bR := by have := I.ge; omega
            have ST := hide hcs
            rw [hjok] at ST
            simp only [Shp.val, Jb.val, kept0] at ST
            obtain ⟨dJ, hdJ⟩ := row54
            obtain ⟨dK, hdK⟩ := row77
            have DJ := hide hdJ
            have DK := hide hdK
            have lw0 : w.heap.size ≤ wr.heap.size := I.bel.size
            have hbR' := I.rrow.lt
            have hbB := I.has.lt eB
            have hbK := I.has.lt eK
            have hbW : blk .words < wr.heap.size := by obtain ⟨F, e, _⟩ := I.good.words; exact I.has.lt e
            have W0 : wr.rowIs bR 105 15 (lrow (rvL sh P blk capw (.slice (some ⟨bh, offh, none⟩) P.nh caph) (.slice sa (runSt P (st0 K P f) j).k sc) (runSt P (st0 K P f) j).last)) ∧ wr.cell? ⟨bh, offh + h * 1, none⟩ = some (.slice (some ⟨bj, offj, none⟩) (P.jn h) capj) ∧ wr.cell? ⟨blk .run, 0 + h * 1, none⟩ = some (.int .i64 (dn : Int)) ∧ wr.rangeAt bj (offj + dn * 5) [.int .i64 jo.kind, .int .i64 jo.a, .int .i64 jo.b, .int .i64 jo.c, .int .u64 jo.h] ∧ wr.rangeAt (blk .mem) (0 + h * 4) [.int .u64 0, .int .u64 0, .int .u64 0, .int .u64 0] := by
              refine ⟨I.rrow, by rw [Nat.mul_one]; exact hch, ?_, fun q v hv => ?_, fun q v hv => ?_⟩
              · rw [Nat.mul_one, Nat.zero_add, I.has.cell eB (i := h) hh]
                refine congrArg some ((hBf h hh).trans ?_)
                rw [hu, hdn]; rfl
              · have hq : q < 5 := (List.getElem?_eq_some_iff.1 hv).1
                rw [hcj q hq]
                match q, hq with
                | 0, _ | 1, _ | 2, _ | 3, _ | 4, _ => exact congrArg some (Option.some.inj hv)
              · have hq : q < 4 := (List.getElem?_eq_some_iff.1 hv).1
                rw [Nat.zero_add]
                refine (I.has.cell eK (i := h * 4 + q) (by show _ < P.nh * 4; omega)).trans (congrArg some ((hKf _ (by omega)).trans ?_))
                match q, hq with
                | 0, _ | 1, _ | 2, _ | 3, _ => exact Option.some.inj hv
            have HW0 := hide W0
            clear I W0 hcj hch hjs hfresh hjok hjwf hcs hcs1 hcs2 hdJ hdK hBf hKf
            go_wp2_with fail
            go_cut [16] from 40 to 95 (fun s16 wx => ∃ b16, s16 = .pointer (some ⟨b16, 0, none⟩) ∧ wx.rangeAt b16 0 cs ∧ wx.rowIs bR 105 15 (lrow (rvL sh P blk capw (.slice (some ⟨bh, offh, none⟩) P.nh caph) (.slice sa (runSt P (st0 K P f) j).k sc) (runSt P (st0 K P f) j).last)) ∧ Touch wr wx (fun k => k = bR))
            case first =>
              rename_i K1 J1 hJ1 hK1
              refine Reg.region (t := (⟨[(0, 53), (1, 54), (2, 55), (3, 56), (4, 57), (5, 58), (6, 59), (7, 60), (8, 61), (9, 62), (10, 63), (11, 64), (12, 65), (13, 66), (14, 67), (15, 68), (16, 69), (17, 70), (19, 52), (20, 72), (21, 73), (24, 17)],
                  fun i => match i with
                    | 0 => .agg #[.int .i64 sh.a, .int .i64 sh.b, .int .i64 sh.c, .int .i64 sh.d, .int .i64 sh.e, .int .i64 sh.f]
                    | 2 => .slice (some ⟨bh, offh, none⟩) P.nh caph
                    | 4 => .pointer (some ⟨bh, offh + h * 1, none⟩)
                    | 5 => .slice (some ⟨bj, offj, none⟩) (P.jn h) capj
                    | 6 => .pointer (some ⟨bR, 10, none⟩)
                    | 7 => .slice (some ⟨blk .run, 0, none⟩) P.nh P.nh
                    | 9 => .pointer (some ⟨blk .run, 0 + h * 1, none⟩)
                    | 10 => .int .i64 (dn : Int)
                    | 11 => .pointer (some ⟨bj, offj + dn * 5, none⟩)
                    | 12 => .agg #[.int .i64 jo.kind, .int .i64 jo.a, .int .i64 jo.b, .int .i64 jo.c, .int .u64 jo.h]
                    | 13 => .pointer (some ⟨bR, 11, none⟩)
                    | 14 => .slice (some ⟨blk .mem, 0, none⟩) P.nh P.nh
                    | 16 => .pointer (some ⟨blk .mem, 0 + h * 4, none⟩)
                    | 17 => .agg #[.int .u64 0, .int .u64 0, .int .u64 0, .int .u64 0]
                    | 19 => .tuple #[.agg cs.toArray, .int .i64 0]
                    | 20 => .agg cs.toArray
                    | 21 => .int .i64 0
                    | 24 => .int .i64 0
                    | _ => .int .i64 (h : Int),
                  18, 71, .tuple #[.agg cs.toArray, .int .i64 0], [(22, 16)], fun _ => (59, tk0), [(23, 22)], fun _ => cs⟩ : Reg.TabL).tab)
                (WI := fun _ w' => w'.rowIs bR 105 15 (lrow (rvL sh P blk capw (.slice (some ⟨bh, offh, none⟩) P.nh caph) (.slice sa (runSt P (st0 K P f) j).k sc) (runSt P (st0 K P f) j).last)) ∧ w'.cell? ⟨bh, offh + h * 1, none⟩ = some (.slice (some ⟨bj, offj, none⟩) (P.jn h) capj) ∧ w'.cell? ⟨blk .run, 0 + h * 1, none⟩ = some (.int .i64 (dn : Int)) ∧ w'.rangeAt bj (offj + dn * 5) [.int .i64 jo.kind, .int .i64 jo.a, .int .i64 jo.b, .int .i64 jo.c, .int .u64 jo.h] ∧ w'.rangeAt (blk .mem) (0 + h * 4) [.int .u64 0, .int .u64 0, .int .u64 0, .int .u64 0])
                (gw := bR) (by kernel_rfl) (Reg.TabL.ok _ rfl (fun i j hm => by simp at hm; obtain ⟨rfl, rfl⟩ := hm; exact HTK.out.1.symm)) ?g18 ?b18 hbR' ?alo ?sto ?dd HW0.out ?kinds ?fin
              case g18 =>
                intro i o ho
                have hi : i < 25 := by have := (Array.getElem?_eq_some_iff.1 ho).1; simpa using this
                match i, hi with
                | 0, _ | 1, _ | 2, _ | 3, _ | 4, _ | 5, _ | 6, _ | 7, _ | 8, _ | 9, _ | 10, _ | 11, _ | 12, _ | 13, _ | 14, _ | 15, _ | 16, _ | 17, _ | 18, _ | 19, _ | 20, _ | 21, _ | 22, _ | 23, _ | 24, _ => injection ho with ho; subst ho; rfl
              case b18 =>
                intro i o ho
                have hi : i < 25 := by have := (Array.getElem?_eq_some_iff.1 ho).1; simpa using this
                match i, hi with
                | 0, _ | 1, _ | 2, _ | 3, _ | 4, _ | 5, _ | 6, _ | 7, _ | 8, _ | 9, _ | 10, _ | 11, _ | 12, _ | 13, _ | 14, _ | 15, _ | 16, _ | 17, _ | 18, _ | 19, _ | 20, _ | 21, _ | 22, _ | 23, _ | 24, _ => injection ho with ho; subst ho; simp [Region.binds]
              case alo =>
                rintro b w' o ⟨h1, h2, h3, h4, h5⟩
                exact ⟨h1.alloc o, (World.cell?_alloc_lt _ _ _ (World.block_lt_of_cell? _ _ h2)).trans h2, (World.cell?_alloc_lt _ _ _ (World.block_lt_of_cell? _ _ h3)).trans h3, World.rangeAt_alloc h4 o, World.rangeAt_alloc h5 o⟩
              case sto =>
                rintro b w' k vs ⟨h1, h2, h3, h4, h5⟩ hk
                have tt := touch_setCells k vs 0 w'
                have l2 := World.block_lt_of_cell? _ _ h2
                have l3 := World.block_lt_of_cell? _ _ h3
                have l4 := World.block_lt_of_cell? _ _ (h4 0 _ rfl)
                have l5 := World.block_lt_of_cell? _ _ (h5 0 _ rfl)
                have lh : bh < wr.heap.size := by omega
                have lj : bj < wr.heap.size := by omega
                exact ⟨h1.of_block (tt.block _ h1.lt (by omega)), (World.cell?_of_block (a := ⟨bh, offh + h * 1, none⟩) (tt.block _ l2 (by show bh ≠ k; omega))).trans h2, (World.cell?_of_block (a := ⟨blk .run, 0 + h * 1, none⟩) (tt.block _ l3 (by show blk .run ≠ k; omega))).trans h3, rangeAt_block h4 (tt.block _ l4 (by show bj ≠ k; omega)), rangeAt_block h5 (tt.block _ l5 (by show blk .mem ≠ k; omega))⟩
              case dd =>
                intro k hk
                have hk' : k < 103 := by
                  simp [Reg.TabL.tab] at hk
                  omega
                simpa using hk'
              case kinds =>
                have hWb : ∀ w1 w2 : World, (w1.rowIs bR 105 15 (lrow (rvL sh P blk capw (.slice (some ⟨bh, offh, none⟩) P.nh caph) (.slice sa (runSt P (st0 K P f) j).k sc) (runSt P (st0 K P f) j).last)) ∧ w1.cell? ⟨bh, offh + h * 1, none⟩ = some (.slice (some ⟨bj, offj, none⟩) (P.jn h) capj) ∧ w1.cell? ⟨blk .run, 0 + h * 1, none⟩ = some (.int .i64 (dn : Int)) ∧ w1.rangeAt bj (offj + dn * 5) [.int .i64 jo.kind, .int .i64 jo.a, .int .i64 jo.b, .int .i64 jo.c, .int .u64 jo.h] ∧ w1.rangeAt (blk .mem) (0 + h * 4) [.int .u64 0, .int .u64 0, .int .u64 0, .int .u64 0]) → Below w1.heap.size w1 w2 → (w2.rowIs bR 105 15 (lrow (rvL sh P blk capw (.slice (some ⟨bh, offh, none⟩) P.nh caph) (.slice sa (runSt P (st0 K P f) j).k sc) (runSt P (st0 K P f) j).last)) ∧ w2.cell? ⟨bh, offh + h * 1, none⟩ = some (.slice (some ⟨bj, offj, none⟩) (P.jn h) capj) ∧ w2.cell? ⟨blk .run, 0 + h * 1, none⟩ = some (.int .i64 (dn : Int)) ∧ w2.rangeAt bj (offj + dn * 5) [.int .i64 jo.kind, .int .i64 jo.a, .int .i64 jo.b, .int .i64 jo.c, .int .u64 jo.h] ∧ w2.rangeAt (blk .mem) (0 + h * 4) [.int .u64 0, .int .u64 0, .int .u64 0, .int .u64 0]) := by
                  rintro w1 w2 ⟨h1, h2, h3, h4, h5⟩ hb
                  exact ⟨h1.of_block (hb.block _ h1.lt), (hb.cell (p := ⟨bh, offh + h * 1, none⟩) (World.block_lt_of_cell? _ _ h2)).trans h2, (hb.cell (p := ⟨blk .run, 0 + h * 1, none⟩) (World.block_lt_of_cell? _ _ h3)).trans h3, rangeAt_block h4 (hb.block _ (World.block_lt_of_cell? _ _ (h4 0 _ rfl))), rangeAt_block h5 (hb.block _ (World.block_lt_of_cell? _ _ (h5 0 _ rfl)))⟩
                intro i o ho
                have hi : i < 25 := by have := (Array.getElem?_eq_some_iff.1 ho).1; simpa using this
                match i, hi with
                | 0, _ => injection ho with ho; subst ho; exact .inl ⟨53, _, rfl, rfl, fun L a w' bk hI hd => ex_load_row rfl (hI.fix 5 (Reg.notD rfl)) (rangeAt_block RSW.out (hI.tch.block _ (by omega) (by omega))) DS42.out.1 DS42.out.2 size42⟩
                | 1, _ => injection ho with ho; subst ho; exact .inl ⟨54, _, rfl, rfl, fun L a w bk hI hd => ex_move rfl (hI.fix 15 (Reg.notD rfl))⟩
                | 2, _ => injection ho with ho; subst ho; exact .inl ⟨55, _, rfl, rfl, fun L a w bk hI hd => ex_move rfl (hI.fix 2 (Reg.notD rfl))⟩
                | 3, _ => injection ho with ho; subst ho; exact .inl ⟨56, _, rfl, rfl, fun L a w bk hI hd => ex_move rfl (hI.fix 15 (Reg.notD rfl))⟩
                | 4, _ => injection ho with ho; subst ho; exact .inl ⟨57, _, rfl, rfl, fun L a w bk hI hd => ex_index rfl (hI.pure 2 _ _ rfl (hd ⟨2, .data⟩ (by simp) rfl)) (hI.pure 3 _ _ rfl (hd ⟨3, .data⟩ (by simp) rfl)) hh Tryz.underlying25 sz52⟩
                | 5, _ => injection ho with ho; subst ho; exact .inl ⟨58, _, rfl, rfl, fun L a w bk hI hd => ex_load rfl (hI.pure 4 _ _ rfl (hd ⟨4, .data⟩ (by simp) rfl)) (agg_no w).2.2.1 (hI.world.2.1)⟩
                | 6, _ => injection ho with ho; subst ho; exact .inl ⟨59, _, rfl, rfl, fun L a w bk hI hd => ex_field rfl (hI.fix 14 (Reg.notD rfl)) (field90 w bR).2.2.1⟩
                | 7, _ => injection ho with ho; subst ho; exact .inl ⟨60, _, rfl, rfl, fun L a w bk hI hd => ex_load rfl (hI.pure 6 _ _ rfl (hd ⟨6, .data⟩ (by simp) rfl)) (agg_no w).2.2.2.1 (hI.world.1.cell (i := 10) (by omega))⟩
                | 8, _ => injection ho with ho; subst ho; exact .inl ⟨61, _, rfl, rfl, fun L a w bk hI hd => ex_move rfl (hI.fix 15 (Reg.notD rfl))⟩
                | 9, _ => injection ho with ho; subst ho; exact .inl ⟨62, _, rfl, rfl, fun L a w bk hI hd => ex_index rfl (hI.pure 7 _ _ rfl (hd ⟨7, .data⟩ (by simp) rfl)) (hI.pure 8 _ _ rfl (hd ⟨8, .data⟩ (by simp) rfl)) hh Tryz.underlying26 sz3r⟩
                | 10, _ => injection ho with ho; subst ho; exact .inl ⟨63, _, rfl, rfl, fun L a w bk hI hd => ex_load rfl (hI.pure 9 _ _ rfl (hd ⟨9, .data⟩ (by simp) rfl)) (agg_no w).2.2.2.2.1 (hI.world.2.2.1)⟩
                | 11, _ => injection ho with ho; subst ho; exact .inl ⟨64, _, rfl, rfl, fun L a w bk hI hd => ex_index rfl (hI.pure 5 _ _ rfl (hd ⟨5, .data⟩ (by simp) rfl)) (hI.pure 10 _ _ rfl (hd ⟨10, .data⟩ (by simp) rfl)) hd' Tryz.underlying64 sz54⟩
                | 12, _ => injection ho with ho; subst ho; exact .inl ⟨65, _, rfl, rfl, fun L a w bk hI hd => ex_load_row rfl (hI.pure 11 _ _ rfl (hd ⟨11, .data⟩ (by simp) rfl)) hI.world.2.2.2.1 DJ.out.1 DJ.out.2 size54⟩
                | 13, _ => injection ho with ho; subst ho; exact .inl ⟨66, _, rfl, rfl, fun L a w bk hI hd => ex_field rfl (hI.fix 14 (Reg.notD rfl)) (field90 w bR).2.2.2⟩
                | 14, _ => injection ho with ho; subst ho; exact .inl ⟨67, _, rfl, rfl, fun L a w bk hI hd => ex_load rfl (hI.pure 13 _ _ rfl (hd ⟨13, .data⟩ (by simp) rfl)) (agg_no w).2.2.2.2.2 (hI.world.1.cell (i := 11) (by omega))⟩
                | 15, _ => injection ho with ho; subst ho; exact .inl ⟨68, _, rfl, rfl, fun L a w bk hI hd => ex_move rfl (hI.fix 15 (Reg.notD rfl))⟩
                | 16, _ => injection ho with ho; subst ho; exact .inl ⟨69, _, rfl, rfl, fun L a w bk hI hd => ex_index rfl (hI.pure 14 _ _ rfl (hd ⟨14, .data⟩ (by simp) rfl)) (hI.pure 15 _ _ rfl (hd ⟨15, .data⟩ (by simp) rfl)) hh Tryz.underlying103 size77⟩
                | 17, _ => injection ho with ho; subst ho; exact .inl ⟨70, _, rfl, rfl, fun L a w bk hI hd => ex_load_row rfl (hI.pure 16 _ _ rfl (hd ⟨16, .data⟩ (by simp) rfl)) hI.world.2.2.2.2 DK.out.1 DK.out.2 size77⟩
                | 18, _ => injection ho with ho; subst ho; exact .inr (.inl ⟨rfl, rfl, fun L a w bk K hI hL hd hk => wp_call (f := 39) (call4 rfl (hI.pure 0 _ _ rfl (hd ⟨0, .data⟩ (by simp) rfl)) (hI.pure 1 _ _ rfl (hd ⟨1, .data⟩ (by simp) rfl)) (hI.pure 12 _ _ rfl (hd ⟨12, .data⟩ (by simp) rfl)) (hI.pure 17 _ _ rfl (hd ⟨17, .data⟩ (by simp) rfl)) rfl (callStartW _ _)) ((ST.out w).mono (fun e w' ⟨he, hb⟩ => ⟨_, he, hk w' (hWb w w' hI.world hb) (Touch.of_below hb _)⟩))⟩)
                | 19, _ => injection ho with ho; subst ho; exact .inl ⟨52, _, rfl, rfl, fun L a w bk hI hd => ex_move rfl (hI.call (hd ⟨18, .data⟩ (by simp) rfl))⟩
                | 20, _ => injection ho with ho; subst ho; exact .inl ⟨72, _, rfl, rfl, fun L a w bk hI hd => ex_extract rfl (hI.pure 19 _ _ rfl (hd ⟨19, .data⟩ (by simp) rfl)) rfl⟩
                | 21, _ => injection ho with ho; subst ho; exact .inl ⟨73, _, rfl, rfl, fun L a w bk hI hd => ex_extract rfl (hI.pure 19 _ _ rfl (hd ⟨19, .data⟩ (by simp) rfl)) rfl⟩
                | 22, _ => injection ho with ho; subst ho; exact .inr (.inr (.inl ⟨_, _, _, rfl, rfl, fun ev w => alloc79 rfl⟩))
                | 23, _ => injection ho with ho; subst ho; exact .inr (.inr (.inr ⟨_, _, _, _, _, _, _, rfl, rfl, rfl, rfl, rfl, (by rw [HTK.out.1]; exact size79), HTK.out.2, fun L a w bk hI hd => ⟨(hd ⟨22, .data⟩ (by simp) rfl), (hI.pure 20 _ _ rfl (hd ⟨20, .data⟩ (by simp) rfl))⟩⟩))
                | 24, _ => injection ho with ho; subst ho; exact .inl ⟨17, _, rfl, rfl, fun L a w bk hI hd => ex_assign rfl (hI.pure 21 _ _ rfl (hd ⟨21, .data⟩ (by simp) rfl))⟩
              case fin =>
                intro L a' w' bk hI hall
                refine hK1 _ _ (Met.intro (hJ1 _ _ ?_))
                have ea := act_all a' 103 (by rw [hI.sz]; rfl) hI.df
                simp only [List.range, List.range.loop, List.map] at ea
                rw [hI.fix 0 (Reg.notD rfl), hI.fix 1 (Reg.notD rfl), hI.fix 2 (Reg.notD rfl), hI.fix 3 (Reg.notD rfl), hI.fix 4 (Reg.notD rfl), hI.fix 5 (Reg.notD rfl), hI.fix 6 (Reg.notD rfl), hI.fix 7 (Reg.notD rfl), hI.fix 8 (Reg.notD rfl), hI.fix 9 (Reg.notD rfl), hI.fix 10 (Reg.notD rfl), hI.fix 11 (Reg.notD rfl), hI.fix 12 (Reg.notD rfl), hI.fix 13 (Reg.notD rfl), hI.fix 14 (Reg.notD rfl), hI.fix 15 (Reg.notD rfl), hI.fix 18 (Reg.notD rfl), hI.fix 19 (Reg.notD rfl), hI.fix 20 (Reg.notD rfl), hI.fix 21 (Reg.notD rfl), hI.fix 22 (Reg.notD rfl), hI.fix 23 (Reg.notD rfl), hI.fix 24 (Reg.notD rfl), hI.fix 25 (Reg.notD rfl), hI.fix 26 (Reg.notD rfl), hI.fix 27 (Reg.notD rfl), hI.fix 28 (Reg.notD rfl), hI.fix 29 (Reg.notD rfl), hI.fix 30 (Reg.notD rfl), hI.fix 31 (Reg.notD rfl), hI.fix 32 (Reg.notD rfl), hI.fix 33 (Reg.notD rfl), hI.fix 34 (Reg.notD rfl), hI.fix 35 (Reg.notD rfl), hI.fix 36 (Reg.notD rfl), hI.fix 37 (Reg.notD rfl), hI.fix 38 (Reg.notD rfl), hI.fix 39 (Reg.notD rfl), hI.fix 96 (Reg.notD rfl), hI.fix 97 (Reg.notD rfl), hI.fix 98 (Reg.notD rfl), hI.fix 99 (Reg.notD rfl), hI.fix 100 (Reg.notD rfl), hI.fix 101 (Reg.notD rfl), hI.fix 102 (Reg.notD rfl)] at ea
                obtain ⟨p16, q16, _, _⟩ := hI.al 22 16 _ _ rfl (hall 22 (by decide))
                obtain ⟨_, r16⟩ := hI.so 23 22 _ rfl (hall 23 (by decide))
                (repeat apply Exists.intro)
                refine ⟨?rel, ?eq⟩
                case eq => exact ea
                case rel => exact ⟨bk 22, p16, r16, hI.world.1, hI.tch⟩
            case rest =>
              obtain ⟨b16, rfl, r16, rr16, tt16⟩ := hcut
              have I16 := hide (HI.out.touchR tt16 rr16)
              have LA := hide (laid_any (sh := sh) (aoh := some ⟨bh, offh, none⟩) (caph := caph) (la := (runSt P (st0 K P f) j).last) (cs := cs) I16.out.good I16.out.has hh hu hd HTK.out HREP.out)
              rw [rvL_val] at LA
              have hrL16 := hide (rowIs.range rr16 rfl)
              have R16 := hide r16
              obtain ⟨dT, hdT⟩ := row79
              have DT := hide hdT
              clear r16 rr16 tt16 hdT
              go_wp2_with (first
                | (refine wpList_load_mid (by rfl) 105 (.tmp 14) (by rfl) bR 0 (by rfl) (rvL sh P blk capw (.slice (some ⟨bh, offh, none⟩) P.nh caph) (.slice sa (runSt P (st0 K P f) j).k sc) (runSt P (st0 K P f) j).last) dR (by exact hrL16.out) (by exact DR1.out) (by exact DR2.out) (by exact size90) ?_)
                | (refine wpList_load_mid (by rfl) 59 (.tmp 16) (by rfl) b16 0 (by rfl) cs dT (by exact R16.out) (by exact DT.out.1) (by exact DT.out.2) (by rw [HTK.out.1]; exact size79) ?_)
                | (go_at_call 40; refine LA.out.mono ?_; rintro e w6 ⟨rfl, c6, H6, G6, tt6⟩; have own6 : ∀ k, (k = blk .tasks ∨ k = blk .going ∨ k = blk .run) → ∃ r x, c r = some x ∧ blk r = k := (by
                      obtain ⟨T0, e0, _⟩ := I16.out.good.tasks
                      obtain ⟨U0, e1, _⟩ := I16.out.good.under
                      obtain ⟨B0, e2, _⟩ := I16.out.good.begun
                      rintro k (h | h | h)
                      · exact ⟨_, _, e0, h.symm⟩
                      · exact ⟨_, _, e1, h.symm⟩
                      · exact ⟨_, _, e2, h.symm⟩); have I6 := hide (I16.out.step6 H6 G6 (tt6.mono (fun k _ h => own6 k h))); clear H6 G6 tt6 own6)
                | (refine wpList_store_mid (by rfl) 105 (.tmp 14) (.tmp 77) (by rfl) bR 0 (rvL sh P blk capw (.slice (some ⟨bh, offh, none⟩) P.nh caph) (.slice sa (runSt P (st0 K P f) j).k sc) (runSt P (st0 K P f) j).last).toArray (by rfl) (by rfl) (by exact rowIs.there I6.out.rrow (by simp [rvL_len])) (by exact size90) (by exact all_oneCell_toArray (rvL_one rfl rfl)) ?_; generalize hw7 : World.setCells _ _ _ _ = w7; have I7 := hide (show AInv sh K rep w P f (.slice (some ⟨bh, offh, none⟩) P.nh caph) bR capw j w7 blk (cln P.nh c6) (upd un h true) (.slice sa (runSt P (st0 K P f) j).k sc) from by rw [← hw7]; exact I6.out.again); clear hw7))
              go_meet
              case rel => exact ⟨_, _, I7.out, upd_same _ _ _⟩
        case rest =>
          obtain ⟨c1, un1, I1, hu1⟩ := hcut
          obtain ⟨T, eT, hT⟩ := I1.good.tasks
          obtain ⟨cs, hkcs, hTcs, hrep⟩ := hT h hh hu1
          obtain ⟨F, eW, hW1, hW2, hW3⟩ := I1.good.words
          have hword := I1.good.word
          have iW : IsRow wc (blk .words) P.n capw (runSt P (st0 K P f) j).f := ⟨hW1, hW2, ⟨F, I1.has.row _ _ eW, hW3⟩, hword⟩
          obtain ⟨x, hx⟩ : ∃ x, stepOf P.n (runSt P (st0 K P f) j).f (K.req ((runSt P (st0 K P f) j).cur h)) = x := ⟨_, rfl⟩
          obtain ⟨f', hf'⟩ : ∃ f', wordsOf P.n (runSt P (st0 K P f) j).f (K.req ((runSt P (st0 K P f) j).cur h)) = f' := ⟨_, rfl⟩
          obtain ⟨cs', q1, q2, q3, q4, q5⟩ := HRK.out.step cs _ hkcs hrep P.n (runSt P (st0 K P f) j).f hword
          rw [hx] at q2 q3 q5
          obtain ⟨en, hen⟩ : ∃ en, K.ends ((runSt P (st0 K P f) j).cur h) x = en := ⟨_, rfl⟩
          have HEN := hide hen
          have STP := hide (fun w' (hr' : IsRow w' (blk .words) P.n capw (runSt P (st0 K P f) j).f) => q5 w' (blk .words) capw hr')
          rw [hf', hen] at STP
          have HTK := hide hkcs
          have HTK' := hide q1
          have HREP' := hide q2
          have HAN := hide q3
          have HZ := hide q4
          clear q1 q2 q3 q4 q5
          have HX := hide hx
          have HFF := hide hf'
          have hbW := I1.has.lt eW
          have hbT := I1.has.lt eT
          have hbR' := I1.rrow.lt
          have nTW : blk .tasks ≠ blk .words := I1.has.ne eT eW (by simp)
          have nRW : bR ≠ blk .words := rowIs.ne I1.rrow (I1.has.row _ _ eW) (by simp)
          obtain ⟨dT, hdT⟩ := row79
          have DT := hide hdT
          have rT : wc.rangeAt (blk .tasks) (0 + h * 28) cs := fun q v hv => by
            have hq : q < 28 := by have := (List.getElem?_eq_some_iff.1 hv).1; have := hkcs.1; omega
            rw [Nat.zero_add]
            exact (I1.has.cell eT (i := h * 28 + q) (by show _ < P.nh * 28; omega)).trans (congrArg some (hTcs q v hv))
          have HI1 := hide I1
          have HW0 := hide (show (fun (b : Bool) (w' : World) => w'.rowIs bR 105 15 (lrow (rvL sh P blk capw (.slice aoh P.nh caph) (.slice sa (runSt P (st0 K P f) j).k sc) (runSt P (st0 K P f) j).last)) ∧ w'.rangeAt (blk .tasks) (0 + h * 28) cs ∧ IsRow w' (blk .words) P.n capw (if b = true then f' else (runSt P (st0 K P f) j).f)) false wc from ⟨I1.rrow, rT, iW⟩)
          have EW := hide (show c1 .words = some ⟨50, capw, F⟩ from eW)
          clear I1 hT hTcs hrep hen hx hf' hkcs hword iW rT hW1 hW2 hW3 eT eW hdT eU hU c9 cu
          go_wp2_with fail
          go_cut [18, 19, 20] from 40 to 95 (fun s18 s19 s20 wx => ∃ b18 b19, s18 = .pointer (some ⟨b18, 0, none⟩) ∧ s19 = .pointer (some ⟨b19, 0, none⟩) ∧ s20 = .bool en ∧ wx.rangeAt b18 0 cs' ∧ wx.rangeAt b19 0 x.cells ∧ wx.rowIs bR 105 15 (lrow (rvL sh P blk capw (.slice aoh P.nh caph) (.slice sa (runSt P (st0 K P f) j).k sc) (runSt P (st0 K P f) j).last)) ∧ IsRow wx (blk .words) P.n capw f' ∧ Touch wc wx (fun k => k = blk .words))
          case first =>
            rename_i K1 J1 hJ1 hK1
            refine Reg.region (t := (⟨[(0, 79), (1, 80), (2, 81), (3, 82), (4, 83), (5, 84), (6, 85), (8, 78), (9, 87), (10, 88), (11, 89), (16, 20)],
                fun i => match i with
                  | 0 => .pointer (some ⟨bR, 8, none⟩)
                  | 1 => .slice (some ⟨blk .tasks, 0, none⟩) P.nh P.nh
                  | 3 => .pointer (some ⟨blk .tasks, 0 + h * 28, none⟩)
                  | 4 => .agg cs.toArray
                  | 5 => .pointer (some ⟨bR, 6, none⟩)
                  | 6 => .slice (some ⟨blk .words, 0, none⟩) P.n capw
                  | 8 => .tuple #[.agg cs'.toArray, x.val, .bool en]
                  | 9 => .agg cs'.toArray
                  | 10 => x.val
                  | 11 => .bool en
                  | 16 => .bool en
                  | _ => .int .i64 (h : Int),
                7, 86, .tuple #[.agg cs'.toArray, x.val, .bool en], [(12, 18), (13, 19)], fun i => match i with | 12 => (59, tk0) | _ => (75, [Value.int .i64 0, .int .i64 0, .int .i64 0, .int .u64 0, .int .u64 0, .bool false]), [(14, 12), (15, 13)], fun i => match i with | 14 => cs' | _ => x.cells⟩ : Reg.TabL).tab)
              (WI := fun b w' => w'.rowIs bR 105 15 (lrow (rvL sh P blk capw (.slice aoh P.nh caph) (.slice sa (runSt P (st0 K P f) j).k sc) (runSt P (st0 K P f) j).last)) ∧ w'.rangeAt (blk .tasks) (0 + h * 28) cs ∧ IsRow w' (blk .words) P.n capw (if b = true then f' else (runSt P (st0 K P f) j).f))
              (gw := blk .words) (by kernel_rfl) (Reg.TabL.ok _ rfl (fun i j hm => by simp at hm; rcases hm with ⟨rfl, rfl⟩ | ⟨rfl, rfl⟩; exact HTK'.out.1.symm; rfl)) ?g20 ?b20 hbW ?alo ?sto ?dd HW0.out ?kinds ?fin
            case g20 =>
              intro i o ho
              have hi : i < 17 := by have := (Array.getElem?_eq_some_iff.1 ho).1; simpa using this
              match i, hi with
              | 0, _ | 1, _ | 2, _ | 3, _ | 4, _ | 5, _ | 6, _ | 7, _ | 8, _ | 9, _ | 10, _ | 11, _ | 12, _ | 13, _ | 14, _ | 15, _ | 16, _ => injection ho with ho; subst ho; rfl
            case b20 =>
              intro i o ho
              have hi : i < 17 := by have := (Array.getElem?_eq_some_iff.1 ho).1; simpa using this
              match i, hi with
              | 0, _ | 1, _ | 2, _ | 3, _ | 4, _ | 5, _ | 6, _ | 7, _ | 8, _ | 9, _ | 10, _ | 11, _ | 12, _ | 13, _ | 14, _ | 15, _ | 16, _ => injection ho with ho; subst ho; simp [Region.binds]
            case alo =>
              rintro b w' o ⟨h1, h2, h3⟩
              exact ⟨h1.alloc o, World.rangeAt_alloc h2 o, h3.alloc o⟩
            case sto =>
              rintro b w' k vs ⟨h1, h2, h3⟩ hk
              have tt := touch_setCells k vs 0 w'
              obtain ⟨c0', hc0'⟩ : ∃ v, cs[0]? = some v := ⟨cs[0]'(by rw [HTK.out.1]; omega), by simp⟩
              have l2 := World.block_lt_of_cell? _ _ (h2 0 _ hc0')
              exact ⟨h1.of_block (tt.block _ h1.lt (by omega)), rangeAt_block h2 (tt.block _ l2 (by show blk .tasks ≠ k; omega)), h3.block (tt.block _ h3.lt (by omega))⟩
            case dd =>
              intro k hk
              have hk' : k < 103 := by
                simp [Reg.TabL.tab] at hk
                omega
              simpa using hk'
            case kinds =>
              have hWf : ∀ (w' : World) (b : Bool), b = false → (w'.rowIs bR 105 15 (lrow (rvL sh P blk capw (.slice aoh P.nh caph) (.slice sa (runSt P (st0 K P f) j).k sc) (runSt P (st0 K P f) j).last)) ∧ w'.rangeAt (blk .tasks) (0 + h * 28) cs ∧ IsRow w' (blk .words) P.n capw (if b = true then f' else (runSt P (st0 K P f) j).f)) → IsRow w' (blk .words) P.n capw (runSt P (st0 K P f) j).f := fun w' b hb hw => by subst hb; exact hw.2.2
              have hWc : ∀ (w1 w' : World) (b : Bool), (fun (w' : World) => w'.rowIs bR 105 15 (lrow (rvL sh P blk capw (.slice aoh P.nh caph) (.slice sa (runSt P (st0 K P f) j).k sc) (runSt P (st0 K P f) j).last)) ∧ w'.rangeAt (blk .tasks) (0 + h * 28) cs ∧ IsRow w' (blk .words) P.n capw (if b = true then f' else (runSt P (st0 K P f) j).f)) w1 → IsRow w' (blk .words) P.n capw f' → w1.grownBy w' (some (blk .words)) → (fun (b : Bool) (w' : World) => w'.rowIs bR 105 15 (lrow (rvL sh P blk capw (.slice aoh P.nh caph) (.slice sa (runSt P (st0 K P f) j).k sc) (runSt P (st0 K P f) j).last)) ∧ w'.rangeAt (blk .tasks) (0 + h * 28) cs ∧ IsRow w' (blk .words) P.n capw (if b = true then f' else (runSt P (st0 K P f) j).f)) true w' := fun w1 w' b ⟨h1, h2, _⟩ hr hg => by
                obtain ⟨c0', hc0'⟩ : ∃ v, cs[0]? = some v := ⟨cs[0]'(by rw [HTK.out.1]; omega), by simp⟩
                have l2 := World.block_lt_of_cell? _ _ (h2 0 _ hc0')
                exact ⟨h1.of_block (hg.block _ h1.lt (by simpa using nRW)), rangeAt_block h2 (hg.block _ l2 (by simpa using nTW)), hr⟩
              intro i o ho
              have hi : i < 17 := by have := (Array.getElem?_eq_some_iff.1 ho).1; simpa using this
              match i, hi with
              | 0, _ => injection ho with ho; subst ho; exact .inl ⟨79, _, rfl, rfl, fun L a w bk hI hd => ex_field rfl (hI.fix 14 (Reg.notD rfl)) (field90 w bR).2.1⟩
              | 1, _ => injection ho with ho; subst ho; exact .inl ⟨80, _, rfl, rfl, fun L a w bk hI hd => ex_load rfl (hI.pure 0 _ _ rfl (hd ⟨0, .data⟩ (by simp) rfl)) (agg_no w).1 (hI.world.1.cell (i := 8) (by omega))⟩
              | 2, _ => injection ho with ho; subst ho; exact .inl ⟨81, _, rfl, rfl, fun L a w bk hI hd => ex_move rfl (hI.fix 15 (Reg.notD rfl))⟩
              | 3, _ => injection ho with ho; subst ho; exact .inl ⟨82, _, rfl, rfl, fun L a w bk hI hd => ex_index rfl (hI.pure 1 _ _ rfl (hd ⟨1, .data⟩ (by simp) rfl)) (hI.pure 2 _ _ rfl (hd ⟨2, .data⟩ (by simp) rfl)) hh Tryz.underlying54 size79⟩
              | 4, _ => injection ho with ho; subst ho; exact .inl ⟨83, _, rfl, rfl, fun L a w bk hI hd => ex_load_row rfl (hI.pure 3 _ _ rfl (hd ⟨3, .data⟩ (by simp) rfl)) hI.world.2.1 DT.out.1 DT.out.2 (by rw [HTK.out.1]; exact size79)⟩
              | 5, _ => injection ho with ho; subst ho; exact .inl ⟨84, _, rfl, rfl, fun L a w bk hI hd => ex_field rfl (hI.fix 14 (Reg.notD rfl)) (field90 w bR).1⟩
              | 6, _ => injection ho with ho; subst ho; exact .inl ⟨85, _, rfl, rfl, fun L a w bk hI hd => ex_load rfl (hI.pure 5 _ _ rfl (hd ⟨5, .data⟩ (by simp) rfl)) (agg_no w).2.1 (hI.world.1.cell (i := 6) (by omega))⟩
              | 7, _ => injection ho with ho; subst ho; exact .inr (.inl ⟨rfl, rfl, fun L a w bk K hI hL hd hk => wp_call (f := 27) (call2 rfl (hI.pure 4 _ _ rfl (hd ⟨4, .data⟩ (by simp) rfl)) (hI.pure 6 _ _ rfl (hd ⟨6, .data⟩ (by simp) rfl)) rfl (callStepW _ _)) ((STP.out w (hWf w _ hL hI.world)).mono (fun e w1 ⟨he, hr1, hg⟩ => ⟨_, he, hk w1 (hWc w w1 _ hI.world hr1 hg) ((Touch.of_grown hg).mono (fun k _ h => by simpa using h))⟩))⟩)
              | 8, _ => injection ho with ho; subst ho; exact .inl ⟨78, _, rfl, rfl, fun L a w bk hI hd => ex_move rfl (hI.call (hd ⟨7, .data⟩ (by simp) rfl))⟩
              | 9, _ => injection ho with ho; subst ho; exact .inl ⟨87, _, rfl, rfl, fun L a w bk hI hd => ex_extract rfl (hI.pure 8 _ _ rfl (hd ⟨8, .data⟩ (by simp) rfl)) rfl⟩
              | 10, _ => injection ho with ho; subst ho; exact .inl ⟨88, _, rfl, rfl, fun L a w bk hI hd => ex_extract rfl (hI.pure 8 _ _ rfl (hd ⟨8, .data⟩ (by simp) rfl)) rfl⟩
              | 11, _ => injection ho with ho; subst ho; exact .inl ⟨89, _, rfl, rfl, fun L a w bk hI hd => ex_extract rfl (hI.pure 8 _ _ rfl (hd ⟨8, .data⟩ (by simp) rfl)) rfl⟩
              | 12, _ => injection ho with ho; subst ho; exact .inr (.inr (.inl ⟨_, _, _, rfl, rfl, fun ev w => alloc79 rfl⟩))
              | 13, _ => injection ho with ho; subst ho; exact .inr (.inr (.inl ⟨_, _, _, rfl, rfl, fun ev w => alloc46 rfl⟩))
              | 14, _ => injection ho with ho; subst ho; exact .inr (.inr (.inr ⟨_, _, _, _, _, _, _, rfl, rfl, rfl, rfl, rfl, (show (Tryz.prog.info? 59).map (·.size) = some cs'.length from by rw [HTK'.out.1]; exact size79), HTK'.out.2, fun L a w bk hI hd => ⟨(hd ⟨12, .data⟩ (by simp) rfl), (hI.pure 9 _ _ rfl (hd ⟨9, .data⟩ (by simp) rfl))⟩⟩))
              | 15, _ => injection ho with ho; subst ho; exact .inr (.inr (.inr ⟨_, _, _, _, _, _, _, rfl, rfl, rfl, rfl, rfl, size46, step_one x, fun L a w bk hI hd => ⟨(hd ⟨13, .data⟩ (by simp) rfl), (hI.pure 10 _ _ rfl (hd ⟨10, .data⟩ (by simp) rfl))⟩⟩))
              | 16, _ => injection ho with ho; subst ho; exact .inl ⟨20, _, rfl, rfl, fun L a w bk hI hd => ex_assign rfl (hI.pure 11 _ _ rfl (hd ⟨11, .data⟩ (by simp) rfl))⟩
            case fin =>
              intro L a' w' bk hI hall
              refine hK1 _ _ (Met.intro (hJ1 _ _ ?_))
              have ea := act_all a' 103 (by rw [hI.sz]; rfl) hI.df
              simp only [List.range, List.range.loop, List.map] at ea
              rw [hI.fix 0 (Reg.notD rfl), hI.fix 1 (Reg.notD rfl), hI.fix 2 (Reg.notD rfl), hI.fix 3 (Reg.notD rfl), hI.fix 4 (Reg.notD rfl), hI.fix 5 (Reg.notD rfl), hI.fix 6 (Reg.notD rfl), hI.fix 7 (Reg.notD rfl), hI.fix 8 (Reg.notD rfl), hI.fix 9 (Reg.notD rfl), hI.fix 10 (Reg.notD rfl), hI.fix 11 (Reg.notD rfl), hI.fix 12 (Reg.notD rfl), hI.fix 13 (Reg.notD rfl), hI.fix 14 (Reg.notD rfl), hI.fix 15 (Reg.notD rfl), hI.fix 16 (Reg.notD rfl), hI.fix 17 (Reg.notD rfl), hI.fix 21 (Reg.notD rfl), hI.fix 22 (Reg.notD rfl), hI.fix 23 (Reg.notD rfl), hI.fix 24 (Reg.notD rfl), hI.fix 25 (Reg.notD rfl), hI.fix 26 (Reg.notD rfl), hI.fix 27 (Reg.notD rfl), hI.fix 28 (Reg.notD rfl), hI.fix 29 (Reg.notD rfl), hI.fix 30 (Reg.notD rfl), hI.fix 31 (Reg.notD rfl), hI.fix 32 (Reg.notD rfl), hI.fix 33 (Reg.notD rfl), hI.fix 34 (Reg.notD rfl), hI.fix 35 (Reg.notD rfl), hI.fix 36 (Reg.notD rfl), hI.fix 37 (Reg.notD rfl), hI.fix 38 (Reg.notD rfl), hI.fix 39 (Reg.notD rfl), hI.fix 96 (Reg.notD rfl), hI.fix 97 (Reg.notD rfl), hI.fix 98 (Reg.notD rfl), hI.fix 99 (Reg.notD rfl), hI.fix 100 (Reg.notD rfl), hI.fix 101 (Reg.notD rfl), hI.fix 102 (Reg.notD rfl)] at ea
              obtain ⟨p18, _, _, _⟩ := hI.al 12 18 _ _ rfl (hall 12 (by decide))
              obtain ⟨p19, _, _, _⟩ := hI.al 13 19 _ _ rfl (hall 13 (by decide))
              obtain ⟨_, r18⟩ := hI.so 14 12 _ rfl (hall 14 (by decide))
              obtain ⟨_, r19⟩ := hI.so 15 13 _ rfl (hall 15 (by decide))
              have p20 := hI.pure 16 20 _ rfl (hall 16 (by decide))
              have hwd := hI.world
              have h7 : L 7 = true := hall 7 (by decide)
              rw [show (Reg.TabL.tab _).kc = 7 from rfl, h7] at hwd
              (repeat apply Exists.intro)
              refine ⟨?rel, ?eq⟩
              case eq => exact ea
              case rel => exact ⟨bk 12, bk 13, p18, p19, p20, r18, r19, hwd.1, hwd.2.2, hI.tch⟩
          case rest =>
            obtain ⟨b18, b19, rfl, rfl, rfl, r18, r19, rr, iW, ttW⟩ := hcut
            obtain ⟨hW1, hW2, ⟨F', rowF, hF'⟩, hwb⟩ := iW
            have H2 := HI1.out.has.write .words ⟨50, capw, F'⟩ EW.out ttW rowF
            have G2 := HI1.out.good.withWords hF' hwb
            have hkj := HI1.out.k
            have hstep := runSt_step (P := P) (st := st0 K P f) ht
            have hk1 : (runSt P (st0 K P f) (j + 1)).k = j + 1 := by rw [hstep]; show (runSt P (st0 K P f) j).k + 1 = j + 1; rw [hkj]
            have hla : (runSt P (st0 K P f) (j + 1)).last = (h : Int) := by rw [hstep]; rfl
            have nOw : ¬ Own blk (upd c1 .words (some ⟨50, capw, F'⟩)) bR := fun ⟨r', y', e', he'⟩ => by
              by_cases hr' : r' = .words
              · subst hr'; exact nRW he'.symm
              · rw [upd_other _ _ hr'] at e'
                exact rowIs.ne (HI1.out.has.row r' y' e') HI1.out.rrow (HI1.out.ty r' y' e').1 he'
            have DN := hide (show Calls Tryz.prog 41 #[.agg (rvL sh P blk capw (.slice aoh P.nh caph) (.slice sa (runSt P (st0 K P f) j).k sc) (runSt P (st0 K P f) j).last).toArray, .int .i64 h, .agg cs'.toArray, .agg x.cells.toArray, .bool en] wc (fun e w7 => ∃ blk' c' un' sa' sc', e = .returned (.agg (rvL sh P blk' capw (.slice aoh P.nh caph) (.slice sa' (runSt P (st0 K P f) (j + 1)).k sc') (runSt P (st0 K P f) (j + 1)).last).toArray) ∧
                AInv sh K rep w P f (.slice aoh P.nh caph) bR capw (j + 1) (w7.setCells bR 0 (rvL sh P blk' capw (.slice aoh P.nh caph) (.slice sa' (runSt P (st0 K P f) (j + 1)).k sc') (runSt P (st0 K P f) (j + 1)).last)) blk' (cln P.nh c') un' (.slice sa' (runSt P (st0 K P f) (j + 1)).k sc') ∧ w7.there bR 0 15) from
              by
                cases en with
                | true =>
                  exact (rdone_ended (sh := sh) (aoh := aoh) (caph := caph) (la := (runSt P (st0 K P f) j).last) (x := x) (cs := cs') G2 H2 hh hu1 HX.out HFF.out HEN.out HTK'.out (HAN.out HEN.out) HZ.out (by rw [hkj]; omega)).mono (fun e w7 ⟨blk', c', sv', he, H7, G7, tt7⟩ => by
                    rw [← hstep] at G7
                    obtain ⟨sa', sc', hsv'⟩ := G7.steps.isSlice'
                    subst hsv'
                    refine ⟨blk', c', _, sa', sc', ?_, HI1.out.next ⟨_, EW.out⟩ ttW rr H7 G7 tt7 hk1, rowIs.there (rr.of_block (tt7.block _ rr.lt nOw)) (by omega)⟩
                    rw [he, rvL_val, hla])
                | false =>
                  exact (rdone_goes (sh := sh) (aoh := aoh) (caph := caph) (la := (runSt P (st0 K P f) j).last) (x := x) (cs := cs') G2 H2 hh hu1 HX.out HFF.out (by rw [HEN.out]; decide) HTK'.out (HREP'.out (by rw [HEN.out]; decide)) (by rw [hkj]; omega)).mono (fun e w7 ⟨blk', c', sv', he, H7, G7, tt7⟩ => by
                    rw [← hstep] at G7
                    obtain ⟨sa', sc', hsv'⟩ := G7.steps.isSlice'
                    subst hsv'
                    refine ⟨blk', c', _, sa', sc', ?_, HI1.out.next ⟨_, EW.out⟩ ttW rr H7 G7 tt7 hk1, rowIs.there (rr.of_block (tt7.block _ rr.lt nOw)) (by omega)⟩
                    rw [he, rvL_val, hla]))
            have HST := hide hstep
            have HK1 := hide hk1
            have HLA := hide hla
            have hrLx := hide (rowIs.range rr rfl)
            have HRR := hide rr
            have HTTW := hide ttW
            have R18 := hide r18
            have R19 := hide r19
            have hj1 : j + 1 ≤ most := by omega
            obtain ⟨dS, hdS⟩ := row46
            have DS := hide hdS
            clear r18 r19 rr ttW hW1 hW2 rowF hF' hwb H2 G2 hstep hk1 hla hdS nOw hkj
            go_wp2_with (first
              | (refine wpList_load_mid (by rfl) 105 (.tmp 14) (by rfl) bR 0 (by rfl) (rvL sh P blk capw (.slice aoh P.nh caph) (.slice sa (runSt P (st0 K P f) j).k sc) (runSt P (st0 K P f) j).last) dR (by exact hrLx.out) (by exact DR1.out) (by exact DR2.out) (by exact size90) ?_)
              | (refine wpList_load_mid (by rfl) 59 (.tmp 18) (by rfl) b18 0 (by rfl) cs' dT (by exact R18.out) (by exact DT.out.1) (by exact DT.out.2) (by rw [HTK'.out.1]; exact size79) ?_)
              | (refine wpList_load_mid (by rfl) 75 (.tmp 19) (by rfl) b19 0 (by rfl) x.cells dS (by exact R19.out) (by exact DS.out.1) (by exact DS.out.2) (by exact size46) ?_)
              | (go_at_call 41; refine DN.out.mono ?_; rintro e w7 ⟨blk', c', un', sa', sc', rfl, i8, t7⟩; have I8 := hide i8; have there7 := hide t7; clear i8 t7)
              | (refine wpList_store_mid (by rfl) 105 (.tmp 14) (.tmp 95) (by rfl) bR 0 (rvL sh P blk' capw (.slice aoh P.nh caph) (.slice sa' (runSt P (st0 K P f) (j + 1)).k sc') (runSt P (st0 K P f) (j + 1)).last).toArray (by rfl) (by rfl) (by exact there7.out) (by exact size90) (by exact all_oneCell_toArray (rvL_one rfl rfl)) ?_; generalize hw8 : World.setCells _ _ _ _ = w8; have I9 := hide (show AInv sh K rep w P f (.slice aoh P.nh caph) bR capw (j + 1) w8 blk' (cln P.nh c') un' (.slice sa' (runSt P (st0 K P f) (j + 1)).k sc') from by rw [← hw8]; exact I8.out); have hrL9 := hide (rowIs.range I9.out.rrow rfl); have NX := hide (rnext_any (sh := sh) (B := w.heap.size) (caph := caph) (caps := caps) I9.out.good I9.out.has (HSH.out.below I9.out.bel (Nat.le_refl _)) (HSI.out.below I9.out.bel (Nat.le_refl _)) I9.out.bel.size most); rw [rvL_val] at NX; clear hw8)
              | (refine wpList_load_mid (by rfl) 105 (.tmp 14) (by rfl) bR 0 (by rfl) (rvL sh P blk' capw (.slice aoh P.nh caph) (.slice sa' (runSt P (st0 K P f) (j + 1)).k sc') (runSt P (st0 K P f) (j + 1)).last) dR (by exact hrL9.out) (by exact DR1.out) (by exact DR2.out) (by exact size90) ?_)
              | (go_at_call 38; refine NX.out.mono ?_; rintro e w9 ⟨rfl, b9⟩; obtain ⟨r9, hr9⟩ : ∃ r9, (if (most : Int) ≤ ((runSt P (st0 K P f) (j + 1)).k : Int) then -1 else (runSt P (st0 K P f) (j + 1)).turn P) = r9 := ⟨_, rfl⟩; rw [hr9]; have HR9 := hide hr9; have I10 := hide (I9.out.below b9); clear hr9 b9))
            go_roundg (most - (j + 1) + 1)
            case measure => omega
            case rel => exact ⟨j + 1, _, _, _, _, rfl, hj1, by rw [← HR9.out, HK1.out], I10.out⟩
theorem ran_all {w : World} {ao aoh aos : Option Addr} {cap caph caps : Nat} {P : Par} {f : Nat → Int} {most : Int} (RK : RKind K rep sh 39 27) (S : Sees w w.heap.size ao P.n f) (hnil : ao = none → P.n = 0 ∧ cap = 0) (hn : P.n ≤ 4096) (hf : ∀ i, i < P.n → 0 ≤ f i ∧ f i ≤ 18446744073709551615) (SH : SeesH w w.heap.size aoh P.nh P.jn P.jb) (hn63 : P.nh ≤ 9223372036854775807) (SI : SeesI w w.heap.size aos P.ns P.sched) (hjw : ∀ h, h < P.nh → ∀ j, j < P.jn h → (P.jb h j).wf) :
    Calls Tryz.prog 20 #[sh.val, .slice ao P.n cap, .slice aoh P.nh caph, .slice aos P.ns caps, .int .i64 most] w (RAllR K rep w P f most) := by
  have err : ∀ er, ErrOf K P most er → Calls Tryz.prog 20 #[sh.val, .slice ao P.n cap, .slice aoh P.nh caph, .slice aos P.ns caps, .int .i64 most] w (RAllR K rep w P f most) := fun er he =>
    (ran_err RK hjw hn SH hn63 he).mono fun e w' ⟨h, hb⟩ => ⟨hb, .inl ⟨er, he, h⟩⟩
  by_cases h2 : LongHands P.nh P.jn ∨ 65536 < P.ns ∨ 65536 < most
  · exact err 1 (.inr (.inl ⟨hn, h2, rfl⟩))
  · have hl : ¬ LongHands P.nh P.jn := fun h => h2 (.inl h)
    have hs : P.ns ≤ 65536 := by rcases Nat.lt_or_ge 65536 P.ns with l | l; exact absurd (.inr (.inl l)) h2; exact l
    have hm : most ≤ 65536 := by rcases Int.lt_or_le 65536 most with l | l; exact absurd (.inr (.inr l)) h2; exact l
    by_cases h3 : most < 0
    · exact err 2 (.inr (.inr (.inl ⟨hn, hl, hs, h3, rfl⟩)))
    · have hF : Fine P most := ⟨hn, hl, hs, by omega, hm⟩
      rcases allOk_or K P with hok | ⟨er, he⟩
      · obtain ⟨m, rfl⟩ : ∃ m : Nat, most = m := ⟨most.toNat, by omega⟩
        exact (ran_run RK S hnil hf hn SH hl SI hs (by omega) hjw hok).mono fun e w' ⟨hb, v, he, ht⟩ => ⟨((Below.refl _ w).alloc (Nat.le_refl _) _).trans (hb.mono (by omega)), .inr ⟨hF, hok, v, he, by simpa using ht⟩⟩
      · exact err er (.inr (.inr (.inr ⟨hF, he⟩)))
end L17
end
end Go.Proofs.YtmikhglnomgbfaaGreat
