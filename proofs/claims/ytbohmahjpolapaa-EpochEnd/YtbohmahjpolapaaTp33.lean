/-
  Lemmas: EpochAF, EpochX, EpochSX, EpochQ0, EpochSE, EpochSM.
-/
import Derived.Test.YtbohmahjpolapaaTp32
import Derived.Test.YtbohmahjpolapaaTp19
import Derived.Test.YtbohmahjpolapaaTp20
import Derived.Deep.CutBlock
import Derived.Deep.CutRange
import Derived.Test.YtbohmahjpolapaaTp05
/-
  A run from Fresh (the laws' own fresh).
-/
namespace Go.Proofs.Ytbohmahjpolapaa
open Go.RowKit
set_option linter.unusedVariables false
set_option linter.unusedSimpArgs false
set_option linter.unnecessarySimpa false
set_option maxRecDepth 20000
namespace Epoch

variable {w : World} {aw : Option Addr} {nw cw : Nat} {ao aoh aos : Option Addr} {cap caph caps : Nat} {P : Par} {most : Int} {sh : Shp}

/-- A run that was taken. -/
def TB (sh : Shp) (P : Par) (most : Int) (base : Nat) (er : Int) (sa : Option Addr) (k sc : Nat) (wa : Option Addr) (n wc : Nat) (en : Bool) (aa : Option Addr) (m ac : Nat) (w' : World) : Prop :=
  er = 0 → (1 ≤ sh.f ∧ sh.f ≤ 64) ∧ (AllOk (kEpoch sh.f) P ∧ Fine P most) ∧ Told (kEpoch sh.f) P (runSt P (st0 (kEpoch sh.f) P (fun _ => 0)) most.toNat) base (tv3 sa k sc wa n wc en aa m ac 0) w'

theorem TB.touch {base base' b : Nat} {er : Int} {sa wa aa : Option Addr} {k sc n wc m ac : Nat} {en : Bool} {w1 w2 : World} (h : TB sh P most base er sa k sc wa n wc en aa m ac w1) (ht : Touch w1 w2 (fun k => k = b)) (hb : b < base) (hbb : base' ≤ base) : TB sh P most base' er sa k sc wa n wc en aa m ac w2 := fun he =>
  ⟨(h he).1, (h he).2.1, told_touch (h he).2.2 ht hb hbb⟩

theorem play_tb (h1 : 1 ≤ sh.f) (h2 : sh.f ≤ 64) (hn : (P.n : Int) = 9 + sh.f) (S : Sees w w.heap.size ao P.n (fun _ => 0)) (SH : SeesH w w.heap.size aoh P.nh P.jn P.jb) (hn63 : P.nh ≤ 9223372036854775807) (SI : SeesI w w.heap.size aos P.ns P.sched) (hjw : ∀ h, h < P.nh → ∀ j, j < P.jn h → (P.jb h j).wf) :
    Calls Try.prog 11 #[sh.val, .slice ao P.n cap, .slice aoh P.nh caph, .slice aos P.ns caps, .int .i64 most] w fun e w' => Below w.heap.size w w' ∧ ∃ sa k sc wa n wc en aa m ac er, e = .returned (tv3 sa k sc wa n wc en aa m ac er) ∧ TB sh P most w.heap.size er sa k sc wa n wc en aa m ac w' := by
  refine (play_all h1 h2 hn S (fun i _ => ⟨Int.le_refl 0, by show (0 : Int) ≤ 18446744073709551615; decide⟩) SH hn63 SI hjw).mono fun e w' h => ?_
  refine ⟨h.1, ?_⟩
  rcases h.2 with ⟨er, hle, he⟩ | ⟨hn', hF, hok, v, he, hT⟩
  · refine ⟨none, 0, 0, none, 0, 0, false, none, 0, 0, er, he, fun h0 => ?_⟩
    rcases hle with ⟨_, rfl⟩ | ⟨_, h⟩
    · exact absurd h0 (by decide)
    · exact absurd h0 h.ne
  · obtain ⟨sa, k, sc, wa, n, wc, en, aa, m, ac, rfl⟩ := told_shape hT
    exact ⟨sa, k, sc, wa, n, wc, en, aa, m, ac, 0, he, fun _ => ⟨⟨h1, h2⟩, ⟨hok, hF⟩, hT⟩⟩

set_option maxHeartbeats 8000000 in
theorem fresh_any (hn : 1 ≤ sh.f ∧ sh.f ≤ 64 → (P.n : Int) = 9 + sh.f) (SH : SeesH w w.heap.size aoh P.nh P.jn P.jb) (hn63 : P.nh ≤ 9223372036854775807) (SI : SeesI w w.heap.size aos P.ns P.sched) (hjw : ∀ h, h < P.nh → ∀ j, j < P.jn h → (P.jb h j).wf) :
    Calls Try.prog 14 #[.agg #[.int .i64 sh.a, .int .i64 sh.b, .int .i64 sh.c, .int .i64 sh.d, .int .i64 sh.e, .int .i64 sh.f, .slice aw nw cw, .slice aoh P.nh caph, .slice aos P.ns caps, .int .i64 most]] w fun e w' => Below w.heap.size w w' ∧ ∃ sa k sc wa n wc en aa m ac er, e = .returned (.tuple #[.agg #[.slice sa k sc, .slice wa n wc, .bool en], .slice aa m ac, .bool (er == 0)]) ∧ TB sh P most w.heap.size er sa k sc wa n wc en aa m ac w' := by
  have FB := hide (fun (h : sh.f < 1 ∨ 64 < sh.f) (w1 : World) => fresh_bad w1 sh h)
  have FO := hide (fun (h1 : 1 ≤ sh.f) (h2 : sh.f ≤ 64) (w1 : World) => fresh_ok w1 sh h1 h2 (want := P.n) (hn ⟨h1, h2⟩))
  have PL := hide (fun (h1 : 1 ≤ sh.f) (h2 : sh.f ≤ 64) (w1 : World) (B1 : Below w.heap.size w w1) ao cap (S : Sees w1 w1.heap.size ao P.n (fun _ => 0)) => play_tb (sh := sh) (most := most) (cap := cap) (caph := caph) (caps := caps) h1 h2 (hn ⟨h1, h2⟩) S ((SH.below B1 (Nat.le_refl _)).up B1.size) hn63 ((SI.below B1 (Nat.le_refl _)).up B1.size) hjw)
  have UP := hide (fun (base base' b : Nat) er sa k sc wa n wc en aa m ac (w1 w2 : World) => @TB.touch P most sh base base' b er sa wa aa k sc n wc m ac en w1 w2)
  obtain ⟨SB, hSB⟩ : ∃ SB, TB sh P most = SB := ⟨_, rfl⟩
  have NO := hide (fun base sa k sc wa n wc en aa m ac (w2 : World) => show SB base 120 sa k sc wa n wc en aa m ac w2 from by rw [← hSB]; exact fun h => absurd h (by decide))
  rw [hSB] at PL UP ⊢
  clear hSB
  obtain ⟨s0, s1, s2, s3, s4, s5⟩ := sh
  simp only [Shp.val] at PL FB FO ⊢
  clear SH SI hjw hn
  obtain ⟨W0, hW0⟩ : ∃ W0, (w.alloc (.cells #[.int .i64 s0, .int .i64 s1, .int .i64 s2, .int .i64 s3, .int .i64 s4, .int .i64 s5, .slice aw nw cw, .slice aoh P.nh caph, .slice aos P.ns caps, .int .i64 most] 28)).alloc (.cells #[.slice none 0 0, .slice none 0 0, .bool false] 32) = W0 := ⟨_, rfl⟩
  have b0 : Below w.heap.size w W0 := by rw [← hW0]; exact ((Below.refl _ w).alloc (Nat.le_refl _) _).alloc (by simp) _
  have sz0 : W0.heap.size = w.heap.size + 2 := by rw [← hW0]; simp
  have R0 : W0.rowIs w.heap.size 28 10 (lrow [.int .i64 s0, .int .i64 s1, .int .i64 s2, .int .i64 s3, .int .i64 s4, .int .i64 s5, .slice aw nw cw, .slice aoh P.nh caph, .slice aos P.ns caps, .int .i64 most]) := by rw [← hW0]; exact (rowL_alloc w [.int .i64 s0, .int .i64 s1, .int .i64 s2, .int .i64 s3, .int .i64 s4, .int .i64 s5, .slice aw nw cw, .slice aoh P.nh caph, .slice aos P.ns caps, .int .i64 most] _ rfl).alloc _
  have RT : W0.rowIs (w.heap.size + 1) 32 3 (lrow [.slice none 0 0, .slice none 0 0, .bool false]) := by
    rw [← hW0]
    have := rowL_alloc (w.alloc (.cells #[.int .i64 s0, .int .i64 s1, .int .i64 s2, .int .i64 s3, .int .i64 s4, .int .i64 s5, .slice aw nw cw, .slice aoh P.nh caph, .slice aos P.ns caps, .int .i64 most] 28)) [.slice none 0 0, .slice none 0 0, .bool false] 32 (n := 3) rfl
    rwa [World.size_alloc] at this
  have c0 : W0.cell? ⟨w.heap.size, 0, none⟩ = some (.int .i64 s0) := R0.cell (i := 0) (by omega)
  have c1 : W0.cell? ⟨w.heap.size, 1, none⟩ = some (.int .i64 s1) := R0.cell (i := 1) (by omega)
  have c2 : W0.cell? ⟨w.heap.size, 2, none⟩ = some (.int .i64 s2) := R0.cell (i := 2) (by omega)
  have c3 : W0.cell? ⟨w.heap.size, 3, none⟩ = some (.int .i64 s3) := R0.cell (i := 3) (by omega)
  have c4 : W0.cell? ⟨w.heap.size, 4, none⟩ = some (.int .i64 s4) := R0.cell (i := 4) (by omega)
  have c5 : W0.cell? ⟨w.heap.size, 5, none⟩ = some (.int .i64 s5) := R0.cell (i := 5) (by omega)
  have HR0 := hide R0
  have HRT := hide RT
  have HB0 := hide b0
  clear R0 RT b0
  go_enter Try.func14, Try.ntmps14
  by_cases hr : s5 < 1 ∨ 64 < s5
  · have HF := hide (FB.out hr)
    clear FB FO PL
    go_wp2_with fail
    refine (HF.out _).mono ?_
    rintro e w1 ⟨rfl, hg1⟩
    have b1 := below_of_grown_none hg1 _ (Nat.le_refl _)
    have hs1 := b1.size
    have RT1 := HRT.out.of_block (b1.block (w.heap.size + 1) (by omega))
    have z0 : w1.cell? ⟨w.heap.size + 1, 0, none⟩ = some (.slice none 0 0) := RT1.cell (i := 0) (by omega)
    have z1 : w1.cell? ⟨w.heap.size + 1, 1, none⟩ = some (.slice none 0 0) := RT1.cell (i := 1) (by omega)
    have z2 : w1.cell? ⟨w.heap.size + 1, 2, none⟩ = some (.bool false) := RT1.cell (i := 2) (by omega)
    have y0 := RT1.frozen 0
    have y1 := RT1.frozen 1
    have y2 := RT1.frozen 2
    have tt := touch3 w1 (w.heap.size + 1) (.slice none 0 0) (.slice none 0 0) (.bool false)
    have FIN := hide ((HB0.out.trans (b1.mono (by omega))).trans (tt.below (fun k hk => by omega) (by have := HB0.out.size; omega)))
    clear hg1 b1 RT1 tt c0 c1 c2 c3 c4 c5 hW0
    go_wp2_with fail
    go_light
    refine bodyPost_ret (v := .tuple #[.agg #[.slice none 0 0, .slice none 0 0, .bool false], .slice none 0 0, .bool false]) ?_ rfl ⟨FIN.out, none, 0, 0, none, 0, 0, false, none, 0, 0, 120, rfl, NO.out _ _ _ _ _ _ _ _ _ _ _ _⟩
    simp [results, Try.results14, go_sem, *]
  · have h1 : 1 ≤ s5 := by omega
    have h2 : s5 ≤ 64 := by omega
    have HF := hide (FO.out h1 h2)
    have HP := hide (PL.out h1 h2)
    clear FB FO PL
    go_wp2_with fail
    refine (HF.out _).mono ?_
    rintro e w3 ⟨g, rfl, RW, hg, hg3⟩
    have b3 := below_of_grown_none hg3 _ (Nat.le_refl _)
    have hs3 := b3.size
    have S3 := hide RW.sees
    have B3 := hide (HB0.out.trans (b3.mono (by omega)))
    have R3 := HR0.out.of_block (b3.block w.heap.size (by omega))
    have RT3 := hide (HRT.out.of_block (b3.block (w.heap.size + 1) (by omega)))
    have d0 : w3.cell? ⟨w.heap.size, 0, none⟩ = some (.int .i64 s0) := R3.cell (i := 0) (by omega)
    have d1 : w3.cell? ⟨w.heap.size, 1, none⟩ = some (.int .i64 s1) := R3.cell (i := 1) (by omega)
    have d2 : w3.cell? ⟨w.heap.size, 2, none⟩ = some (.int .i64 s2) := R3.cell (i := 2) (by omega)
    have d3 : w3.cell? ⟨w.heap.size, 3, none⟩ = some (.int .i64 s3) := R3.cell (i := 3) (by omega)
    have d4 : w3.cell? ⟨w.heap.size, 4, none⟩ = some (.int .i64 s4) := R3.cell (i := 4) (by omega)
    have d5 : w3.cell? ⟨w.heap.size, 5, none⟩ = some (.int .i64 s5) := R3.cell (i := 5) (by omega)
    have d7 : w3.cell? ⟨w.heap.size, 7, none⟩ = some (.slice aoh P.nh caph) := R3.cell (i := 7) (by omega)
    have d8 : w3.cell? ⟨w.heap.size, 8, none⟩ = some (.slice aos P.ns caps) := R3.cell (i := 8) (by omega)
    have d9 : w3.cell? ⟨w.heap.size, 9, none⟩ = some (.int .i64 most) := R3.cell (i := 9) (by omega)
    clear hg3 b3 RW R3 c0 c1 c2 c3 c4 c5 hW0
    go_wp2_with fail
    refine (HP.out w3 B3.out _ _ S3.out).mono ?_
    rintro e w1 ⟨hb1, sa, k, sc, wa, n, wc, en, aa, m, ac, er, rfl, hS⟩
    have hs1 := hb1.size
    have RT1 := RT3.out.of_block (hb1.block (w.heap.size + 1) (by omega))
    obtain ⟨W2, hW2⟩ : ∃ W2, w1.alloc (.cells #[.slice sa k sc, .slice wa n wc, .bool en] 32) = W2 := ⟨_, rfl⟩
    have R2 : W2.rowIs w1.heap.size 32 3 (lrow [.slice sa k sc, .slice wa n wc, .bool en]) := by rw [← hW2]; exact rowL_alloc w1 [.slice sa k sc, .slice wa n wc, .bool en] _ rfl
    have RT2 : W2.rowIs (w.heap.size + 1) 32 3 (lrow [.slice none 0 0, .slice none 0 0, .bool false]) := by rw [← hW2]; exact RT1.alloc _
    have B2 : Below w.heap.size w W2 := by rw [← hW2]; exact (B3.out.trans (hb1.mono B3.out.size)).alloc (by have := B3.out.size; omega) _
    have T2 : Touch w1 W2 (fun k => k = w.heap.size + 1) := by rw [← hW2]; exact (Touch.refl w1 _).alloc _
    have sz2 : W2.heap.size = w1.heap.size + 1 := by rw [← hW2]; simp
    have e0 : W2.cell? ⟨w1.heap.size, 0, none⟩ = some (.slice sa k sc) := R2.cell (i := 0) (by omega)
    have e1 : W2.cell? ⟨w1.heap.size, 1, none⟩ = some (.slice wa n wc) := R2.cell (i := 1) (by omega)
    have e2 : W2.cell? ⟨w1.heap.size, 2, none⟩ = some (.bool en) := R2.cell (i := 2) (by omega)
    have z0 : W2.cell? ⟨w.heap.size + 1, 0, none⟩ = some (.slice none 0 0) := RT2.cell (i := 0) (by omega)
    have z1 : W2.cell? ⟨w.heap.size + 1, 1, none⟩ = some (.slice none 0 0) := RT2.cell (i := 1) (by omega)
    have z2 : W2.cell? ⟨w.heap.size + 1, 2, none⟩ = some (.bool false) := RT2.cell (i := 2) (by omega)
    have y0 := RT2.frozen 0
    have y1 := RT2.frozen 1
    have y2 := RT2.frozen 2
    have tt := touch3 W2 (w.heap.size + 1) (.slice sa k sc) (.slice wa n wc) (.bool en)
    have FIN := hide (And.intro (B2.trans (tt.below (fun k hk => by omega) (by have := B3.out.size; omega))) (UP.out w3.heap.size w.heap.size (w.heap.size + 1) er sa k sc wa n wc en aa m ac w1 _ hS (T2.trans tt) (by omega) (by omega)))
    clear hb1 hS RT1 R2 RT2 B2 T2 tt d0 d1 d2 d3 d4 d5 d7 d8 d9
    unfold tv3
    go_wp2_with fail
    go_light
    refine bodyPost_ret (v := .tuple #[.agg #[.slice sa k sc, .slice wa n wc, .bool en], .slice aa m ac, .bool (er == 0)]) ?_ rfl ⟨FIN.out.1, sa, k, sc, wa, n, wc, en, aa, m, ac, er, rfl, FIN.out.2⟩
    simp [results, Try.results14, go_sem, *]
end Epoch
end Go.Proofs.Ytbohmahjpolapaa

/-
  Runs of an epoch from fresh words: what stands at each step, and what is told of them.
-/
namespace Go.Proofs.Ytbohmahjpolapaa
open Go.RowKit
set_option linter.unusedVariables false
set_option linter.unusedSimpArgs false
set_option maxRecDepth 20000
namespace Epoch

abbrev rn (r : Nat) (P : Par) (m : Nat) : St (kEpoch r) := runSt P (st0 (kEpoch r) P (fun _ => 0)) m

/-- What is asked of the jobs. -/
def Jok (r : Nat) (P : Par) : Prop := ∀ h, h < P.nh → ∀ j, j < P.jn h → eerr r h (P.jb h j) = 0 ∧ (P.jb h j).wf

theorem iv_start {r : Nat} {P : Par} (hr1 : 1 ≤ r) (hok : Jok r P) : Iv r P (fun _ => 0) (fun _ => 0) (fun h => einit h (P.jb h 0)) (fun _ _ => ⟨false, 0⟩) 0 := by
  refine ⟨fun i _ => ⟨Int.le_refl 0, by show (0 : Int) ≤ 18446744073709551615; decide⟩, ⟨Int.le_refl 0, Int.le_refl 0⟩, fun h hh hd => ?_, fun h hh hd => ⟨Int.le_refl 0, Int.le_refl 0⟩, fun h hh hd e => absurd e (by show ¬ (0 : Int) = 5; decide), fun h hh hd p e => absurd e (by show ¬ bit p 0 = 1; simp [bit]), fun h hh j hj => absurd hj (Nat.not_lt_zero j), fun p hp => ?_⟩
  · have h8 := (eerr_cases (hok h hh _ hd).1).2
    exact ⟨rfl, wf_init (by omega) _ ⟨(hok h hh _ hd).2, h, (hok h hh _ hd).1⟩, by show (if 0 ≤ (h : Int) ∧ (h : Int) < 8 then (h : Int) else 0) = h; rw [if_pos h8]⟩
  · have u : und p P (fun _ => 0) (fun h => einit h (P.jb h 0)) = 0 := sm_zero _ (fun i hi => by
      show (if 0 < P.jn i then bit p 0 else 0) = 0
      split
      · simp [bit]
      · rfl)
    have g : ∀ g' : Jb → Ans → Nat, tot g' P (fun _ => 0) (fun _ _ => ⟨false, 0⟩) = 0 := fun g' => sm_zero _ (fun i hi => rfl)
    rw [u, g, g]
    rfl

theorem one_on {r : Nat} {P : Par} (hr1 : 1 ≤ r) (hr2 : r ≤ 64) (hn : P.n = 9 + r) (hok : Jok r P) {k h : Nat} (hk : k ≤ 65536) {st : St (kEpoch r)} (I : Iv r P st.f st.done st.cur st.ans k) (hh : h < P.nh) (hd : st.done h < P.jn h) :
    Iv r P (stepSt P st h).f (stepSt P st h).done (stepSt P st h).cur (stepSt P st h).ans (k + 1) ∧ ((stepSt P st h).f 0 = st.f 0 ∨ (stepSt P st h).f 0 = u64 (st.f 0 + 1)) :=
  I.step hr1 hr2 hn hok hk hh hd rfl rfl

theorem run_iv {r : Nat} {P : Par} (hr1 : 1 ≤ r) (hr2 : r ≤ 64) (hn : P.n = 9 + r) (hok : Jok r P) : ∀ m, m ≤ 65536 → Iv r P (rn r P m).f (rn r P m).done (rn r P m).cur (rn r P m).ans m
  | 0, _ => iv_start hr1 hok
  | m + 1, hm => by
    have I := run_iv hr1 hr2 hn hok m (by omega)
    rcases run_succ_cases P (st0 (kEpoch r) P (fun _ => 0)) rfl m with ⟨e, _⟩ | ⟨h, _, hh, hd, _, e⟩
    · have e' : rn r P (m + 1) = rn r P m := e
      rw [e']
      exact ⟨I.wd, ⟨I.f0.1, by have := I.f0.2; omega⟩, I.wf, I.ep, I.gz, I.mb, I.av, I.cn⟩
    · have e' : rn r P (m + 1) = stepSt P (rn r P m) h := e
      rw [e']
      exact (one_on hr1 hr2 hn hok (by omega) I hh hd).1

/-- Each step, in the law's words. -/
theorem law_step {r : Nat} {P : Par} (hr1 : 1 ≤ r) (hr2 : r ≤ 64) (hn : P.n = 9 + r) (hok : Jok r P) {m i : Nat} (hm : m ≤ 65536) (hi : i < (rn r P m).k) :
    (((rn r P m).s i).at_ = 0 → ((rn r P m).s i).had = (rn r P i).f 0 ∧ ((rn r P m).s i).put = (rn r P (i + 1)).f 0 ∧ (((rn r P m).s i).put = ((rn r P m).s i).had ∨ ((rn r P m).s i).put = u64 (((rn r P m).s i).had + 1))) ∧ (¬ ((rn r P m).s i).at_ = 0 → (rn r P (i + 1)).f 0 = (rn r P i).f 0) := by
  obtain ⟨hk, ⟨h, _, hh, hg, e⟩, es⟩ := hist P (st0 (kEpoch r) P (fun _ => 0)) rfl m i hi
  have hle : i ≤ m := by
    have := (runSt_k P (st0 (kEpoch r) P (fun _ => 0)) rfl m).1
    have hi' : i < (runSt P (st0 (kEpoch r) P (fun _ => 0)) m).k := hi
    omega
  have I := run_iv hr1 hr2 hn hok i (by omega)
  have ex : (rn r P m).s i = stepOf P.n (rn r P i).f (ereq ((rn r P i).cur h)) := by
    show (runSt P (st0 (kEpoch r) P (fun _ => 0)) m).s i = _
    rw [es, e]
    show upd (runSt P (st0 (kEpoch r) P (fun _ => 0)) i).s (runSt P (st0 (kEpoch r) P (fun _ => 0)) i).k _ i = _
    rw [hk, upd_same]
    rfl
  have e' : rn r P (i + 1) = stepSt P (rn r P i) h := e
  have ef : (rn r P (i + 1)).f = wordsOf P.n (rn r P i).f (ereq ((rn r P i).cur h)) := by rw [e']; rfl
  obtain ⟨w1, w2⟩ := word0 (n := P.n) (by omega) (rn r P i).f (ereq ((rn r P i).cur h))
  have sa := (step_at P.n (rn r P i).f (ereq ((rn r P i).cur h))).1
  have o := (one_on hr1 hr2 hn hok (by omega) I hh hg).2
  rw [← e'] at o
  rw [ex, sa, ef]
  refine ⟨fun h0 => ?_, fun h0 => w2 h0⟩
  obtain ⟨a, b⟩ := w1 h0
  rw [ef] at o
  refine ⟨a, b, ?_⟩
  rw [b, a]
  exact o

theorem had_put {r : Nat} {P : Par} (hr1 : 1 ≤ r) (hr2 : r ≤ 64) (hn : P.n = 9 + r) (hok : Jok r P) {m i : Nat} (hm : m ≤ 65536) (hi : i < (rn r P m).k) : 0 ≤ ((rn r P m).s i).had ∧ ((rn r P m).s i).had ≤ 18446744073709551615 := by
  obtain ⟨hk, ⟨h, _, hh, hg, e⟩, es⟩ := hist P (st0 (kEpoch r) P (fun _ => 0)) rfl m i hi
  have hle : i ≤ m := by
    have := (runSt_k P (st0 (kEpoch r) P (fun _ => 0)) rfl m).1
    have hi' : i < (runSt P (st0 (kEpoch r) P (fun _ => 0)) m).k := hi
    omega
  have I := run_iv hr1 hr2 hn hok i (by omega)
  have ex : (rn r P m).s i = stepOf P.n (rn r P i).f (ereq ((rn r P i).cur h)) := by
    show (runSt P (st0 (kEpoch r) P (fun _ => 0)) m).s i = _
    rw [es, e]
    show upd (runSt P (st0 (kEpoch r) P (fun _ => 0)) i).s (runSt P (st0 (kEpoch r) P (fun _ => 0)) i).k _ i = _
    rw [hk, upd_same]
    rfl
  rw [ex]
  exact had_bounds I.wd _

/-- Where all have ended, what was given up and not reaped stands in the words. -/
theorem end_cn {r : Nat} {P : Par} (hr1 : 1 ≤ r) (hr2 : r ≤ 64) (hn : P.n = 9 + r) (hok : Jok r P) {m : Nat} (hm : m ≤ 65536) (hd : ∀ h, h < P.nh → (rn r P m).done h = P.jn h) {p : Nat} (hp : p < r) :
    tot (gv p) P (rn r P m).done (rn r P m).ans = tot (rp p) P (rn r P m).done (rn r P m).ans + nz ((rn r P m).f (9 + p)) := by
  have I := run_iv hr1 hr2 hn hok m hm
  have u : und p P (rn r P m).done (rn r P m).cur = 0 := sm_zero _ (fun i hi => by
    show (if (rn r P m).done i < P.jn i then _ else 0) = 0
    rw [if_neg (by rw [hd i hi]; omega)])
  have := I.cn p hp
  rw [u] at this
  omega

/-- What a run from fresh words told. -/
def SE (r : Nat) (P : Par) (m0 : Nat) (er : Int) (sa : Option Addr) (k : Nat) (wa : Option Addr) (n : Nat) (en : Bool) (aa : Option Addr) (m : Nat) (w' : World) : Prop :=
  er = 0 → (1 ≤ r ∧ r ≤ 64) ∧ P.n = 9 + r ∧ m0 ≤ 65536 ∧ P.nh ≤ 8 ∧ (∀ h, h < P.nh → P.jn h ≤ 256) ∧ (∀ h, h < P.nh → (rn r P m0).done h ≤ P.jn h) ∧ (∀ h, h < P.nh → ∀ j, j < P.jn h → eerr r h (P.jb h j) = 0) ∧ k = (rn r P m0).k ∧ m = P.nh ∧ n = P.n ∧ en = decide (cnt ((rn r P m0).going P) P.nh = 0) ∧ SeesS w' w'.heap.size sa (rn r P m0).k (rn r P m0).s ∧ Sees w' w'.heap.size wa P.n (rn r P m0).f ∧ SeesA w' w'.heap.size aa P.nh (rn r P m0).done (rn r P m0).ans

theorem se_of {sh : Shp} {P : Par} {most : Int} {base : Nat} {er : Int} {sa : Option Addr} {k sc : Nat} {wa : Option Addr} {n wc : Nat} {en : Bool} {aa : Option Addr} {m ac : Nat} {w' : World} {r : Nat} (hr : 1 ≤ sh.f ∧ sh.f ≤ 64 → sh.f = (r : Int) ∧ P.n = 9 + r) (h : TB sh P most base er sa k sc wa n wc en aa m ac w') : SE r P most.toNat er sa k wa n en aa m w' := by
  intro h0
  obtain ⟨h12, ⟨hok, hF⟩, hT⟩ := h h0
  obtain ⟨hr', hn⟩ := hr h12
  rw [hr'] at hok hT
  obtain ⟨blk, c, g', sv, ev, H, G, GS, R, hg, hne⟩ := hT
  simp only [tv3, Value.tuple.injEq, Array.mk.injEq, List.cons.injEq, Value.agg.injEq, Value.slice.injEq, Value.bool.injEq, and_true, true_and] at ev
  obtain ⟨⟨e1, ⟨e2, e3, e4⟩, e5⟩, e6, e7, e8⟩ := ev
  obtain ⟨sa', sc', es⟩ := GS.isSlice'
  rw [es] at e1
  simp only [Value.slice.injEq] at e1
  obtain ⟨rfl, rfl, _⟩ := e1
  subst e2 e3 e5 e6 e7
  rw [es] at GS
  refine ⟨⟨by omega, by omega⟩, hn, by have := hF.2.2.2.2; omega, ?_, fun h hh => G.jobs h hh, fun h hh => G.doneLe h hh, fun h hh j hj => hok h hh j hj, rfl, rfl, rfl, rfl, GS.seesS H, R.sees, seesA_of G.answers H⟩
  rcases Nat.lt_or_ge 8 P.nh with l | l
  · exact absurd (.inl l) hF.2.1
  · exact l

/-- All have ended: each hand has done its jobs. -/
theorem all_done {r : Nat} {P : Par} {m : Nat} (hc : cnt ((rn r P m).going P) P.nh = 0) (hle : ∀ h, h < P.nh → (rn r P m).done h ≤ P.jn h) {h : Nat} (hh : h < P.nh) : (rn r P m).done h = P.jn h := by
  have := cnt_zero hc h hh
  have hl := hle h hh
  simp only [St.going, decide_eq_false_iff_not] at this
  omega
end Epoch
end Go.Proofs.Ytbohmahjpolapaa

/-
  EpochSafe: the law's bookkeeping along a run from fresh words, step by step.
-/
namespace Go.Proofs.Ytbohmahjpolapaa
open Go.RowKit
set_option linter.unusedVariables false
set_option linter.unusedSimpArgs false
set_option maxRecDepth 20000
namespace Epoch

theorem sv_start {r : Nat} {P : Par} {g : Nat → Nat → Stp} : Sv r P (fun _ => 0) (fun _ => 0) (fun h => einit h (P.jb h 0)) ⟨fun _ => 0, fun _ => 0, fun _ => 0, fun _ => 0, g⟩ (fun _ => 0) 0 :=
  ⟨fun _ => Nat.le_refl 0, fun i hi => absurd hi (Nat.lt_irrefl 0), fun i hi => absurd hi (Nat.lt_irrefl 0), fun _ => Nat.le_refl 0, fun p hp => ⟨Nat.le_refl 0, ⟨fun _ => rfl, fun _ => rfl⟩, by show (0 : Int) ≤ 0 + 1; decide⟩, fun p hp i hi => absurd hi (Nat.lt_irrefl 0), fun h hh hd => HQ.init h h _ _ _ _ _, fun h hh hd => rfl, fun _ => Nat.le_refl 0⟩

/-- One step, in the law's words. -/
structure LS (r : Nat) (P : Par) (i : Nat) (x : Stp) (L : Lw) (h : Nat) (en : Bool) : Prop where
  hh : h < P.nh
  h8 : h < 8
  hd : (rn r P i).done h < P.jn h
  hand : x.hand = (h : Int)
  lo : 0 ≤ x.at_
  hi : x.at_ < 9 + (r : Int)
  had : 0 ≤ x.had ∧ x.had ≤ 18446744073709551615
  act : x.act = 1 ∨ x.act = 2 ∨ x.act = 5
  kd : (P.jb h ((rn r P i).done h)).kind = 1 ∨ (P.jb h ((rn r P i).done h)).kind = 2 ∨ (P.jb h ((rn r P i).done h)).kind = 3 ∨ (P.jb h ((rn r P i).done h)).kind = 4
  ends : lends r (P.jb h ((rn r P i).done h)).kind (L.md h) (L.ml h) x = en
  dn : (rn r P (i + 1)).done = if en = true then upd (rn r P i).done h ((rn r P i).done h + 1) else (rn r P i).done
  ck : (P.jb h ((rn r P i).done h)).kind = 4 → x.act = 5 → 9 ≤ x.at_ → x.ok = true → ¬ L.giv (x.at_ - 9).toNat = 0 ∧ ∀ i, ¬ (0 < L.ins i ∧ L.ins i < L.giv (x.at_ - 9).toNat)
  cas : x.act = 5 → 9 ≤ x.at_ → (P.jb h ((rn r P i).done h)).kind = 3 ∨ (P.jb h ((rn r P i).done h)).kind = 4
  on : ∃ E0', Sv r P (rn r P (i + 1)).f (rn r P (i + 1)).done (rn r P (i + 1)).cur (L.next h i (P.jb h ((rn r P i).done h)).kind x en) E0' (i + 1)

theorem req_facts {r : Nat} {s : EpS} (W : Wf r s) (hr : r ≤ 64) : 0 ≤ (ereq s).at_ ∧ (ereq s).at_ < 9 + (r : Int) ∧ ((ereq s).act = 1 ∨ (ereq s).act = 2 ∨ (ereq s).act = 5) ∧ ((ereq s).act = 5 → 9 ≤ (ereq s).at_ → s.j.kind = 3 ∨ s.j.kind = 4) ∧ (ereq s).hand = s.hand := by
  have hh := W.hand
  have hn := W.nx
  have n4 := W.nx4
  have n1 := W.nx1
  rcases W.st with ⟨kk, hst⟩ | ⟨kk, hst⟩ | ⟨kk, hja, hst⟩ | ⟨kk, hst⟩
  · rcases hst with hst | hst
    · have e4 : ereq s = ⟨s.hand, 1, 0, 0, 0, true⟩ := by simp [ereq, kk, hst]
      rw [e4]; exact ⟨Int.le_refl 0, by show (0 : Int) < _; omega, .inl rfl, fun e => absurd e (by show ¬ (1 : Int) = 5; decide), rfl⟩
    · have e4 : ereq s = ⟨s.hand, 2, 1 + s.hand, 0, u64 (s.e + 1), true⟩ := by simp [ereq, kk, hst]
      rw [e4]; exact ⟨by show 0 ≤ 1 + s.hand; omega, by show 1 + s.hand < _; omega, .inr (.inl rfl), fun e => absurd e (by show ¬ (2 : Int) = 5; decide), rfl⟩
  · have e4 : ereq s = ⟨s.hand, 2, 1 + s.hand, 0, 0, true⟩ := by simp [ereq, kk]
    rw [e4]; exact ⟨by show 0 ≤ 1 + s.hand; omega, by show 1 + s.hand < _; omega, .inr (.inl rfl), fun e => absurd e (by show ¬ (2 : Int) = 5; decide), rfl⟩
  · rcases hst with hst | hst
    · have e4 : ereq s = ⟨s.hand, 1, 0, 0, 0, true⟩ := by simp [ereq, kk, hst]
      rw [e4]; exact ⟨Int.le_refl 0, by show (0 : Int) < _; omega, .inl rfl, fun e => absurd e (by show ¬ (1 : Int) = 5; decide), rfl⟩
    · have e4 : ereq s = ⟨s.hand, 5, 9 + s.j.a, 0, u64 (s.e + 1), true⟩ := by simp [ereq, kk, hst]
      rw [e4]; exact ⟨by show 0 ≤ 9 + s.j.a; omega, by show 9 + s.j.a < _; omega, .inr (.inr rfl), fun _ _ => .inl kk, rfl⟩
  · obtain hst | hst | hst | hst | hst | hst : s.st = 0 ∨ s.st = 1 ∨ s.st = 2 ∨ s.st = 3 ∨ s.st = 4 ∨ s.st = 5 := by omega
    · have e4 : ereq s = ⟨s.hand, 1, 0, 0, 0, true⟩ := by simp [ereq, kk, hst]
      rw [e4]; exact ⟨Int.le_refl 0, by show (0 : Int) < _; omega, .inl rfl, fun _ _ => .inr kk, rfl⟩
    · have e4 : ereq s = ⟨s.hand, 1, 1 + s.nx, 0, 0, true⟩ := by simp [ereq, kk, hst]
      have := n1 hst
      rw [e4]; exact ⟨by show 0 ≤ 1 + s.nx; omega, by show 1 + s.nx < _; omega, .inl rfl, fun _ _ => .inr kk, rfl⟩
    · have e4 : ereq s = ⟨s.hand, 5, 0, s.e, u64 (s.e + 1), true⟩ := by simp [ereq, kk, hst]
      rw [e4]; exact ⟨Int.le_refl 0, by show (0 : Int) < _; omega, .inr (.inr rfl), fun _ _ => .inr kk, rfl⟩
    · have e4 : ereq s = ⟨s.hand, 1, 0, 0, 0, true⟩ := by simp [ereq, kk, hst]
      rw [e4]; exact ⟨Int.le_refl 0, by show (0 : Int) < _; omega, .inl rfl, fun _ _ => .inr kk, rfl⟩
    · have e4 : ereq s = ⟨s.hand, 1, 9 + s.nx, 0, 0, true⟩ := by simp [ereq, kk, hst]
      have := n4 (by omega)
      rw [e4]; exact ⟨by show 0 ≤ 9 + s.nx; omega, by show 9 + s.nx < _; omega, .inl rfl, fun _ _ => .inr kk, rfl⟩
    · have e4 : ereq s = ⟨s.hand, 5, 9 + s.nx, s.given, 0, true⟩ := by simp [ereq, kk, hst]
      have := n4 (by omega)
      rw [e4]; exact ⟨by show 0 ≤ 9 + s.nx; omega, by show 9 + s.nx < _; omega, .inr (.inr rfl), fun _ _ => .inr kk, rfl⟩

theorem step_act (n : Nat) (f : Nat → Int) (q : Stp) (h : q.act = 1 ∨ q.act = 2 ∨ q.act = 5) : (stepOf n f q).act = q.act := by
  have e : actOf q.act = q.act := by rcases h with h | h | h <;> rw [h] <;> rfl
  unfold stepOf
  split <;> exact e

theorem law_sv {r : Nat} {P : Par} (hr1 : 1 ≤ r) (hr2 : r ≤ 64) (hn : P.n = 9 + r) (hok : Jok r P) {m i : Nat} (hm : m ≤ 65536) (hi : i < (rn r P m).k) {L : Lw} {E0 : Nat → Int} (S : Sv r P (rn r P i).f (rn r P i).done (rn r P i).cur L E0 i) :
    ∃ h en, LS r P i ((rn r P m).s i) L h en := by
  obtain ⟨hk, ⟨h, _, hh, hg, e⟩, es⟩ := hist P (st0 (kEpoch r) P (fun _ => 0)) rfl m i hi
  have hle : i ≤ m := by
    have := (runSt_k P (st0 (kEpoch r) P (fun _ => 0)) rfl m).1
    have hi' : i < (runSt P (st0 (kEpoch r) P (fun _ => 0)) m).k := hi
    omega
  have I := run_iv hr1 hr2 hn hok i (by omega)
  have ex : (rn r P m).s i = stepOf P.n (rn r P i).f (ereq ((rn r P i).cur h)) := by
    show (runSt P (st0 (kEpoch r) P (fun _ => 0)) m).s i = _
    rw [es, e]
    show upd (runSt P (st0 (kEpoch r) P (fun _ => 0)) i).s (runSt P (st0 (kEpoch r) P (fun _ => 0)) i).k _ i = _
    rw [hk, upd_same]
    rfl
  have e' : rn r P (i + 1) = stepSt P (rn r P i) h := e
  obtain ⟨hj, W, hha⟩ := I.wf h hh hg
  obtain ⟨q1, q2, q3, q4, q5⟩ := req_facts W hr2
  obtain ⟨sa1, sa2⟩ := step_at P.n (rn r P i).f (ereq ((rn r P i).cur h))
  have sc := step_act P.n (rn r P i).f (ereq ((rn r P i).cur h)) q3
  obtain ⟨⟨E0', S'⟩, le, ck⟩ := S.step hr1 hr2 hn hok (by omega) I hh hg rfl rfl
  have ec := eerr_cases (hok h hh _ hg).1
  have kd : (P.jb h ((rn r P i).done h)).kind = 1 ∨ (P.jb h ((rn r P i).done h)).kind = 2 ∨ (P.jb h ((rn r P i).done h)).kind = 3 ∨ (P.jb h ((rn r P i).done h)).kind = 4 := by
    rcases ec.1 with t | t | t | t
    · exact .inl t
    · exact .inr (.inl t)
    · exact .inr (.inr (.inl t.1))
    · exact .inr (.inr (.inr t))
  rw [hj] at S' le ck q4
  rw [ex]
  refine ⟨h, eends r ((rn r P i).cur h) (stepOf P.n (rn r P i).f (ereq ((rn r P i).cur h))), hh, by omega, hg, by rw [sa2, q5, hha], by rw [sa1]; exact q1, by rw [sa1]; exact q2, had_bounds I.wd _, by rw [sc]; exact q3, kd, le, by rw [e']; rfl, ck, by rw [sc, sa1]; exact q4, E0', ?_⟩
  rw [e']
  exact S'
end Epoch
end Go.Proofs.Ytbohmahjpolapaa

/-
  Small things for the laws of the epoch.
-/
namespace Go.Proofs.Ytbohmahjpolapaa
open Go.RowKit
set_option linter.unusedVariables false
set_option linter.unusedSimpArgs false
set_option linter.unnecessarySimpa false
set_option maxRecDepth 20000
namespace Epoch

theorem meas_b {k n : Nat} (h : k < n) : n - (intOf (.int .i64 ((k : Int) + 1))).toNat < n - (intOf (.int .i64 (k : Int))).toNat := by
  show n - ((k : Int) + 1).toNat < n - (k : Int).toNat
  omega

theorem vi_b {i : Nat} : Value.int .i64 ((i : Int) + 1) = .int .i64 ((i + 1 : Nat) : Int) := by simp

theorem below_drewN {b : Nat} {w wr : World} (h : Below b w wr) (m : Nat) : Below b w (wr.drewN m) := ⟨h.os, h.tape, h.output, h.size, h.block⟩

theorem infoI : (Try.prog.info? 3).map (fun i => (i.zero.map Value.cells, i.size, i.bytes)) = some (some #[.int .i64 0], 1, 8) := by kernel_rfl

theorem bit_and {v : Int} (q : Nat) (hv : 0 ≤ v ∧ v ≤ 18446744073709551615) : bits .and .u64 (v / 2 ^ q) 1 = ((bit q v : Nat) : Int) := by
  obtain ⟨m, rfl⟩ : ∃ m : Nat, v = m := ⟨v.toNat, by omega⟩
  have e0 : ((m : Int) / 2 ^ q) = ((m / 2 ^ q : Nat) : Int) := by simp
  have hlt : m / 2 ^ q < 2 ^ 64 := Nat.lt_of_le_of_lt (Nat.div_le_self _ _) (by omega)
  have e1 : bits .and .u64 ((m / 2 ^ q : Nat) : Int) 1 = IntKind.u64.wrap (((BitVec.ofInt 64 ((m / 2 ^ q : Nat) : Int)) &&& (BitVec.ofInt 64 1)).toNat : Int) := rfl
  have e2 : (BitVec.ofInt 64 ((m / 2 ^ q : Nat) : Int)).toNat = m / 2 ^ q := by rw [BitVec.ofInt_natCast, BitVec.toNat_ofNat, Nat.mod_eq_of_lt hlt]
  have e3 : (BitVec.ofInt 64 1).toNat = 1 := rfl
  rw [e0, e1, BitVec.toNat_and, e2, e3, Nat.and_one_is_mod, IntKind.wrap_u64]
  have e4 : m / 2 ^ q % 2 = bit q (m : Int) := by
    unfold bit
    rw [Int.toNat_natCast, Nat.testBit_eq_decide_div_mod_eq]
    by_cases h : m / 2 ^ q % 2 = 1
    · rw [h]; simp
    · rw [if_neg (by simpa using h)]; omega
  rw [e4]
  have := bit_le q (m : Int)
  omega
end Epoch
end Go.Proofs.Ytbohmahjpolapaa

/-
  EpochSafe: does the last of a job's steps end it? The law's own function.
-/
namespace Go.Proofs.Ytbohmahjpolapaa
open Go.RowKit
set_option linter.unusedVariables false
set_option linter.unusedSimpArgs false
set_option linter.unnecessarySimpa false
set_option maxRecDepth 20000
namespace Epoch

/-- As the law's function reckons it, over all steps. -/
def lend (r : Nat) (kind : Int) (G : Nat → Stp) (n : Nat) : Bool :=
  if kind = 1 ∨ kind = 3 then decide (n = 1) else if kind = 2 then true
  else if ¬ (G n).at_ = 8 + (r : Int) ∨ n < 2 then false
  else decide ((G n).act = 5 ∨ (G n).had = 0 ∨ lf G (n + 1) < u64 ((G n).had + 1))
theorem lend_of (r : Nat) (kind : Int) (g : Nat → Stp) (n : Nat) (x : Stp) : lend r kind (upd g n x) n = lends r kind g n x := by
  unfold lend lends
  rw [upd_same]

theorem lf_one (G : Nat → Stp) : lf G 1 = 0 := rfl
theorem lf_two {G : Nat → Stp} {i : Nat} (h : 1 ≤ i) : lf G (i + 1) = if (G i).at_ = 0 ∧ (G i).act = 1 then (G i).had else lf G i := by
  show (if 1 ≤ i ∧ (G i).at_ = 0 ∧ (G i).act = 1 then _ else _) = _
  by_cases c : (G i).at_ = 0 ∧ (G i).act = 1
  · rw [if_pos c, if_pos ⟨h, c⟩]
  · rw [if_neg c, if_neg (fun t => c t.2)]

set_option maxHeartbeats 4000000 in
theorem ends_ok {w : World} {r n cap : Nat} {kind : Int} {b off : Nat} {G : Nat → Stp} (hr : r ≤ 64) (hn : n ≤ 65536) (hk : kind = 1 ∨ kind = 2 ∨ kind = 3 ∨ kind = 4) (lb : b < w.heap.size) (hc : ∀ i, i < n + 1 → ∀ q, q < 6 → w.cell? ⟨b, off + i * 6 + q, none⟩ = some ((G i).cell q)) :
    Calls Try.prog 15 #[.int .i64 (r : Int), .int .i64 kind, .slice (some ⟨b, off, none⟩) (n + 1) cap] w fun e w' => e = .returned (.bool (lend r kind G n)) ∧ Below w.heap.size w w' := by
  have p0 := hc n (by omega) 0 (by decide)
  have p1 := hc n (by omega) 1 (by decide)
  have p2 := hc n (by omega) 2 (by decide)
  have p3 := hc n (by omega) 3 (by decide)
  have p4 := hc n (by omega) 4 (by decide)
  have p5 := hc n (by omega) 5 (by decide)
  have HC := hide hc
  obtain ⟨x, hx⟩ : ∃ x, G n = x := ⟨_, rfl⟩
  have HX := hide hx
  rw [hx] at p0 p1 p2 p3 p4 p5
  obtain ⟨xh, xa, xt, xd, xp, xo⟩ := x
  simp only [Stp.cell, Nat.add_zero] at p0 p1 p2 p3 p4 p5
  obtain ⟨W1, hW1⟩ : ∃ W1, w.alloc (.cells #[.int .i64 xh, .int .i64 xa, .int .i64 xt, .int .u64 xd, .int .u64 xp, .bool xo] 47) = W1 := ⟨_, rfl⟩
  have R1 : W1.rowIs w.heap.size 47 6 (lrow [.int .i64 xh, .int .i64 xa, .int .i64 xt, .int .u64 xd, .int .u64 xp, .bool xo]) := by rw [← hW1]; exact rowL_alloc w [.int .i64 xh, .int .i64 xa, .int .i64 xt, .int .u64 xd, .int .u64 xp, .bool xo] _ rfl
  have B1 := hide (show Below w.heap.size w W1 from by rw [← hW1]; exact (Below.refl _ w).alloc (Nat.le_refl _) _)
  have cw1 : W1.cell? ⟨w.heap.size, 1, none⟩ = some (.int .i64 xa) := R1.cell (i := 1) (by decide)
  have cw2 : W1.cell? ⟨w.heap.size, 2, none⟩ = some (.int .i64 xt) := R1.cell (i := 2) (by decide)
  have cw3 : W1.cell? ⟨w.heap.size, 3, none⟩ = some (.int .u64 xd) := R1.cell (i := 3) (by decide)
  have lw1 := R1.lt
  have HK := hide hk
  clear hc hx hk R1
  go_enter Try.func15, Try.ntmps15
  go_upto_region 2 with (fail)
  try rw [hW1]
  clear hW1 p0 p1 p2 p3 p4 p5
  rcases HK.out with rfl | rfl | rfl | rfl
  · by_cases e : n = 1
    · subst e
      go_wp2_with fail
      go_ret
      exact ⟨rfl, B1.out⟩
    · have e1 : lend r 1 G n = false := by simp [lend, e]
      have E1 := hide e1
      clear e1
      have e2 : ((((n + 1 : Nat) : Int)) == 2) = false := by simpa using (show ¬ ((n : Int) + 1 = 2) by omega)
      have e3 : (((n : Int) + 1) == 2) = false := by simpa using (show ¬ ((n : Int) + 1 = 2) by omega)
      have e4 : ¬ ((n : Int) + 1 = 2) := by omega
      go_wp2_with fail
      go_ret
      exact ⟨by rw [E1.out]; simp [e4], B1.out⟩
  · have e1 : lend r 2 G n = true := by simp [lend]
    have E1 := hide e1
    clear e1
    go_wp2_with fail
    go_ret
    exact ⟨by rw [E1.out]; rfl, B1.out⟩
  · by_cases e : n = 1
    · subst e
      go_wp2_with fail
      go_ret
      exact ⟨rfl, B1.out⟩
    · have e1 : lend r 3 G n = false := by simp [lend, e]
      have E1 := hide e1
      clear e1
      have e2 : ((((n + 1 : Nat) : Int)) == 2) = false := by simpa using (show ¬ ((n : Int) + 1 = 2) by omega)
      have e3 : (((n : Int) + 1) == 2) = false := by simpa using (show ¬ ((n : Int) + 1 = 2) by omega)
      have e4 : ¬ ((n : Int) + 1 = 2) := by omega
      go_wp2_with fail
      go_ret
      exact ⟨by rw [E1.out]; simp [e4], B1.out⟩
  · have w8 : wrap64 (8 + (r : Int)) = 8 + (r : Int) := by unfold wrap64; omega
    by_cases e : xt = 8 + (r : Int)
    · subst e
      by_cases n2 : n < 2
      · have e1 : lend r 4 G n = false := by simp [lend, n2]
        have E1 := hide e1
        clear e1
        have e4 : ((n : Int) + 1 < 3) := by omega
        go_wp2_with fail
        go_ret
        exact ⟨by rw [E1.out]; rfl, B1.out⟩
      · have e1 : lend r 4 G n = decide (xa = 5 ∨ xd = 0 ∨ lf G (n + 1) < u64 (xd + 1)) := by
          have hx := HX.out
          simp [lend, n2, hx]
        have E1 := hide e1
        clear e1
        have e4 : ¬ ((n : Int) + 1 < 3) := by omega
        obtain ⟨F, hF⟩ : ∃ F, lf G = F := ⟨_, rfl⟩
        have F1 : F 1 = 0 := by rw [← hF]; rfl
        have F2 := hide (fun (i : Nat) (hi : 1 ≤ i) => show F (i + 1) = if (G i).at_ = 0 ∧ (G i).act = 1 then (G i).had else F i from by rw [← hF]; exact lf_two hi)
        rw [hF] at E1
        clear hF HX
        go_wp2_with fail
        go_loopw [8, 9] (fun v8 v9 wr => ∃ i : Nat, 1 ≤ i ∧ i ≤ n + 1 ∧ v9 = .int .i64 (i : Int) ∧ v8 = .int .u64 (F i) ∧ wr = W1) (fun _ v9 _ => n + 1 - (intOf v9).toNat)
        case atStart => exact ⟨1, Nat.le_refl 1, by omega, rfl, by rw [F1], rfl⟩
        case round =>
          obtain ⟨i, hi1, hi, rfl, rfl, rfl⟩ := hrel
          by_cases hlt : i < n + 1
          · have hlt' : (i : Int) < (n : Int) + 1 := by omega
            have f2 := F2.out i hi1
            have p1 := (B1.out.cell (p := ⟨b, off + i * 6 + 1, none⟩) lb).trans (HC.out i hlt 1 (by decide))
            have p2 := (B1.out.cell (p := ⟨b, off + i * 6 + 2, none⟩) lb).trans (HC.out i hlt 2 (by decide))
            have p3 := (B1.out.cell (p := ⟨b, off + i * 6 + 3, none⟩) lb).trans (HC.out i hlt 3 (by decide))
            obtain ⟨y, hy⟩ : ∃ y, G i = y := ⟨_, rfl⟩
            rw [hy] at p1 p2 p3 f2
            obtain ⟨yh, ya, yt, yd, yp, yo⟩ := y
            simp only [Stp.cell] at p1 p2 p3 f2
            clear hy
            by_cases h0 : yt = 0
            · subst h0
              by_cases h1 : ya = 1
              · subst h1
                rw [if_pos ⟨rfl, rfl⟩] at f2
                have HF2 := hide f2
                clear f2
                go_wp2_with fail
                go_roundw
                case rel => exact ⟨i + 1, by omega, hlt, vi_b, by rw [HF2.out], trivial⟩
                case measure => exact meas_b hlt
              · have h1' : (ya == 1) = false := by simpa using h1
                rw [if_neg (fun c => h1 c.2)] at f2
                have HF2 := hide f2
                clear f2 h1
                go_wp2_with fail
                go_roundw
                case rel => exact ⟨i + 1, by omega, hlt, vi_b, by rw [HF2.out], trivial⟩
                case measure => exact meas_b hlt
            · have h0' : (yt == 0) = false := by simpa using h0
              rw [if_neg (fun c => h0 c.1)] at f2
              have HF2 := hide f2
              clear f2 h0
              go_wp2_with fail
              go_roundw
              case rel => exact ⟨i + 1, by omega, hlt, vi_b, by rw [HF2.out], trivial⟩
              case measure => exact meas_b hlt
          · have hlt' : ¬ (i : Int) < (n : Int) + 1 := by omega
            have ei : i = n + 1 := by omega
            subst ei
            obtain ⟨fi, hfi⟩ : ∃ fi, F (n + 1) = fi := ⟨_, rfl⟩
            rw [hfi] at E1
            rw [hfi]
            clear hfi
            by_cases x5 : xa = 5
            · subst x5
              have E2 := hide (E1.out.trans (show _ = true by simp))
              clear E1
              go_wp2_with fail
              go_ret
              exact ⟨by rw [E2.out]; rfl, B1.out⟩
            · have x5' : (xa == 5) = false := by simpa using x5
              by_cases x0 : xd = 0
              · subst x0
                have E2 := hide (E1.out.trans (show _ = true by simp))
                clear E1 x5
                go_wp2_with fail
                go_ret
                exact ⟨by rw [E2.out]; rfl, B1.out⟩
              · have x0' : (xd == 0) = false := by simpa using x0
                obtain ⟨y, hy⟩ : ∃ y, u64 (xd + 1) = y := ⟨_, rfl⟩
                have g1 : IntKind.u64.wrap (xd + 1) = y := by rw [IntKind.wrap_u64, ← hy]; rfl
                by_cases gt : fi < y
                · have E2 := hide (E1.out.trans (show _ = true by simp [hy, gt]))
                  clear E1 hy x5 x0
                  go_wp2_with fail
                  go_ret
                  exact ⟨by rw [E2.out]; rfl, B1.out⟩
                · have E2 := hide (E1.out.trans (show _ = false by simp [hy, gt, x5, x0]))
                  clear E1 hy x5 x0
                  go_wp2_with fail
                  go_ret
                  exact ⟨by rw [E2.out]; rfl, B1.out⟩
    · have e1 : lend r 4 G n = false := by
        have hx := HX.out
        simp [lend, hx, e]
      have E1 := hide e1
      clear e1
      have e2 : (xt != 8 + (r : Int)) = true := by simpa using e
      go_wp2_with fail
      go_ret
      exact ⟨by rw [E1.out]; rfl, B1.out⟩
end Epoch
end Go.Proofs.Ytbohmahjpolapaa

/-
  EpochSafe: what the law keeps, in memory of its own.
-/
namespace Go.Proofs.Ytbohmahjpolapaa
open Go.RowKit
set_option linter.unusedVariables false
set_option linter.unusedSimpArgs false
set_option maxRecDepth 20000
namespace Epoch

theorem grows_congr {blk blk' : Rl → Nat} {c c' : Rl → Option Row} {r : Rl} {e : TypeId} {sz k : Nat} {xs : List Value} {v : Value} (h : Grows blk c r e sz k xs v) (hb : blk' r = blk r) (hc : c' r = c r) : Grows blk' c' r e sz k xs v := by
  unfold Grows at h ⊢
  rw [hb, hc]
  exact h

/-- The law's five rows: who is inside, what is given up, where jobs began, which job, the steps made. -/
structure Lm (w : World) (base g7 g8 g9 g10 g11 r : Nat) (L : Lw) (job : Nat → Nat) (A : Nat → Value) (blk : Rl → Nat) (c : Rl → Option Row) : Prop where
  has : Has w base blk c
  ins : c .mem = some ⟨3, 8, fun q => .int .i64 (L.ins q)⟩
  giv : c .words = some ⟨3, r, fun q => .int .i64 (L.giv q)⟩
  beg : c .run = some ⟨3, 8, fun q => .int .i64 (L.beg q)⟩
  job : c .tasks = some ⟨3, 8, fun q => .int .i64 (job q)⟩
  made : c .answers = some ⟨30, 8, A⟩
  e7 : blk .mem = g7
  e8 : blk .words = g8
  e9 : blk .run = g9
  e10 : blk .tasks = g10
  e11 : blk .answers = g11
  rows : ∀ h, h < 8 → Grows blk c (.arow h) 47 6 (L.ml h) (stepCells (L.md h) (L.ml h)) (A h)

namespace Lm
variable {w w' : World} {base g7 g8 g9 g10 g11 r : Nat} {L : Lw} {job : Nat → Nat} {A : Nat → Value} {blk : Rl → Nat} {c : Rl → Option Row}

theorem row7 (h : Lm w base g7 g8 g9 g10 g11 r L job A blk c) : w.rowIs g7 3 8 (fun q => .int .i64 (L.ins q)) := by have := h.has.row _ _ h.ins; rw [h.e7] at this; exact this
theorem row8 (h : Lm w base g7 g8 g9 g10 g11 r L job A blk c) : w.rowIs g8 3 r (fun q => .int .i64 (L.giv q)) := by have := h.has.row _ _ h.giv; rw [h.e8] at this; exact this
theorem row9 (h : Lm w base g7 g8 g9 g10 g11 r L job A blk c) : w.rowIs g9 3 8 (fun q => .int .i64 (L.beg q)) := by have := h.has.row _ _ h.beg; rw [h.e9] at this; exact this
theorem row10 (h : Lm w base g7 g8 g9 g10 g11 r L job A blk c) : w.rowIs g10 3 8 (fun q => .int .i64 (job q)) := by have := h.has.row _ _ h.job; rw [h.e10] at this; exact this
theorem row11 (h : Lm w base g7 g8 g9 g10 g11 r L job A blk c) : w.rowIs g11 30 8 A := by have := h.has.row _ _ h.made; rw [h.e11] at this; exact this
theorem lo (h : Lm w base g7 g8 g9 g10 g11 r L job A blk c) : base ≤ g7 ∧ base ≤ g8 ∧ base ≤ g9 ∧ base ≤ g10 ∧ base ≤ g11 := by
  have a := h.has.new _ _ h.ins
  have b := h.has.new _ _ h.giv
  have d := h.has.new _ _ h.beg
  have e := h.has.new _ _ h.job
  have f := h.has.new _ _ h.made
  rw [h.e7] at a
  rw [h.e8] at b
  rw [h.e9] at d
  rw [h.e10] at e
  rw [h.e11] at f
  exact ⟨a, b, d, e, f⟩
theorem of_has (h : Lm w base g7 g8 g9 g10 g11 r L job A blk c) (hh : Has w' base blk c) : Lm w' base g7 g8 g9 g10 g11 r L job A blk c := ⟨hh, h.ins, h.giv, h.beg, h.job, h.made, h.e7, h.e8, h.e9, h.e10, h.e11, h.rows⟩
theorem alloc (h : Lm w base g7 g8 g9 g10 g11 r L job A blk c) (o : Obj) : Lm (w.alloc o) base g7 g8 g9 g10 g11 r L job A blk c := h.of_has (h.has.alloc o)
theorem drew (h : Lm w base g7 g8 g9 g10 g11 r L job A blk c) : Lm w.drew base g7 g8 g9 g10 g11 r L job A blk c := h.of_has h.has.drew
theorem below (h : Lm w base g7 g8 g9 g10 g11 r L job A blk c) (hb : Below w.heap.size w w') : Lm w' base g7 g8 g9 g10 g11 r L job A blk c := h.of_has (h.has.below hb)

theorem fn_upd (F : Nat → Nat) (i v : Nat) : (fun j => if j = i then Value.int .i64 (v : Int) else Value.int .i64 (F j : Int)) = fun q => Value.int .i64 ((upd F i v q : Nat) : Int) := by
  funext j
  by_cases e : j = i
  · subst e; rw [if_pos rfl, upd_same]
  · rw [if_neg e, upd_other _ _ e]

theorem set_ins (h : Lm w base g7 g8 g9 g10 g11 r L job A blk c) (i v : Nat) : ∃ c', Lm (w.setCell ⟨g7, i, none⟩ (.int .i64 (v : Int))) base g7 g8 g9 g10 g11 r { L with ins := upd L.ins i v } job A blk c' := by
  have q := h.has.set .mem h.ins i (.int .i64 (v : Int))
  rw [h.e7] at q
  simp only [fn_upd] at q
  exact ⟨_, q, upd_same _ _ _, (upd_other _ _ (by decide)).trans h.giv, (upd_other _ _ (by decide)).trans h.beg, (upd_other _ _ (by decide)).trans h.job, (upd_other _ _ (by decide)).trans h.made, h.e7, h.e8, h.e9, h.e10, h.e11, fun k hk => grows_congr (h.rows k hk) rfl (upd_other _ _ (by simp))⟩
theorem set_giv (h : Lm w base g7 g8 g9 g10 g11 r L job A blk c) (i v : Nat) : ∃ c', Lm (w.setCell ⟨g8, i, none⟩ (.int .i64 (v : Int))) base g7 g8 g9 g10 g11 r { L with giv := upd L.giv i v } job A blk c' := by
  have q := h.has.set .words h.giv i (.int .i64 (v : Int))
  rw [h.e8] at q
  simp only [fn_upd] at q
  exact ⟨_, q, (upd_other _ _ (by decide)).trans h.ins, upd_same _ _ _, (upd_other _ _ (by decide)).trans h.beg, (upd_other _ _ (by decide)).trans h.job, (upd_other _ _ (by decide)).trans h.made, h.e7, h.e8, h.e9, h.e10, h.e11, fun k hk => grows_congr (h.rows k hk) rfl (upd_other _ _ (by simp))⟩
theorem set_beg (h : Lm w base g7 g8 g9 g10 g11 r L job A blk c) (i v : Nat) : ∃ c', Lm (w.setCell ⟨g9, i, none⟩ (.int .i64 (v : Int))) base g7 g8 g9 g10 g11 r { L with beg := upd L.beg i v } job A blk c' := by
  have q := h.has.set .run h.beg i (.int .i64 (v : Int))
  rw [h.e9] at q
  simp only [fn_upd] at q
  exact ⟨_, q, (upd_other _ _ (by decide)).trans h.ins, (upd_other _ _ (by decide)).trans h.giv, upd_same _ _ _, (upd_other _ _ (by decide)).trans h.job, (upd_other _ _ (by decide)).trans h.made, h.e7, h.e8, h.e9, h.e10, h.e11, fun k hk => grows_congr (h.rows k hk) rfl (upd_other _ _ (by simp))⟩
theorem set_job (h : Lm w base g7 g8 g9 g10 g11 r L job A blk c) (i v : Nat) : ∃ c', Lm (w.setCell ⟨g10, i, none⟩ (.int .i64 (v : Int))) base g7 g8 g9 g10 g11 r L (upd job i v) A blk c' := by
  have q := h.has.set .tasks h.job i (.int .i64 (v : Int))
  rw [h.e10] at q
  simp only [fn_upd] at q
  exact ⟨_, q, (upd_other _ _ (by decide)).trans h.ins, (upd_other _ _ (by decide)).trans h.giv, (upd_other _ _ (by decide)).trans h.beg, upd_same _ _ _, (upd_other _ _ (by decide)).trans h.made, h.e7, h.e8, h.e9, h.e10, h.e11, fun k hk => grows_congr (h.rows k hk) rfl (upd_other _ _ (by simp))⟩
theorem fn_updV (F : Nat → Value) (i : Nat) (v : Value) : (fun j => if j = i then v else F j) = upd F i v := by
  funext j
  by_cases e : j = i
  · subst e; rw [if_pos rfl, upd_same]
  · rw [if_neg e, upd_other _ _ e]
/-- A hand's steps are forgotten. -/
theorem set_nil (h : Lm w base g7 g8 g9 g10 g11 r L job A blk c) (i : Nat) : ∃ c', Lm (w.setCell ⟨g11, i, none⟩ (.slice none 0 0)) base g7 g8 g9 g10 g11 r { L with ml := upd L.ml i 0 } job (upd A i (.slice none 0 0)) blk c' := by
  have q := h.has.set .answers h.made i (.slice none 0 0)
  rw [h.e11] at q
  simp only [fn_updV] at q
  have q2 := q.weaken (c' := upd (upd c .answers (some ⟨30, 8, upd A i (.slice none 0 0)⟩)) (.arow i) none) (fun r x e => by
    by_cases e2 : r = .arow i
    · subst e2; rw [upd_same] at e; cases e
    · rw [upd_other _ _ e2] at e; exact e)
  have o : ∀ x : Rl, x ≠ .arow i → x ≠ .answers → upd (upd c .answers (some ⟨30, 8, upd A i (.slice none 0 0)⟩)) (.arow i) none x = c x := fun x h1 h2 => (upd_other _ _ h1).trans (upd_other _ _ h2)
  refine ⟨_, q2, (o _ (by simp) (by simp)).trans h.ins, (o _ (by simp) (by simp)).trans h.giv, (o _ (by simp) (by simp)).trans h.beg, (o _ (by simp) (by simp)).trans h.job, (upd_other _ _ (by simp)).trans (upd_same _ _ _), h.e7, h.e8, h.e9, h.e10, h.e11, fun k hk => ?_⟩
  by_cases e : k = i
  · subst e
    show Grows _ _ _ _ _ (upd L.ml k 0 k) _ (upd A k _ k)
    rw [upd_same, upd_same]
    exact .inl ⟨rfl, rfl, upd_same _ _ _⟩
  · show Grows _ _ _ _ _ (upd L.ml i 0 k) (stepCells (L.md k) (upd L.ml i 0 k)) (upd A i _ k)
    rw [upd_other _ _ e, upd_other _ _ e]
    exact grows_congr (h.rows k hk) rfl (o _ (by simp [e]) (by simp))

/-- A hand's steps, one more: what append leaves, and then the store. -/
theorem set_app (h : Lm w base g7 g8 g9 g10 g11 r L job A blk c) (hb : base ≤ w.heap.size) {i : Nat} (hi : i < 8) {w1 w2 : World} {v' : Value} {x : Stp} (h0 : Touch w w1 (fun _ => False)) (hown : w2.ownsRow base 47 6 v' (L.ml i + 1) (stepCells (L.md i) (L.ml i) ++ x.cells)) (hg : w1.grownBy w2 (A i).ownBlock) (hat : v'.ownBlock = (A i).ownBlock ∨ v'.ownBlock = some w1.heap.size) :
    ∃ nb cap blk' c', v' = .slice (some ⟨nb, 0, none⟩) (L.ml i + 1) cap ∧ base ≤ nb ∧ w2.cell? ⟨g11, i, none⟩ = some (A i) ∧ w2.frozen? ⟨g11, i, none⟩ = false ∧ Lm (w2.setCell ⟨g11, i, none⟩ v') base g7 g8 g9 g10 g11 r { L with ml := upd L.ml i (L.ml i + 1), md := upd L.md i (upd (L.md i) (L.ml i) x) } job (upd A i v') blk' c' := by
  obtain ⟨nb, F, cap, e, H, G, bn, _⟩ := (h.rows i hi).appended h.has hb h0 hown hg hat
  have em : upd c (.arow i) (some ⟨47, cap * 6, F⟩) .answers = some ⟨30, 8, A⟩ := (upd_other _ _ (by simp)).trans h.made
  have q := H.set .answers em i v'
  have eb : upd blk (.arow i) nb .answers = g11 := (upd_other _ _ (by simp)).trans h.e11
  have ce := H.cell em (i := i) hi
  have fe := H.frozen em i
  rw [eb] at q ce fe
  simp only [fn_updV] at q
  have o : ∀ y : Rl, y ≠ .arow i → y ≠ .answers → upd (upd c (.arow i) (some ⟨47, cap * 6, F⟩)) .answers (some ⟨30, 8, upd A i v'⟩) y = c y := fun y h1 h2 => (upd_other _ _ h2).trans (upd_other _ _ h1)
  have ob : ∀ y : Rl, y ≠ .arow i → upd blk (.arow i) nb y = blk y := fun y h1 => upd_other _ _ h1
  refine ⟨nb, cap, _, _, e, bn, ce, fe, q, (o _ (by simp) (by simp)).trans h.ins, (o _ (by simp) (by simp)).trans h.giv, (o _ (by simp) (by simp)).trans h.beg, (o _ (by simp) (by simp)).trans h.job, upd_same _ _ _, (ob _ (by simp)).trans h.e7, (ob _ (by simp)).trans h.e8, (ob _ (by simp)).trans h.e9, (ob _ (by simp)).trans h.e10, eb, fun k hk => ?_⟩
  by_cases e : k = i
  · subst e
    show Grows _ _ _ _ _ (upd L.ml k _ k) (stepCells (upd L.md k _ k) (upd L.ml k _ k)) (upd A k _ k)
    rw [upd_same, upd_same, upd_same]
    have es : stepCells (upd (L.md k) (L.ml k) x) (L.ml k + 1) = stepCells (L.md k) (L.ml k) ++ x.cells := by
      show stepCells _ (L.ml k) ++ (upd (L.md k) (L.ml k) x (L.ml k)).cells = _
      rw [upd_same, stepCells_congr (fun j hj => upd_other _ _ (show j ≠ L.ml k by omega))]
    rw [es]
    exact grows_congr G rfl (upd_other _ _ (by simp))
  · show Grows _ _ _ _ _ (upd L.ml i _ k) (stepCells (upd L.md i _ k) (upd L.ml i _ k)) (upd A i _ k)
    rw [upd_other _ _ e, upd_other _ _ e, upd_other _ _ e]
    exact grows_congr (h.rows k hk) (ob _ (by simp [e])) (o _ (by simp [e]) (by simp))
end Lm
end Epoch
end Go.Proofs.Ytbohmahjpolapaa
