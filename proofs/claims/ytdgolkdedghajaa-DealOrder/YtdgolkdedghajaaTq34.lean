/-
  Lemmas: DealAG, DealOY, DealOM.
-/
import Derived.Test.YtdgolkdedghajaaTq33
import Derived.Test.YtdgolkdedghajaaTq19
import Derived.Test.YtdgolkdedghajaaTq21
import Derived.Test.YtdgolkdedghajaaTq05
import Derived.Test.YtdgolkdedghajaaTq18
/-
  A run from Fresh (the laws' own fresh).
-/
namespace Go.Proofs.Ytdgolkdedghajaa
open Go.RowKit
set_option linter.unusedVariables false
set_option linter.unusedSimpArgs false
set_option linter.unnecessarySimpa false
set_option maxRecDepth 20000
namespace Deal

variable {w : World} {aw : Option Addr} {nw cw : Nat} {ao aoh aos : Option Addr} {cap caph caps : Nat} {P : Par} {most : Int} {sh : Shp}

/-- A run that was taken. -/
def TF (sh : Shp) (P : Par) (most : Int) (base : Nat) (er : Int) (sa : Option Addr) (k sc : Nat) (wa : Option Addr) (n wc : Nat) (en : Bool) (aa : Option Addr) (m ac : Nat) (w' : World) : Prop :=
  er = 0 → (1 ≤ sh.f ∧ sh.f ≤ 64) ∧ (AllOk (kDeal sh.f) P ∧ Fine P most) ∧ Told (kDeal sh.f) P (runSt P (st0 (kDeal sh.f) P (fun _ => 0)) most.toNat) base (tv3 sa k sc wa n wc en aa m ac 0) w'

theorem TF.touch {base base' b : Nat} {er : Int} {sa wa aa : Option Addr} {k sc n wc m ac : Nat} {en : Bool} {w1 w2 : World} (h : TF sh P most base er sa k sc wa n wc en aa m ac w1) (ht : Touch w1 w2 (fun k => k = b)) (hb : b < base) (hbb : base' ≤ base) : TF sh P most base' er sa k sc wa n wc en aa m ac w2 := fun he =>
  ⟨(h he).1, (h he).2.1, told_touch (h he).2.2 ht hb hbb⟩

theorem play_tf (h1 : 1 ≤ sh.f) (h2 : sh.f ≤ 64) (hn : (P.n : Int) = 2 + sh.f) (S : Sees w w.heap.size ao P.n (fun _ => 0)) (SH : SeesH w w.heap.size aoh P.nh P.jn P.jb) (hn63 : P.nh ≤ 9223372036854775807) (SI : SeesI w w.heap.size aos P.ns P.sched) (hjw : ∀ h, h < P.nh → ∀ j, j < P.jn h → (P.jb h j).wf) :
    Calls Try.prog 15 #[sh.val, .slice ao P.n cap, .slice aoh P.nh caph, .slice aos P.ns caps, .int .i64 most] w fun e w' => Below w.heap.size w w' ∧ ∃ sa k sc wa n wc en aa m ac er, e = .returned (tv3 sa k sc wa n wc en aa m ac er) ∧ TF sh P most w.heap.size er sa k sc wa n wc en aa m ac w' := by
  refine (play_all h1 h2 hn S (fun i _ => ⟨Int.le_refl 0, by show (0 : Int) ≤ 18446744073709551615; decide⟩) SH hn63 SI hjw).mono fun e w' h => ?_
  refine ⟨h.1, ?_⟩
  rcases h.2 with ⟨er, hle, he⟩ | ⟨hn', hF, hok, v, he, hT⟩
  · refine ⟨none, 0, 0, none, 0, 0, false, none, 0, 0, er, he, fun h0 => ?_⟩
    rcases hle with ⟨_, rfl⟩ | ⟨_, h⟩
    · exact absurd h0 (by decide)
    · exact absurd h0 h.ne
  · obtain ⟨sa, k, sc, wa, n, wc, en, aa, m, ac, rfl⟩ := told_shape hT
    exact ⟨sa, k, sc, wa, n, wc, en, aa, m, ac, 0, he, fun _ => ⟨⟨h1, h2⟩, ⟨hok, hF⟩, hT⟩⟩

set_option maxHeartbeats 8000000 in
theorem freshF_any (hn : 1 ≤ sh.f ∧ sh.f ≤ 64 → (P.n : Int) = 2 + sh.f) (SH : SeesH w w.heap.size aoh P.nh P.jn P.jb) (hn63 : P.nh ≤ 9223372036854775807) (SI : SeesI w w.heap.size aos P.ns P.sched) (hjw : ∀ h, h < P.nh → ∀ j, j < P.jn h → (P.jb h j).wf) :
    Calls Try.prog 9 #[.agg #[.int .i64 sh.a, .int .i64 sh.b, .int .i64 sh.c, .int .i64 sh.d, .int .i64 sh.e, .int .i64 sh.f, .slice aw nw cw, .slice aoh P.nh caph, .slice aos P.ns caps, .int .i64 most]] w fun e w' => Below w.heap.size w w' ∧ ∃ sa k sc wa n wc en aa m ac er, e = .returned (.tuple #[.agg #[.slice sa k sc, .slice wa n wc, .bool en], .slice aa m ac, .bool (er == 0)]) ∧ TF sh P most w.heap.size er sa k sc wa n wc en aa m ac w' := by
  have FB := hide (fun (h : sh.f < 1 ∨ 64 < sh.f) (w1 : World) => fresh_bad w1 sh h)
  have FO := hide (fun (h1 : 1 ≤ sh.f) (h2 : sh.f ≤ 64) (w1 : World) => fresh_ok w1 sh h1 h2 (want := P.n) (hn ⟨h1, h2⟩))
  have PL := hide (fun (h1 : 1 ≤ sh.f) (h2 : sh.f ≤ 64) (w1 : World) (B1 : Below w.heap.size w w1) ao cap (S : Sees w1 w1.heap.size ao P.n (fun _ => 0)) => play_tf (sh := sh) (most := most) (cap := cap) (caph := caph) (caps := caps) h1 h2 (hn ⟨h1, h2⟩) S ((SH.below B1 (Nat.le_refl _)).up B1.size) hn63 ((SI.below B1 (Nat.le_refl _)).up B1.size) hjw)
  have UP := hide (fun (base base' b : Nat) er sa k sc wa n wc en aa m ac (w1 w2 : World) => @TF.touch P most sh base base' b er sa wa aa k sc n wc m ac en w1 w2)
  obtain ⟨SB, hSB⟩ : ∃ SB, TF sh P most = SB := ⟨_, rfl⟩
  have NO := hide (fun base sa k sc wa n wc en aa m ac (w2 : World) => show SB base 120 sa k sc wa n wc en aa m ac w2 from by rw [← hSB]; exact fun h => absurd h (by decide))
  rw [hSB] at PL UP ⊢
  clear hSB
  obtain ⟨s0, s1, s2, s3, s4, s5⟩ := sh
  simp only [Shp.val] at PL FB FO ⊢
  clear SH SI hjw hn
  obtain ⟨W0, hW0⟩ : ∃ W0, (w.alloc (.cells #[.int .i64 s0, .int .i64 s1, .int .i64 s2, .int .i64 s3, .int .i64 s4, .int .i64 s5, .slice aw nw cw, .slice aoh P.nh caph, .slice aos P.ns caps, .int .i64 most] 28)).alloc (.cells #[.slice none 0 0, .slice none 0 0, .bool false] 32) = W0 := ⟨_, rfl⟩
  have b0 : Below w.heap.size w W0 := by rw [← hW0]; exact ((Below.refl _ w).alloc (Nat.le_refl _) _).alloc (by simp) _
  have sz0 : W0.heap.size = w.heap.size + 2 := by rw [← hW0]; simp
  have R0 : W0.rowIs w.heap.size 28 10 (lrow [.int .i64 s0, .int .i64 s1, .int .i64 s2, .int .i64 s3, .int .i64 s4, .int .i64 s5, .slice aw nw cw, .slice aoh P.nh caph, .slice aos P.ns caps, .int .i64 most]) := by rw [← hW0]; exact (rowL_alloc w [.int .i64 s0, .int .i64 s1, .int .i64 s2, .int .i64 s3, .int .i64 s4, .int .i64 s5, .slice aw nw cw, .slice aoh P.nh caph, .slice aos P.ns caps, .int .i64 most] _ rfl).alloc _
  have RT : W0.rowIs (w.heap.size + 1) 32 3 (lrow [.slice none 0 0, .slice none 0 0, .bool false]) := by
    rw [← hW0]
    have := rowL_alloc (w.alloc (.cells #[.int .i64 s0, .int .i64 s1, .int .i64 s2, .int .i64 s3, .int .i64 s4, .int .i64 s5, .slice aw nw cw, .slice aoh P.nh caph, .slice aos P.ns caps, .int .i64 most] 28)) [.slice none 0 0, .slice none 0 0, .bool false] 32 (n := 3) rfl
    rwa [World.size_alloc] at this
  have c0 : W0.cell? ⟨w.heap.size, 0, none⟩ = some (.int .i64 s0) := R0.cell (i := 0) (by omega)
  have c1 : W0.cell? ⟨w.heap.size, 1, none⟩ = some (.int .i64 s1) := R0.cell (i := 1) (by omega)
  have c2 : W0.cell? ⟨w.heap.size, 2, none⟩ = some (.int .i64 s2) := R0.cell (i := 2) (by omega)
  have c3 : W0.cell? ⟨w.heap.size, 3, none⟩ = some (.int .i64 s3) := R0.cell (i := 3) (by omega)
  have c4 : W0.cell? ⟨w.heap.size, 4, none⟩ = some (.int .i64 s4) := R0.cell (i := 4) (by omega)
  have c5 : W0.cell? ⟨w.heap.size, 5, none⟩ = some (.int .i64 s5) := R0.cell (i := 5) (by omega)
  have HR0 := hide R0
  have HRT := hide RT
  have HB0 := hide b0
  clear R0 RT b0
  go_enter Try.func9, Try.ntmps9
  by_cases hr : s5 < 1 ∨ 64 < s5
  · have HF := hide (FB.out hr)
    clear FB FO PL
    go_wp2_with fail
    refine (HF.out _).mono ?_
    rintro e w1 ⟨rfl, hg1⟩
    have b1 := below_of_grown_none hg1 _ (Nat.le_refl _)
    have hs1 := b1.size
    have RT1 := HRT.out.of_block (b1.block (w.heap.size + 1) (by omega))
    have z0 : w1.cell? ⟨w.heap.size + 1, 0, none⟩ = some (.slice none 0 0) := RT1.cell (i := 0) (by omega)
    have z1 : w1.cell? ⟨w.heap.size + 1, 1, none⟩ = some (.slice none 0 0) := RT1.cell (i := 1) (by omega)
    have z2 : w1.cell? ⟨w.heap.size + 1, 2, none⟩ = some (.bool false) := RT1.cell (i := 2) (by omega)
    have y0 := RT1.frozen 0
    have y1 := RT1.frozen 1
    have y2 := RT1.frozen 2
    have tt := touch3 w1 (w.heap.size + 1) (.slice none 0 0) (.slice none 0 0) (.bool false)
    have FIN := hide ((HB0.out.trans (b1.mono (by omega))).trans (tt.below (fun k hk => by omega) (by have := HB0.out.size; omega)))
    clear hg1 b1 RT1 tt c0 c1 c2 c3 c4 c5 hW0
    go_wp2_with fail
    go_light
    refine bodyPost_ret (v := .tuple #[.agg #[.slice none 0 0, .slice none 0 0, .bool false], .slice none 0 0, .bool false]) ?_ rfl ⟨FIN.out, none, 0, 0, none, 0, 0, false, none, 0, 0, 120, rfl, NO.out _ _ _ _ _ _ _ _ _ _ _ _⟩
    simp [results, Try.results9, go_sem, *]
  · have h1 : 1 ≤ s5 := by omega
    have h2 : s5 ≤ 64 := by omega
    have HF := hide (FO.out h1 h2)
    have HP := hide (PL.out h1 h2)
    clear FB FO PL
    go_wp2_with fail
    refine (HF.out _).mono ?_
    rintro e w3 ⟨g, rfl, RW, hg, hg3⟩
    have b3 := below_of_grown_none hg3 _ (Nat.le_refl _)
    have hs3 := b3.size
    have S3 := hide RW.sees
    have B3 := hide (HB0.out.trans (b3.mono (by omega)))
    have R3 := HR0.out.of_block (b3.block w.heap.size (by omega))
    have RT3 := hide (HRT.out.of_block (b3.block (w.heap.size + 1) (by omega)))
    have d0 : w3.cell? ⟨w.heap.size, 0, none⟩ = some (.int .i64 s0) := R3.cell (i := 0) (by omega)
    have d1 : w3.cell? ⟨w.heap.size, 1, none⟩ = some (.int .i64 s1) := R3.cell (i := 1) (by omega)
    have d2 : w3.cell? ⟨w.heap.size, 2, none⟩ = some (.int .i64 s2) := R3.cell (i := 2) (by omega)
    have d3 : w3.cell? ⟨w.heap.size, 3, none⟩ = some (.int .i64 s3) := R3.cell (i := 3) (by omega)
    have d4 : w3.cell? ⟨w.heap.size, 4, none⟩ = some (.int .i64 s4) := R3.cell (i := 4) (by omega)
    have d5 : w3.cell? ⟨w.heap.size, 5, none⟩ = some (.int .i64 s5) := R3.cell (i := 5) (by omega)
    have d7 : w3.cell? ⟨w.heap.size, 7, none⟩ = some (.slice aoh P.nh caph) := R3.cell (i := 7) (by omega)
    have d8 : w3.cell? ⟨w.heap.size, 8, none⟩ = some (.slice aos P.ns caps) := R3.cell (i := 8) (by omega)
    have d9 : w3.cell? ⟨w.heap.size, 9, none⟩ = some (.int .i64 most) := R3.cell (i := 9) (by omega)
    clear hg3 b3 RW R3 c0 c1 c2 c3 c4 c5 hW0
    go_wp2_with fail
    refine (HP.out w3 B3.out _ _ S3.out).mono ?_
    rintro e w1 ⟨hb1, sa, k, sc, wa, n, wc, en, aa, m, ac, er, rfl, hS⟩
    have hs1 := hb1.size
    have RT1 := RT3.out.of_block (hb1.block (w.heap.size + 1) (by omega))
    obtain ⟨W2, hW2⟩ : ∃ W2, w1.alloc (.cells #[.slice sa k sc, .slice wa n wc, .bool en] 32) = W2 := ⟨_, rfl⟩
    have R2 : W2.rowIs w1.heap.size 32 3 (lrow [.slice sa k sc, .slice wa n wc, .bool en]) := by rw [← hW2]; exact rowL_alloc w1 [.slice sa k sc, .slice wa n wc, .bool en] _ rfl
    have RT2 : W2.rowIs (w.heap.size + 1) 32 3 (lrow [.slice none 0 0, .slice none 0 0, .bool false]) := by rw [← hW2]; exact RT1.alloc _
    have B2 : Below w.heap.size w W2 := by rw [← hW2]; exact (B3.out.trans (hb1.mono B3.out.size)).alloc (by have := B3.out.size; omega) _
    have T2 : Touch w1 W2 (fun k => k = w.heap.size + 1) := by rw [← hW2]; exact (Touch.refl w1 _).alloc _
    have sz2 : W2.heap.size = w1.heap.size + 1 := by rw [← hW2]; simp
    have e0 : W2.cell? ⟨w1.heap.size, 0, none⟩ = some (.slice sa k sc) := R2.cell (i := 0) (by omega)
    have e1 : W2.cell? ⟨w1.heap.size, 1, none⟩ = some (.slice wa n wc) := R2.cell (i := 1) (by omega)
    have e2 : W2.cell? ⟨w1.heap.size, 2, none⟩ = some (.bool en) := R2.cell (i := 2) (by omega)
    have z0 : W2.cell? ⟨w.heap.size + 1, 0, none⟩ = some (.slice none 0 0) := RT2.cell (i := 0) (by omega)
    have z1 : W2.cell? ⟨w.heap.size + 1, 1, none⟩ = some (.slice none 0 0) := RT2.cell (i := 1) (by omega)
    have z2 : W2.cell? ⟨w.heap.size + 1, 2, none⟩ = some (.bool false) := RT2.cell (i := 2) (by omega)
    have y0 := RT2.frozen 0
    have y1 := RT2.frozen 1
    have y2 := RT2.frozen 2
    have tt := touch3 W2 (w.heap.size + 1) (.slice sa k sc) (.slice wa n wc) (.bool en)
    have FIN := hide (And.intro (B2.trans (tt.below (fun k hk => by omega) (by have := B3.out.size; omega))) (UP.out w3.heap.size w.heap.size (w.heap.size + 1) er sa k sc wa n wc en aa m ac w1 _ hS (T2.trans tt) (by omega) (by omega)))
    clear hb1 hS RT1 R2 RT2 B2 T2 tt d0 d1 d2 d3 d4 d5 d7 d8 d9
    unfold tv3
    go_wp2_with fail
    go_light
    refine bodyPost_ret (v := .tuple #[.agg #[.slice sa k sc, .slice wa n wc, .bool en], .slice aa m ac, .bool (er == 0)]) ?_ rfl ⟨FIN.out.1, sa, k, sc, wa, n, wc, en, aa, m, ac, er, rfl, FIN.out.2⟩
    simp [results, Try.results9, go_sem, *]
end Deal
end Go.Proofs.Ytdgolkdedghajaa

/-
  DealOnce: a run from fresh words as a whole, in the law's words. No program here but what Play tells.
-/
namespace Go.Proofs.Ytdgolkdedghajaa
open Go.RowKit
set_option linter.unusedVariables false
set_option linter.unusedSimpArgs false
set_option maxRecDepth 20000
namespace Deal

def rn (r : Nat) (P : Par) (i : Nat) : St (kDeal r) := runSt P (st0 (kDeal r) P (fun _ => 0)) i

/-- One step, in the law's words. -/
structure LT (D : Nat → (Nat → Nat) → (Nat → Nat → Stp) → List (Int × Ans) → Prop) (r : Nat) (P : Par) (m i : Nat) (x : Stp) (ml : Nat → Nat) (md : Nat → Nat → Stp) (E : List (Int × Ans)) (h : Nat) (en : Bool) : Prop where
  hh : h < P.nh
  hd : (rn r P i).done h < P.jn h
  hand : x.hand = (h : Int)
  kd : (P.jb h ((rn r P i).done h)).kind = 1 ∨ (P.jb h ((rn r P i).done h)).kind = 2 ∨ (P.jb h ((rn r P i).done h)).kind = 3
  ends : lends r (P.jb h ((rn r P i).done h)).kind (md h) (ml h) x = en
  dn : (rn r P (i + 1)).done = if en = true then upd (rn r P i).done h ((rn r P i).done h + 1) else (rn r P i).done
  no : en = false → D (i + 1) (upd ml h (ml h + 1)) (upd md h (upd (md h) (ml h) x)) E
  ye : en = true → (rn r P i).done h < (rn r P m).done h ∧ D (i + 1) (upd ml h 0) (upd md h (upd (md h) (ml h) x)) (E ++ [((P.jb h ((rn r P i).done h)).kind, (rn r P m).ans h ((rn r P i).done h))])

theorem req_hand (r : Int) (s : DeS) : (dreq r s).hand = s.hand := by
  unfold dreq
  repeat' split
  all_goals rfl
theorem step_hand (n : Nat) (f : Nat → Int) (q : Stp) : (stepOf n f q).hand = q.hand := by unfold stepOf; split <;> rfl

theorem law_do {r : Nat} {P : Par} (hr1 : 1 ≤ r) (hr2 : r ≤ 64) (hn : P.n = 2 + r) (hok : Jok P) {m i : Nat} (hm : m ≤ 65536) (hi : i < (rn r P m).k) {ml : Nat → Nat} {md : Nat → Nat → Stp} {E : List (Int × Ans)} (D : Do r P (rn r P i) i ml md E) :
    ∃ h en, LT (fun i ml md E => Do r P (rn r P i) i ml md E) r P m i ((rn r P m).s i) ml md E h en := by
  obtain ⟨hk, ⟨h, _, hh, hg, e⟩, es⟩ := hist P (st0 (kDeal r) P (fun _ => 0)) rfl m i hi
  have hle : i + 1 ≤ m := by
    have := (runSt_k P (st0 (kDeal r) P (fun _ => 0)) rfl m).1
    have hi' : i < (runSt P (st0 (kDeal r) P (fun _ => 0)) m).k := hi
    omega
  have ex : (rn r P m).s i = stepOf P.n (rn r P i).f (dreq r ((rn r P i).cur h)) := by
    show (runSt P (st0 (kDeal r) P (fun _ => 0)) m).s i = _
    rw [es, e]
    show upd (runSt P (st0 (kDeal r) P (fun _ => 0)) i).s (runSt P (st0 (kDeal r) P (fun _ => 0)) i).k _ i = _
    rw [hk, upd_same]
    rfl
  have e' : rn r P (i + 1) = stepSt P (rn r P i) h := e
  obtain ⟨le, no, ye⟩ := D.step hr1 hr2 hn hok (by omega) hh hg ex.symm
  obtain ⟨B, U, pd, L, dv, _, _⟩ := D.dv
  have sh : ((rn r P i).cur h).hand = (h : Int) := ((dv.hd h hh).1 hg).1
  have kd := kinds (hok h hh _ hg)
  refine ⟨h, dends r ((rn r P i).cur h) ((rn r P m).s i), hh, hg, by rw [ex, step_hand]; exact (req_hand r ((rn r P i).cur h)).trans sh, kd, le, ?_, fun en => ?_, fun en => ?_⟩
  · by_cases c : dends r ((rn r P i).cur h) ((rn r P m).s i) = true
    · rw [if_pos c, e']; exact (ye c).1
    · rw [if_neg c, e']; exact (no (by simpa using c)).1
  · rw [e']; exact (no en).2.2
  · obtain ⟨d1, d2⟩ := ye en
    have tl := told_later P (st0 (kDeal r) P (fun _ => 0)) rfl hle h
    have dd : (runSt P (st0 (kDeal r) P (fun _ => 0)) (i + 1)).done h = (rn r P i).done h + 1 := by
      show (rn r P (i + 1)).done h = _
      rw [e', d1, upd_same]
    rw [dd] at tl
    refine ⟨tl.1, ?_⟩
    have ta : (rn r P m).ans h ((rn r P i).done h) = (stepSt P (rn r P i) h).ans h ((rn r P i).done h) := by rw [← e']; exact tl.2 _ (by omega)
    rw [ta, e']
    rcases d2 (upd md h (upd (md h) (ml h) ((rn r P m).s i))) with q | q
    · exact q
    · exact absurd (fun i hi => upd_other _ _ hi) q

/-- Where all have ended, what is left stands between top and bottom. -/
theorem end_do {r : Nat} {P : Par} {m : Nat} {ml : Nat → Nat} {md : Nat → Nat → Stp} {E : List (Int × Ans)} {k : Nat} {st : St (kDeal r)} (D : Do r P st k ml md E) (hd : ∀ h, h < P.nh → ¬ st.done h < P.jn h) : ∃ L, Tr E [] = some L ∧ 0 ≤ st.f 0 ∧ st.f 0 ≤ st.f 1 ∧ st.f 1 ≤ k ∧ st.f 1 ≤ st.f 0 + r ∧ L.Perm (std r st.f (st.f 0) (st.f 1 - st.f 0).toNat) := by
  obtain ⟨B, U, pd, L, dv, tr, pm⟩ := D.dv
  have I : Id st.f B U pd := by
    rcases Nat.eq_zero_or_pos P.nh with z | z
    · exact dv.nx z
    · exact (dv.hd 0 z).2.2.2 rfl (.inl (hd 0 z))
  obtain ⟨i1, i2, i3⟩ := I
  subst i1 i2 i3
  obtain ⟨b1, b2, b3, b4, b5⟩ := dv.b
  refine ⟨L, tr, b1, b2, b4, b5, ?_⟩
  unfold lst at pm
  rwa [List.append_nil] at pm
theorem tr_do {r : Nat} {P : Par} {ml : Nat → Nat} {md : Nat → Nat → Stp} {E : List (Int × Ans)} {k : Nat} {st : St (kDeal r)} (D : Do r P st k ml md E) : ∃ L, Tr E [] = some L := by
  obtain ⟨B, U, pd, L, dv, tr, pm⟩ := D.dv
  exact ⟨L, tr⟩

/-- What a run from fresh words told. -/
def SE (r : Nat) (P : Par) (m0 : Nat) (er : Int) (sa : Option Addr) (k : Nat) (wa : Option Addr) (n : Nat) (en : Bool) (aa : Option Addr) (m : Nat) (w' : World) : Prop :=
  er = 0 → (1 ≤ r ∧ r ≤ 64) ∧ P.n = 2 + r ∧ m0 ≤ 65536 ∧ P.nh ≤ 8 ∧ (∀ h, h < P.nh → P.jn h ≤ 256) ∧ (∀ h, h < P.nh → (rn r P m0).done h ≤ P.jn h) ∧ Jok P ∧ k = (rn r P m0).k ∧ m = P.nh ∧ n = P.n ∧ en = decide (cnt ((rn r P m0).going P) P.nh = 0) ∧ SeesS w' w'.heap.size sa (rn r P m0).k (rn r P m0).s ∧ Sees w' w'.heap.size wa P.n (rn r P m0).f ∧ SeesA w' w'.heap.size aa P.nh (rn r P m0).done (rn r P m0).ans

theorem se_of {sh : Shp} {P : Par} {most : Int} {base : Nat} {er : Int} {sa : Option Addr} {k sc : Nat} {wa : Option Addr} {n wc : Nat} {en : Bool} {aa : Option Addr} {m ac : Nat} {w' : World} {r : Nat} (hr : 1 ≤ sh.f ∧ sh.f ≤ 64 → sh.f = (r : Int) ∧ P.n = 2 + r) (h : TF sh P most base er sa k sc wa n wc en aa m ac w') : SE r P most.toNat er sa k wa n en aa m w' := by
  intro h0
  obtain ⟨h12, ⟨hok, hF⟩, hT⟩ := h h0
  obtain ⟨hr', hn⟩ := hr h12
  rw [hr'] at hok hT
  obtain ⟨blk, c, g', sv, ev, H, G, GS, R, hg, hne⟩ := hT
  simp only [tv3, Value.tuple.injEq, Array.mk.injEq, List.cons.injEq, Value.agg.injEq, Value.slice.injEq, Value.bool.injEq, and_true, true_and] at ev
  obtain ⟨⟨e1, ⟨e2, e3, e4⟩, e5⟩, e6, e7, e8⟩ := ev
  obtain ⟨sa', sc', es⟩ := GS.isSlice'
  rw [es] at e1
  simp only [Value.slice.injEq] at e1
  obtain ⟨rfl, rfl, _⟩ := e1
  subst e2 e3 e5 e6 e7
  rw [es] at GS
  refine ⟨⟨by omega, by omega⟩, hn, by have := hF.2.2.2.2; omega, ?_, fun h hh => G.jobs h hh, fun h hh => G.doneLe h hh, fun h hh j hj => hok h hh j hj, rfl, rfl, rfl, rfl, GS.seesS H, R.sees, seesA_of G.answers H⟩
  rcases Nat.lt_or_ge 8 P.nh with l | l
  · exact absurd (.inl l) hF.2.1
  · exact l

theorem all_done {r : Nat} {P : Par} {m : Nat} (hc : cnt ((rn r P m).going P) P.nh = 0) {h : Nat} (hh : h < P.nh) : ¬ (rn r P m).done h < P.jn h := by
  have := cnt_zero hc h hh
  simpa [St.going] using this
theorem not_done {r : Nat} {P : Par} {m : Nat} : (rn r P m).done = (rn r P (rn r P m).k).done := by
  show (runSt P (st0 (kDeal r) P (fun _ => 0)) m).done = (runSt P (st0 (kDeal r) P (fun _ => 0)) (runSt P (st0 (kDeal r) P (fun _ => 0)) m).k).done
  rw [run_at_k P (st0 (kDeal r) P (fun _ => 0)) rfl m]
theorem rn_k {r : Nat} {P : Par} (m : Nat) : rn r P (rn r P m).k = rn r P m := run_at_k P (st0 (kDeal r) P (fun _ => 0)) rfl m
end Deal
end Go.Proofs.Ytdgolkdedghajaa

/-
  DealOnce: what the law's 'told' keeps, in memory of its own: which job, the steps made, the list of what is told.
-/
namespace Go.Proofs.Ytdgolkdedghajaa
open Go.RowKit
set_option linter.unusedVariables false
set_option linter.unusedSimpArgs false
set_option maxRecDepth 20000
namespace Deal

/-- What came of a job. -/
structure Tld where
  hand : Int
  kind : Int
  at_ : Int
  a : Ans
def Tld.cells (t : Tld) : List Value := [.int .i64 t.hand, .int .i64 t.kind, .int .i64 t.at_, .bool t.a.ok, .int .u64 t.a.val]
def tcs : List Tld → List Value
  | [] => []
  | t :: l => t.cells ++ tcs l
theorem tcs_append : ∀ (l : List Tld) (t : Tld), tcs (l ++ [t]) = tcs l ++ t.cells
  | [], t => by simp [tcs]
  | a :: l, t => by simp [tcs, tcs_append l t]
theorem tcs_len : ∀ l : List Tld, (tcs l).length = l.length * 5
  | [] => rfl
  | a :: l => by simp only [tcs, List.length_append, tcs_len l, List.length_cons, Tld.cells, List.length_nil]; omega
theorem tcs_get : ∀ (l : List Tld) (j q : Nat) (t : Tld), l[j]? = some t → q < 5 → (tcs l)[j * 5 + q]? = t.cells[q]?
  | [], j, q, t, h, _ => by simp at h
  | a :: l, 0, q, t, h, hq => by
    have h : a = t := by simpa using h
    subst h
    simp only [tcs]
    rw [Nat.zero_mul, Nat.zero_add, List.getElem?_append_left (by simp [Tld.cells]; omega)]
  | a :: l, j + 1, q, t, h, hq => by
    simp only [tcs]
    rw [List.getElem?_append_right (by simp [Tld.cells]; omega), show (j + 1) * 5 + q - a.cells.length = j * 5 + q from by simp [Tld.cells]; omega]
    exact tcs_get l j q t (by simpa using h) hq
theorem tld_one (x : Tld) : ∀ u ∈ x.cells, u.oneCell' = true := by
  intro u hu
  simp [Tld.cells] at hu
  rcases hu with rfl | rfl | rfl | rfl | rfl <;> rfl
theorem infoTz : (Try.prog.info? 43).map (fun i => (i.zero, i.size, i.bytes)) = some (some (.agg #[.int .i64 0, .int .i64 0, .int .i64 0, .bool false, .int .u64 0]), 5, 40) := by kernel_rfl
theorem infoI : (Try.prog.info? 3).map (fun i => (i.zero.map Value.cells, i.size, i.bytes)) = some (some #[.int .i64 0], 1, 8) := by kernel_rfl
theorem infoLS : (Try.prog.info? 30).map (fun i => (i.zero.map Value.cells, i.size, i.bytes)) = some (some #[.slice none 0 0], 1, 24) := by kernel_rfl

theorem grows_congr {blk blk' : Rl → Nat} {c c' : Rl → Option Row} {r : Rl} {e : TypeId} {sz k : Nat} {xs : List Value} {v : Value} (h : Grows blk c r e sz k xs v) (hb : blk' r = blk r) (hc : c' r = c r) : Grows blk' c' r e sz k xs v := by
  unfold Grows at h ⊢
  rw [hb, hc]
  exact h

structure Lm (w : World) (base gj gm nh : Nat) (ml : Nat → Nat) (md : Nat → Nat → Stp) (job : Nat → Nat) (A : Nat → Value) (T : List Tld) (v8 : Value) (blk : Rl → Nat) (c : Rl → Option Row) : Prop where
  has : Has w base blk c
  job : c .tasks = some ⟨3, nh, fun q => .int .i64 (job q)⟩
  made : c .answers = some ⟨30, nh, A⟩
  ej : blk .tasks = gj
  em : blk .answers = gm
  rows : ∀ h, h < nh → Grows blk c (.arow h) 55 6 (ml h) (stepCells (md h) (ml h)) (A h)
  lst : Grows blk c .steps 43 5 T.length (tcs T) v8

namespace Lm
variable {w w' : World} {base gj gm nh : Nat} {ml : Nat → Nat} {md : Nat → Nat → Stp} {job : Nat → Nat} {A : Nat → Value} {T : List Tld} {v8 : Value} {blk : Rl → Nat} {c : Rl → Option Row}

theorem rowj (h : Lm w base gj gm nh ml md job A T v8 blk c) : w.rowIs gj 3 nh (fun q => .int .i64 (job q)) := by have := h.has.row _ _ h.job; rw [h.ej] at this; exact this
theorem rowm (h : Lm w base gj gm nh ml md job A T v8 blk c) : w.rowIs gm 30 nh A := by have := h.has.row _ _ h.made; rw [h.em] at this; exact this
theorem lo (h : Lm w base gj gm nh ml md job A T v8 blk c) : base ≤ gj ∧ base ≤ gm := by
  have a := h.has.new _ _ h.job
  have b := h.has.new _ _ h.made
  rw [h.ej] at a
  rw [h.em] at b
  exact ⟨a, b⟩
theorem ne (h : Lm w base gj gm nh ml md job A T v8 blk c) : gj ≠ gm := by
  have := h.has.ne h.job h.made (by simp)
  rwa [h.ej, h.em] at this
theorem of_has (h : Lm w base gj gm nh ml md job A T v8 blk c) (hh : Has w' base blk c) : Lm w' base gj gm nh ml md job A T v8 blk c := ⟨hh, h.job, h.made, h.ej, h.em, h.rows, h.lst⟩
theorem below (h : Lm w base gj gm nh ml md job A T v8 blk c) (hb : Below w.heap.size w w') : Lm w' base gj gm nh ml md job A T v8 blk c := h.of_has (h.has.below hb)

theorem fn_upd (F : Nat → Nat) (i v : Nat) : (fun j => if j = i then Value.int .i64 (v : Int) else Value.int .i64 (F j : Int)) = fun q => Value.int .i64 ((upd F i v q : Nat) : Int) := by
  funext j
  by_cases e : j = i
  · subst e; rw [if_pos rfl, upd_same]
  · rw [if_neg e, upd_other _ _ e]
theorem fn_updV (F : Nat → Value) (i : Nat) (v : Value) : (fun j => if j = i then v else F j) = upd F i v := by
  funext j
  by_cases e : j = i
  · subst e; rw [if_pos rfl, upd_same]
  · rw [if_neg e, upd_other _ _ e]

theorem set_job (h : Lm w base gj gm nh ml md job A T v8 blk c) (i v : Nat) : ∃ c', Lm (w.setCell ⟨gj, i, none⟩ (.int .i64 (v : Int))) base gj gm nh ml md (upd job i v) A T v8 blk c' := by
  have q := h.has.set .tasks h.job i (.int .i64 (v : Int))
  rw [h.ej] at q
  simp only [fn_upd] at q
  exact ⟨_, q, upd_same _ _ _, (upd_other _ _ (by decide)).trans h.made, h.ej, h.em, fun k hk => grows_congr (h.rows k hk) rfl (upd_other _ _ (by simp)), grows_congr h.lst rfl (upd_other _ _ (by simp))⟩
/-- A hand's steps are forgotten. -/
theorem set_nil (h : Lm w base gj gm nh ml md job A T v8 blk c) (i : Nat) : ∃ c', Lm (w.setCell ⟨gm, i, none⟩ (.slice none 0 0)) base gj gm nh (upd ml i 0) md job (upd A i (.slice none 0 0)) T v8 blk c' := by
  have q := h.has.set .answers h.made i (.slice none 0 0)
  rw [h.em] at q
  simp only [fn_updV] at q
  have q2 := q.weaken (c' := upd (upd c .answers (some ⟨30, nh, upd A i (.slice none 0 0)⟩)) (.arow i) none) (fun r x e => by
    by_cases e2 : r = .arow i
    · subst e2; rw [upd_same] at e; cases e
    · rw [upd_other _ _ e2] at e; exact e)
  have o : ∀ x : Rl, x ≠ .arow i → x ≠ .answers → upd (upd c .answers (some ⟨30, nh, upd A i (.slice none 0 0)⟩)) (.arow i) none x = c x := fun x h1 h2 => (upd_other _ _ h1).trans (upd_other _ _ h2)
  refine ⟨_, q2, (o _ (by simp) (by simp)).trans h.job, (upd_other _ _ (by simp)).trans (upd_same _ _ _), h.ej, h.em, fun k hk => ?_, grows_congr h.lst rfl (o _ (by simp) (by simp))⟩
  by_cases e : k = i
  · subst e
    rw [upd_same, upd_same]
    exact .inl ⟨rfl, rfl, upd_same _ _ _⟩
  · rw [upd_other _ _ e, upd_other _ _ e]
    exact grows_congr (h.rows k hk) rfl (o _ (by simp [e]) (by simp))

/-- A hand's steps, one more: what append leaves, and then the store. -/
theorem set_app (h : Lm w base gj gm nh ml md job A T v8 blk c) (hb : base ≤ w.heap.size) {i : Nat} (hi : i < nh) {w1 w2 : World} {v' : Value} {x : Stp} (h0 : Touch w w1 (fun _ => False)) (hown : w2.ownsRow base 55 6 v' (ml i + 1) (stepCells (md i) (ml i) ++ x.cells)) (hg : w1.grownBy w2 (A i).ownBlock) (hat : v'.ownBlock = (A i).ownBlock ∨ v'.ownBlock = some w1.heap.size) :
    ∃ nb cap blk' c', v' = .slice (some ⟨nb, 0, none⟩) (ml i + 1) cap ∧ base ≤ nb ∧ w2.cell? ⟨gm, i, none⟩ = some (A i) ∧ w2.frozen? ⟨gm, i, none⟩ = false ∧ Lm (w2.setCell ⟨gm, i, none⟩ v') base gj gm nh (upd ml i (ml i + 1)) (upd md i (upd (md i) (ml i) x)) job (upd A i v') T v8 blk' c' := by
  obtain ⟨nb, F, cap, e, H, G, bn, _⟩ := (h.rows i hi).appended h.has hb h0 hown hg hat
  have em : upd c (.arow i) (some ⟨55, cap * 6, F⟩) .answers = some ⟨30, nh, A⟩ := (upd_other _ _ (by simp)).trans h.made
  have q := H.set .answers em i v'
  have eb : upd blk (.arow i) nb .answers = gm := (upd_other _ _ (by simp)).trans h.em
  have ce := H.cell em (i := i) hi
  have fe := H.frozen em i
  rw [eb] at q ce fe
  simp only [fn_updV] at q
  have o : ∀ y : Rl, y ≠ .arow i → y ≠ .answers → upd (upd c (.arow i) (some ⟨55, cap * 6, F⟩)) .answers (some ⟨30, nh, upd A i v'⟩) y = c y := fun y h1 h2 => (upd_other _ _ h2).trans (upd_other _ _ h1)
  have ob : ∀ y : Rl, y ≠ .arow i → upd blk (.arow i) nb y = blk y := fun y h1 => upd_other _ _ h1
  refine ⟨nb, cap, _, _, e, bn, ce, fe, q, (o _ (by simp) (by simp)).trans h.job, upd_same _ _ _, (ob _ (by simp)).trans h.ej, eb, fun k hk => ?_, grows_congr h.lst (ob _ (by simp)) (o _ (by simp) (by simp))⟩
  by_cases e : k = i
  · subst e
    rw [upd_same, upd_same, upd_same]
    have es : stepCells (upd (md k) (ml k) x) (ml k + 1) = stepCells (md k) (ml k) ++ x.cells := by
      show stepCells _ (ml k) ++ (upd (md k) (ml k) x (ml k)).cells = _
      rw [upd_same, stepCells_congr (fun j hj => upd_other _ _ (show j ≠ ml k by omega))]
    rw [es]
    exact grows_congr G rfl (upd_other _ _ (by simp))
  · rw [upd_other _ _ e, upd_other _ _ e, upd_other _ _ e]
    exact grows_congr (h.rows k hk) (ob _ (by simp [e])) (o _ (by simp [e]) (by simp))

/-- The list of what is told, one more. -/
theorem add_told (h : Lm w base gj gm nh ml md job A T v8 blk c) (hb : base ≤ w.heap.size) {w1 w2 : World} {v' : Value} {x : Tld} (h0 : Touch w w1 (fun _ => False)) (hown : w2.ownsRow base 43 5 v' (T.length + 1) (tcs T ++ x.cells)) (hg : w1.grownBy w2 v8.ownBlock) (hat : v'.ownBlock = v8.ownBlock ∨ v'.ownBlock = some w1.heap.size) :
    ∃ blk' c', Lm w2 base gj gm nh ml md job A (T ++ [x]) v' blk' c' := by
  obtain ⟨nb, F, cap, e, H, G, bn, _⟩ := h.lst.appended h.has hb h0 hown hg hat
  have o : ∀ y : Rl, y ≠ .steps → upd c .steps (some ⟨43, cap * 5, F⟩) y = c y := fun y h1 => upd_other _ _ h1
  have ob : ∀ y : Rl, y ≠ .steps → upd blk .steps nb y = blk y := fun y h1 => upd_other _ _ h1
  refine ⟨_, _, H, (o _ (by simp)).trans h.job, (o _ (by simp)).trans h.made, (ob _ (by simp)).trans h.ej, (ob _ (by simp)).trans h.em, fun k hk => grows_congr (h.rows k hk) (ob _ (by simp)) (o _ (by simp)), ?_⟩
  rw [tcs_append, List.length_append]
  exact G

/-- A job's steps, as they are seen. -/
theorem seen (h : Lm w base gj gm nh ml md job A T v8 blk c) {i nb cap n : Nat} (hi : i < nh) (hn : ml i = n + 1) (e : A i = .slice (some ⟨nb, 0, none⟩) (n + 1) cap) : nb < w.heap.size ∧ ∀ j, j < n + 1 → ∀ q, q < 6 → w.cell? ⟨nb, 0 + j * 6 + q, none⟩ = some ((md i j).cell q) := by
  have G := h.rows i hi
  rw [hn] at G
  obtain ⟨b, cap', e', hl, _, hc⟩ := grows_cell G h.has (stepCells_length _ _) (by omega)
  rw [e] at e'
  injection e' with e1 _ _
  injection e1 with e1
  injection e1 with e1 _ _
  subst e1
  refine ⟨hl, fun j hj q hq => ?_⟩
  rw [Nat.zero_add]
  exact hc _ _ (stepCells_get (md i) (n + 1) j q hj hq)
end Lm

/-- A list of what is told, as it is seen. -/
def SeesT (w : World) (lo : Option Addr) (T : List Tld) : Prop := ∀ j t, T[j]? = some t → ∃ b, lo = some ⟨b, 0, none⟩ ∧ b < w.heap.size ∧ ∀ q v, t.cells[q]? = some v → w.cell? ⟨b, j * 5 + q, none⟩ = some v
theorem SeesT.below {w w' : World} {lo : Option Addr} {T : List Tld} (h : SeesT w lo T) (hb : Below w.heap.size w w') : SeesT w' lo T := fun j t e => by
  obtain ⟨b, e1, l, c⟩ := h j t e
  exact ⟨b, e1, Nat.lt_of_lt_of_le l hb.size, fun q v hq => (hb.cell (p := ⟨b, j * 5 + q, none⟩) l).trans (c q v hq)⟩
theorem Lm.told {w : World} {base gj gm nh : Nat} {ml : Nat → Nat} {md : Nat → Nat → Stp} {job : Nat → Nat} {A : Nat → Value} {T : List Tld} {v8 : Value} {blk : Rl → Nat} {c : Rl → Option Row} (h : Lm w base gj gm nh ml md job A T v8 blk c) : ∃ lo cap, v8 = .slice lo T.length cap ∧ SeesT w lo T := by
  rcases Nat.eq_zero_or_pos T.length with z | z
  · have : T = [] := List.eq_nil_of_length_eq_zero z
    subst this
    rcases h.lst with ⟨_, e, _⟩ | ⟨cap, F, e, _⟩
    · exact ⟨_, _, e, fun j t e => by simp at e⟩
    · exact ⟨_, _, e, fun j t e => by simp at e⟩
  · obtain ⟨b, cap, e, l, _, cc⟩ := grows_cell h.lst h.has (tcs_len T) z
    refine ⟨_, _, e, fun j t ej => ⟨b, rfl, l, fun q v hq => cc _ _ ?_⟩⟩
    have q5 : q < 5 := by have := (List.getElem?_eq_some_iff.1 hq).1; simpa [Tld.cells] using this
    rw [tcs_get T j q t ej q5]
    exact hq

/-- The world behind the two makes. -/
abbrev mk2 (w : World) (nh : Nat) : World := (w.alloc (.cells (madeCells #[.int .i64 0] nh) 3)).alloc (.cells (madeCells #[.slice none 0 0] nh) 30)
theorem mk2_below (w : World) (nh : Nat) : Below w.heap.size w (mk2 w nh) := ((Below.refl _ w).alloc (Nat.le_refl _) _).alloc (by simp only [World.size_alloc]; omega) _
theorem lm_start (w : World) (nh : Nat) (md : Nat → Nat → Stp) : ∃ blk c, Lm (mk2 w nh) w.heap.size w.heap.size (w.heap.size + 1) nh (fun _ => 0) md (fun _ => 0) (fun _ => .slice none 0 0) [] (.slice none 0 0) blk c := by
  have r7 := (World.rowIs_made w (.int .i64 0) nh 3).alloc (.cells (madeCells #[.slice none 0 0] nh) 30)
  have r8 := World.rowIs_made (w.alloc (.cells (madeCells #[.int .i64 0] nh) 3)) (.slice none 0 0) nh 30
  simp only [World.size_alloc] at r8
  refine ⟨fun x => match x with | .tasks => w.heap.size | .answers => w.heap.size + 1 | _ => 0, fun x => match x with | .tasks => some ⟨3, nh, fun _ => .int .i64 0⟩ | .answers => some ⟨30, nh, fun _ => .slice none 0 0⟩ | _ => none, ⟨?_, ?_, ?_⟩, rfl, rfl, rfl, rfl, fun h hh => .inl ⟨rfl, rfl, rfl⟩, .inl ⟨rfl, rfl, rfl⟩⟩
  · intro a b x x' e e' h
    cases a <;> cases b <;> simp at e e' h <;> first | rfl | omega
  · intro a x e
    cases a <;> simp at e <;> subst e
    · exact r7
    · exact r8
  · intro a x e
    cases a <;> simp at e <;> simp
end Deal
end Go.Proofs.Ytdgolkdedghajaa
