/-
  Lemmas: L17Play, RoomW, OpenR17.
-/
import Derived.Test.YtmikhglnomgbfaaGreatTp50
import Derived.Test.YtmikhglnomgbfaaGreatTp21
import Derived.Test.YtmikhglnomgbfaaGreatTp37
import Derived.Test.YtmikhglnomgbfaaGreatTp49
namespace Go.Proofs.YtmikhglnomgbfaaGreat
set_option maxHeartbeats 8000000
open Go.RowKit
set_option linter.unusedVariables false
set_option linter.unusedSimpArgs false
set_option linter.unnecessarySimpa false
set_option maxRecDepth 20000
section
namespace L17
variable {K : Kd} {rep : List Value → K.σ → Prop} {sh : Shp} {want : Nat} {w : World} {ao aoh aos : Option Addr} {cap caph caps : Nat} {P : Par} {f : Nat → Int} {most : Int}
theorem rplay_shape {er : Int} (her : ¬ er = 0) (hS : ∀ w : World, Calls Tryz.prog 11 #[sh.val] w fun e w' => e = .returned (.tuple #[.int .i64 0, .int .i64 er]) ∧ w.grownBy w' none) :
  Calls Tryz.prog 7 #[sh.val, .slice ao P.n cap, .slice aoh P.nh caph, .slice aos P.ns caps, .int .i64 most] w fun e w' => e = .returned (errVal er) ∧ Below w.heap.size w w' := by
 obtain ⟨s0, s1, s2, s3, s4, s5⟩ := sh
 simp only [Shp.val] at hS ⊢
 have HS := hide hS
 clear hS
 unfold errVal
 go_enter Tryz.func7, Tryz.ntmps7
 go_wp2_with fail
 refine (HS.out _).mono ?_
 rintro e w1 ⟨rfl, hg⟩
 have HB := hide ((((Below.refl w.heap.size w).alloc (Nat.le_refl _) (.cells #[.int .i64 s0, .int .i64 s1, .int .i64 s2, .int .i64 s3, .int .i64 s4, .int .i64 s5] 23)).alloc (by simp) (.cells #[.slice none 0 0, .slice none 0 0, .bool false] 32)).trans (below_of_grown_none hg w.heap.size (by simp; omega)))
 have hb := below_of_grown_none hg (w.heap.size + 2) (by simp)
 have z0 := hb.cell (p := ⟨w.heap.size + 1, 0, none⟩) (by simp)
 have z1 := hb.cell (p := ⟨w.heap.size + 1, 1, none⟩) (by simp)
 have z2 := hb.cell (p := ⟨w.heap.size + 1, 2, none⟩) (by simp)
 have y0 := hb.frozen (p := ⟨w.heap.size + 1, 0, none⟩) (by simp)
 have y1 := hb.frozen (p := ⟨w.heap.size + 1, 1, none⟩) (by simp)
 have y2 := hb.frozen (p := ⟨w.heap.size + 1, 2, none⟩) (by simp)
 simp at z0 z1 z2 y0 y1 y2
 clear hb hg
 go_wp2_with fail
 go_light
 refine bodyPost_ret (v := errVal er) ?_ rfl ⟨rfl, ((HB.out.setCell (by simp) _).setCell (by simp) _).setCell (by simp) _⟩
 simp [results, Tryz.results7, go_sem, errVal, *]
theorem rplay_all (hw4 : want ≤ 4096) (hS : ∀ w : World, Calls Tryz.prog 11 #[sh.val] w fun e w' => e = .returned (.tuple #[.int .i64 want, .int .i64 0]) ∧ w.grownBy w' none) (RK : RKind K rep sh 39 27)
  (S : Sees w w.heap.size ao P.n f) (hnil : ao = none → P.n = 0 ∧ cap = 0) (hf : ∀ i, i < P.n → 0 ≤ f i ∧ f i ≤ 18446744073709551615) (SH : SeesH w w.heap.size aoh P.nh P.jn P.jb) (hn63 : P.nh ≤ 9223372036854775807) (SI : SeesI w w.heap.size aos P.ns P.sched) (hjw : ∀ h, h < P.nh → ∀ j, j < P.jn h → (P.jb h j).wf) :
  Calls Tryz.prog 7 #[sh.val, .slice ao P.n cap, .slice aoh P.nh caph, .slice aos P.ns caps, .int .i64 most] w (RLAll K rep want w P f most) := by
 have RA := fun (w2 : World) (hn : P.n ≤ 4096) (B2 : Below w.heap.size w w2) => ran_all (w := w2) (ao := ao) (aoh := aoh) (aos := aos) (cap := cap) (caph := caph) (caps := caps) (most := most) RK ((S.below B2 (Nat.le_refl _)).mono B2.size) hnil hn hf ((SH.below B2 (Nat.le_refl _)).up B2.size) hn63 ((SI.below B2 (Nat.le_refl _)).up B2.size) hjw
 obtain ⟨s0, s1, s2, s3, s4, s5⟩ := sh
 simp only [Shp.val] at hS RA ⊢
 have HS := hide hS
 have HRA := hide RA
 clear hS RA RK S hnil hf SH SI hjw
 go_enter Tryz.func7, Tryz.ntmps7
 go_wp2_with fail
 refine (HS.out _).mono ?_
 rintro e w1 ⟨rfl, hg⟩
 have HB := hide ((((Below.refl w.heap.size w).alloc (Nat.le_refl _) (.cells #[.int .i64 s0, .int .i64 s1, .int .i64 s2, .int .i64 s3, .int .i64 s4, .int .i64 s5] 23)).alloc (by simp) (.cells #[.slice none 0 0, .slice none 0 0, .bool false] 32)).trans (below_of_grown_none hg w.heap.size (by simp; omega)))
 have hb := below_of_grown_none hg (w.heap.size + 2) (by simp)
 have sz1 := hg.size
 simp only [World.size_alloc] at sz1
 have c0 := hb.cell (p := ⟨w.heap.size, 0, none⟩) (by simp)
 have c1 := hb.cell (p := ⟨w.heap.size, 1, none⟩) (by simp)
 have c2 := hb.cell (p := ⟨w.heap.size, 2, none⟩) (by simp)
 have c3 := hb.cell (p := ⟨w.heap.size, 3, none⟩) (by simp)
 have c4 := hb.cell (p := ⟨w.heap.size, 4, none⟩) (by simp)
 have c5 := hb.cell (p := ⟨w.heap.size, 5, none⟩) (by simp)
 have z0 := hb.cell (p := ⟨w.heap.size + 1, 0, none⟩) (by simp)
 have z1 := hb.cell (p := ⟨w.heap.size + 1, 1, none⟩) (by simp)
 have z2 := hb.cell (p := ⟨w.heap.size + 1, 2, none⟩) (by simp)
 have y0 := hb.frozen (p := ⟨w.heap.size + 1, 0, none⟩) (by simp)
 have y1 := hb.frozen (p := ⟨w.heap.size + 1, 1, none⟩) (by simp)
 have y2 := hb.frozen (p := ⟨w.heap.size + 1, 2, none⟩) (by simp)
 simp at c0 c1 c2 c3 c4 c5 z0 z1 z2 y0 y1 y2
 clear hb hg
 by_cases hne : P.n = want
 ·subst hne
  go_wp2_with fail
  refine (HRA.out w1 hw4 HB.out).mono ?_
  rintro e w3 ⟨hb3, hc3⟩
  have sz3 := hb3.size
  have LA : RLAll K rep P.n w1 P f most e w3 := ⟨hb3, by
   rcases hc3 with ⟨er, h1, h2⟩ | ⟨h1, h2, v, h3, h4⟩
   ·exact .inl ⟨er, .inr ⟨rfl, h1⟩, h2⟩
   ·exact .inr ⟨rfl, h1, h2, v, h3, rtold_touch h4 ((Touch.refl w3 (fun k => k = 0))) (by omega) (by omega)⟩⟩
  obtain ⟨sa, k, sc, wa, n, wc, en, aa, m, ac, er, rfl⟩ := LA.shape
  have u0 := (hb3.cell (p := ⟨w.heap.size + 1, 0, none⟩) (by show w.heap.size + 1 < _; omega)).trans z0
  have u1 := (hb3.cell (p := ⟨w.heap.size + 1, 1, none⟩) (by show w.heap.size + 1 < _; omega)).trans z1
  have u2 := (hb3.cell (p := ⟨w.heap.size + 1, 2, none⟩) (by show w.heap.size + 1 < _; omega)).trans z2
  have v0 := (hb3.frozen (p := ⟨w.heap.size + 1, 0, none⟩) (by show w.heap.size + 1 < _; omega)).trans y0
  have v1 := (hb3.frozen (p := ⟨w.heap.size + 1, 1, none⟩) (by show w.heap.size + 1 < _; omega)).trans y1
  have v2 := (hb3.frozen (p := ⟨w.heap.size + 1, 2, none⟩) (by show w.heap.size + 1 < _; omega)).trans y2
  have FIN := hide (LA.up HB.out (touch3 w3 (w.heap.size + 1) (.slice sa k sc) (.slice wa n wc) (.bool en)) (by omega) (by omega))
  clear hb3 hc3 LA c0 c1 c2 c3 c4 c5 z0 z1 z2 y0 y1 y2
  unfold tv3
  go_wp2_with fail
  go_light
  refine bodyPost_ret (v := tv3 sa k sc wa n wc en aa m ac er) ?_ rfl FIN.out
  simp [results, Tryz.results7, go_sem, tv3, *]
 ·have hne' : ¬ (P.n : Int) = (want : Int) := by omega
  go_wp2_with fail
  go_light
  refine bodyPost_ret (v := errVal 121) ?_ rfl ⟨((HB.out.setCell (by simp) _).setCell (by simp) _).setCell (by simp) _, .inl ⟨121, .inl ⟨hne, rfl⟩, rfl⟩⟩
  simp [results, Tryz.results7, go_sem, errVal, *]
end L17
end
section
namespace Rom
open Hp
theorem rsize_ok {sh : Shp} (h : Shape.R5 sh.a sh.b sh.c sh.d sh.e) (w : World) : Calls Tryz.prog 11 #[sh.val] w fun e w' => e = .returned (.tuple #[.int .i64 (sizeOf sh), .int .i64 0]) ∧ w.grownBy w' none := by
 obtain ⟨o, s, hh, r, k, e0, e1, e2, e3, e4, H⟩ := natR5 h
 rw [size_eq e0 e1 e2 e3 e4]
 obtain ⟨s0, s1, s2, s3, s4, s5⟩ := sh
 simp only at e0 e1 e2 e3 e4
 subst e0 e1 e2 e3 e4
 refine (Shape.rsize_ok (s5 := s5) H w).mono ?_
 rintro e w' ⟨rfl, hb⟩
 exact ⟨rfl, below_grown hb none⟩
theorem rsize_bad {sh : Shp} (h : ¬ Shape.R5 sh.a sh.b sh.c sh.d sh.e) (w : World) : Calls Tryz.prog 11 #[sh.val] w fun e w' => e = .returned (.tuple #[.int .i64 0, .int .i64 120]) ∧ w.grownBy w' none := by
 refine (Shape.rsize_bad h w).mono ?_
 rintro e w' ⟨rfl, hb⟩
 exact ⟨rfl, below_grown hb none⟩
instance (a b c d e : Int) : Decidable (Shape.R5 a b c d e) := by unfold Shape.R5; infer_instance
variable {w : World} {ao aoh aos : Option Addr} {cap caph caps : Nat} {P : Par} {f : Nat → Int} {most : Int} {sh : Shp}
theorem tviews (sh : Shp) (P : Par) (f : Nat → Int) (most : Int) (hn63 : P.nh ≤ 9223372036854775807) (hf : ∀ i, i < P.n → 0 ≤ f i ∧ f i ≤ 18446744073709551615) (hjw : ∀ h, h < P.nh → ∀ j, j < P.jn h → (P.jb h j).wf) :
  ∃ V : Vw, V.k ≤ 65536 ∧ V.n ≤ 4096 ∧ V.m ≤ 8 ∧ (∀ h, h < V.m → V.dn h ≤ 256) ∧
  (∀ (w : World) ao cap aoh caph aos caps, Sees w w.heap.size ao P.n f → (ao = none → P.n = 0 ∧ cap = 0) → SeesH w w.heap.size aoh P.nh P.jn P.jb → SeesI w w.heap.size aos P.ns P.sched →
   Calls Tryz.prog 7 #[sh.val, .slice ao P.n cap, .slice aoh P.nh caph, .slice aos P.ns caps, .int .i64 most] w fun e w' => Below w.heap.size w w' ∧ ∃ v, e = .returned v ∧ TV w' V v) ∧
  (∀ (w : World) ao cap aoh caph aos caps, Sees w w.heap.size ao P.n f → SeesH w w.heap.size aoh P.nh P.jn P.jb → SeesI w w.heap.size aos P.ns P.sched →
   Calls Tryz.prog 8 #[sh.val, .slice ao P.n cap, .slice aoh P.nh caph, .slice aos P.ns caps, .int .i64 most] w fun e w' => Below w.heap.size w w' ∧ ∃ v, e = .returned v ∧ TV w' V v) := by
 by_cases hr : ¬ Shape.R5 sh.a sh.b sh.c sh.d sh.e
 ·have tv : ∀ w, TV w ⟨0, fun _ => ⟨0, 0, 0, 0, 0, false⟩, 0, fun _ => 0, false, 0, fun _ => 0, fun _ _ => ⟨false, 0⟩, 120⟩ (errVal 120) := fun w => ⟨none, 0, none, 0, none, 0, rfl, fun j hj => absurd hj (Nat.not_lt_zero j), fun j hj => absurd hj (Nat.not_lt_zero j), fun j hj => absurd hj (Nat.not_lt_zero j)⟩
  refine ⟨⟨0, fun _ => ⟨0, 0, 0, 0, 0, false⟩, 0, fun _ => 0, false, 0, fun _ => 0, fun _ _ => ⟨false, 0⟩, 120⟩, Nat.zero_le _, Nat.zero_le _, Nat.zero_le _, fun _ _ => Nat.zero_le _, ?_, ?_⟩
  ·intro w ao cap aoh caph aos caps _ _ _ _
   exact (L17.rplay_shape (by decide) (fun w' => rsize_bad hr w')).mono fun e w' ⟨he, hb⟩ => ⟨hb, _, he, tv w'⟩
  ·intro w ao cap aoh caph aos caps _ _ _
   exact (play_shape hr).mono fun e w' ⟨he, hb⟩ => ⟨hb, _, he, tv w'⟩
 ·have h5 : Shape.R5 sh.a sh.b sh.c sh.d sh.e := Decidable.of_not_not hr
  obtain ⟨want, hwant, hw1, hw2⟩ := size_nat h5
  obtain ⟨V, v1, v2, v3, v4, v5, v6⟩ := lviews (kRom false sh) (repR sh) want P f most
  refine ⟨V, v1, v2, v3, v4, ?_, ?_⟩
  ·intro w ao cap aoh caph aos caps S hnil SH SI
   exact (L17.rplay_all (by omega) (fun w' => by rw [hwant]; exact rsize_ok h5 w') (rkind h5) S hnil hf SH hn63 SI hjw).mono fun e w' h => v5 _ _ _ h
  ·intro w ao cap aoh caph aos caps S SH SI
   exact (play_all h5 hwant S hf SH hn63 SI hjw).mono fun e w' h => v6 _ _ _ h
theorem plays_walk (S : Sees w w.heap.size ao P.n f) (hnil : ao = none → P.n = 0 ∧ cap = 0) (hf : ∀ i, i < P.n → 0 ≤ f i ∧ f i ≤ 18446744073709551615) (SH : SeesH w w.heap.size aoh P.nh P.jn P.jb) (hn63 : P.nh ≤ 9223372036854775807) (SI : SeesI w w.heap.size aos P.ns P.sched) (hjw : ∀ h, h < P.nh → ∀ j, j < P.jn h → (P.jb h j).wf) :
  Calls Tryz.prog 3 #[.agg #[.int .i64 sh.a, .int .i64 sh.b, .int .i64 sh.c, .int .i64 sh.d, .int .i64 sh.e, .int .i64 sh.f, .slice ao P.n cap, .slice aoh P.nh caph, .slice aos P.ns caps, .int .i64 most]] w fun e w' => e = .returned (.bool true) ∧ Below w.heap.size w w' := by
 obtain ⟨V, v1, v2, v3, v4, v5, v6⟩ := tviews sh P f most hn63 hf hjw
 have ups : Hid (∀ w1, Below w.heap.size w w1 → Sees w1 w1.heap.size ao P.n f ∧ SeesH w1 w1.heap.size aoh P.nh P.jn P.jb ∧ SeesI w1 w1.heap.size aos P.ns P.sched) := fun w1 B1 =>
  ⟨(S.below B1 (Nat.le_refl _)).mono B1.size, (SH.below B1 (Nat.le_refl _)).up B1.size, (SI.below B1 (Nat.le_refl _)).up B1.size⟩
 have HRP := hide (fun (w1 : World) (B1 : Below w.heap.size w w1) => v5 w1 ao cap aoh caph aos caps (ups.out w1 B1).1 hnil (ups.out w1 B1).2.1 (ups.out w1 B1).2.2)
 have HPP := hide (fun (w1 : World) (B1 : Below w.heap.size w w1) => v6 w1 ao cap aoh caph aos caps (ups.out w1 B1).1 (ups.out w1 B1).2.1 (ups.out w1 B1).2.2)
 obtain ⟨k, s, n, f', en, m, dn, an, er⟩ := V
 simp only at v1 v2 v3 v4
 have V4 := hide v4
 obtain ⟨s0, s1, s2, s3, s4, s5⟩ := sh
 simp only [Shp.val] at HRP HPP ⊢
 clear S SH SI hjw hnil hf v4 v5 v6 ups
 obtain ⟨W0, hW0⟩ : ∃ W0, w.alloc (.cells #[.int .i64 s0, .int .i64 s1, .int .i64 s2, .int .i64 s3, .int .i64 s4, .int .i64 s5, .slice ao P.n cap, .slice aoh P.nh caph, .slice aos P.ns caps, .int .i64 most] 28) = W0 := ⟨_, rfl⟩
 have b0 : Below w.heap.size w W0 := by rw [← hW0]; exact (Below.refl _ w).alloc (Nat.le_refl _) _
 have R0 : W0.rowIs w.heap.size 28 10 (lrow [.int .i64 s0, .int .i64 s1, .int .i64 s2, .int .i64 s3, .int .i64 s4, .int .i64 s5, .slice ao P.n cap, .slice aoh P.nh caph, .slice aos P.ns caps, .int .i64 most]) := by rw [← hW0]; exact rowL_alloc w [.int .i64 s0, .int .i64 s1, .int .i64 s2, .int .i64 s3, .int .i64 s4, .int .i64 s5, .slice ao P.n cap, .slice aoh P.nh caph, .slice aos P.ns caps, .int .i64 most] _ rfl
 have keep : Hid (∀ w' : World, Below W0.heap.size W0 w' → Below w.heap.size w w' ∧ w.heap.size < w'.heap.size ∧ w'.cell? ⟨w.heap.size, 0, none⟩ = some (.int .i64 s0) ∧ w'.cell? ⟨w.heap.size, 1, none⟩ = some (.int .i64 s1) ∧ w'.cell? ⟨w.heap.size, 2, none⟩ = some (.int .i64 s2) ∧ w'.cell? ⟨w.heap.size, 3, none⟩ = some (.int .i64 s3) ∧ w'.cell? ⟨w.heap.size, 4, none⟩ = some (.int .i64 s4) ∧ w'.cell? ⟨w.heap.size, 5, none⟩ = some (.int .i64 s5) ∧
   w'.cell? ⟨w.heap.size, 6, none⟩ = some (.slice ao P.n cap) ∧ w'.cell? ⟨w.heap.size, 7, none⟩ = some (.slice aoh P.nh caph) ∧ w'.cell? ⟨w.heap.size, 8, none⟩ = some (.slice aos P.ns caps) ∧ w'.cell? ⟨w.heap.size, 9, none⟩ = some (.int .i64 most)) := fun w' hb => by
  have r := R0.of_block (hb.block w.heap.size R0.lt)
  exact ⟨b0.trans (hb.mono b0.size), r.lt, r.cell (i := 0) (by decide), r.cell (i := 1) (by decide), r.cell (i := 2) (by decide), r.cell (i := 3) (by decide), r.cell (i := 4) (by decide), r.cell (i := 5) (by decide), r.cell (i := 6) (by decide), r.cell (i := 7) (by decide), r.cell (i := 8) (by decide), r.cell (i := 9) (by decide)⟩
 have sz0 : W0.heap.size = w.heap.size + 1 := by rw [← hW0]; simp
 clear b0 R0
 go_enter Tryz.func3, Tryz.ntmps3
 go_wp2_with fail
 refine (alive_any W0).mono ?_
 rintro e w1 ⟨rfl, hb1⟩
 obtain ⟨bw1, l1, c0, c1, c2, c3, c4, c5, c6, c7, c8, c9⟩ := keep.out w1 hb1
 have HB1 := hide hb1
 have BW1 := hide bw1
 have hs1 := hb1.size
 clear hb1 bw1 hW0
 go_wp2_with fail
 refine (HRP.out w1 BW1.out).mono ?_
 rintro e w2 ⟨hb2, v, rfl, sa, sc, wa, wc, aa, ac, rfl, S2, W2, A2⟩
 have hs2 := hb2.size
 have B2 := hide (HB1.out.trans (hb2.mono hs1))
 have HS2 := hide S2
 have HW2 := hide W2
 have HA2 := hide A2
 clear hb2 S2 W2 A2 c0 c1 c2 c3 c4 c5 c6 c7 c8 c9
 simp only
 obtain ⟨W3, hW3⟩ : ∃ W3, w2.alloc (.cells #[.slice sa k sc, .slice wa n wc, .bool en] 32) = W3 := ⟨_, rfl⟩
 have B23 : Below w2.heap.size w2 W3 := by rw [← hW3]; exact (Below.refl _ w2).alloc (Nat.le_refl _) _
 have B03 := B2.out.trans (B23.mono (Nat.le_trans hs1 hs2))
 obtain ⟨bw3, l3, c0, c1, c2, c3, c4, c5, c6, c7, c8, c9⟩ := keep.out W3 B03
 have BW3 := hide bw3
 have R3 := hide (show W3.rowIs w2.heap.size 32 3 (lrow [.slice sa k sc, .slice wa n wc, .bool en]) from by rw [← hW3]; exact rowL_alloc w2 [.slice sa k sc, .slice wa n wc, .bool en] _ rfl)
 have HB23 := hide B23
 have hs3 : W3.heap.size = w2.heap.size + 1 := by rw [← hW3]; simp
 clear B23 B03 bw3
 go_wp2_with fail
 refine (HPP.out W3 BW3.out).mono ?_
 rintro e w4 ⟨hb4, v, rfl, sa', sc', wa', wc', aa', ac', rfl, S4, W4, A4⟩
 have hs4 := hb4.size
 have HB4 := hide hb4
 have HS4 := hide S4
 have HW4 := hide W4
 have HA4 := hide A4
 clear hb4 S4 W4 A4 hW3 c0 c1 c2 c3 c4 c5 c6 c7 c8 c9
 simp only
 obtain ⟨W5, hW5⟩ : ∃ W5, w4.alloc (.cells #[.slice sa' k sc', .slice wa' n wc', .bool en] 32) = W5 := ⟨_, rfl⟩
 have B45 : Below w4.heap.size w4 W5 := by rw [← hW5]; exact (Below.refl _ w4).alloc (Nat.le_refl _) _
 have R5 := hide (show W5.rowIs w4.heap.size 32 3 (lrow [.slice sa' k sc', .slice wa' n wc', .bool en]) from by rw [← hW5]; exact rowL_alloc w4 [.slice sa' k sc', .slice wa' n wc', .bool en] _ rfl)
 have hs5 : W5.heap.size = w4.heap.size + 1 := by rw [← hW5]; simp
 have R35 := hide (R3.out.of_block ((HB4.out.trans (B45.mono (by omega))).block _ (by omega)))
 have B25 := hide (HB23.out.trans ((HB4.out.trans (B45.mono (by omega))).mono (by omega)))
 have B5 := hide (BW3.out.trans ((HB4.out.trans (B45.mono (by omega))).mono BW3.out.size))
 have HB45 := hide B45
 have c0 : W5.cell? ⟨w2.heap.size, 0, none⟩ = some (.slice sa k sc) := R35.out.cell (i := 0) (by omega)
 have c1 : W5.cell? ⟨w2.heap.size, 1, none⟩ = some (.slice wa n wc) := R35.out.cell (i := 1) (by omega)
 have c2 : W5.cell? ⟨w2.heap.size, 2, none⟩ = some (.bool en) := R35.out.cell (i := 2) (by omega)
 have d0 : W5.cell? ⟨w4.heap.size, 0, none⟩ = some (.slice sa' k sc') := R5.out.cell (i := 0) (by omega)
 have d1 : W5.cell? ⟨w4.heap.size, 1, none⟩ = some (.slice wa' n wc') := R5.out.cell (i := 1) (by omega)
 have d2 : W5.cell? ⟨w4.heap.size, 2, none⟩ = some (.bool en) := R5.out.cell (i := 2) (by omega)
 have l24 : w2.heap.size ≤ W5.heap.size := by omega
 have l45 : w4.heap.size ≤ W5.heap.size := by omega
 have hws : w.heap.size ≤ W5.heap.size := by omega
 clear B45
 go_wp2_with (first
  | (go_at_call 9; refine (same_trace ((HS4.out.below HB45.out (Nat.le_refl _)).mono l45) ((HS2.out.below B25.out (Nat.le_refl _)).mono l24) ((HW4.out.below HB45.out (Nat.le_refl _)).mono l45) ((HW2.out.below B25.out (Nat.le_refl _)).mono l24) v2 v1).mono ?_; rintro e w6 ⟨rfl, hb6⟩; have HB6 := hide hb6; clear hb6)
  | (go_at_call 10; refine (same_answers (((HA4.out.below HB45.out (Nat.le_refl _)).mono l45).below HB6.out (Nat.le_refl _)) (((HA2.out.below B25.out (Nat.le_refl _)).mono l24).below HB6.out (Nat.le_refl _)) v3 V4.out).mono ?_; rintro e w7 ⟨rfl, m7, hw7⟩; subst hw7))
 go_ret
 exact ⟨rfl, below_drewN (B5.out.trans (HB6.out.mono hws)) _⟩
end Rom
end
section
open Go.ChangeShapes Go.WideShapes Go.ChangeAt Go.RowKit Go.Deep
set_option maxRecDepth 100000
theorem ncellsR5 : Tryz.prog.cellsOf 28 = 10 := by kernel_rfl
set_option maxRecDepth 4000 in
theorem open_run17 {H : Type} {enc : TypeId × Value → H} {W : World} {base : Nat} {v : Value} {d : DataW H} {p : List MemPlace} (hv : Value.okWide Tryz.prog W .any base 28 v) (h : DataW.Trod enc Tryz.prog W 0 (fun _ => true) true 28 v d p) :
  ∃ (sh : Shp) (ao : Option Addr) (n cap : Nat) (f : Nat → Int) (aoh : Option Addr) (nh caph : Nat) (jn : Nat → Nat) (jb : Nat → Nat → Jb) (aos : Option Addr) (ns caps : Nat) (s : Nat → Int) (most : Int),
   v = .agg #[.int .i64 sh.a, .int .i64 sh.b, .int .i64 sh.c, .int .i64 sh.d, .int .i64 sh.e, .int .i64 sh.f, .slice ao n cap, .slice aoh nh caph, .slice aos ns caps, .int .i64 most] ∧
   (ao = none → n = 0 ∧ cap = 0) ∧ n ≤ maxLen ∧ Sees W W.heap.size ao n f ∧ (∀ i, i < n → 0 ≤ f i ∧ f i ≤ 18446744073709551615) ∧ nh ≤ maxLen ∧ SeesH W W.heap.size aoh nh jn jb ∧ (∀ h, h < nh → ∀ j, j < jn h → (jb h j).wf) ∧ SeesI W W.heap.size aos ns s := by
 obtain ⟨cs, rfl, hsz⟩ := okWide_struct Tryz.underlying28 hv
 rw [ncellsR5] at hsz
 obtain ⟨l⟩ := cs
 obtain ⟨c0, c1, c2, c3, c4, c5, c6, c7, c8, c9, rfl⟩ := list10 hsz
 obtain ⟨fuel, hf⟩ := h
 obtain ⟨xs, m, _, hx, _, hl, hel⟩ := DataW.trod_struct Tryz.underlying28 hf
 obtain ⟨y0, y1, y2, y3, y4, rfl⟩ := list5' hl
 have q0 := hel 0 _ rfl
 have q1 := hel 1 _ rfl
 have q2 := hel 2 _ rfl
 have q3 := hel 3 _ rfl
 have q4 := hel 4 _ rfl
 simp [ncellsSh, ncellsW, ncellsH, ncellsI, ncells3, Value.cells] at q0 q1 q2 q3 q4
 obtain ⟨sh, e0⟩ := shape_t rfl q0
 obtain ⟨ao, n, cap, f, e1, a1, a2, a3, a4⟩ := words_t q1
 obtain ⟨aoh, nh, caph, jn, jb, e2, b1, b2, b3⟩ := hands_t q2
 obtain ⟨aos, ns, caps, s, e3, d1, d2⟩ := nums_t q3
 obtain ⟨most, e4, _, _⟩ := DataW.trod_int Tryz.underlying3 q4
 simp at e0 e1 e2 e3 e4
 obtain ⟨rfl, rfl, rfl, rfl, rfl, rfl⟩ := e0
 subst e1 e2 e3 e4
 exact ⟨sh, ao, n, cap, f, aoh, nh, caph, jn, jb, aos, ns, caps, s, most, rfl, a1, a2, a3, a4, b1, b2, b3, d2⟩
end
end Go.Proofs.YtmikhglnomgbfaaGreat
