/-
  Lemmas: L11Play.
-/
import Derived.Test.YtdflicgjkleonaaTp40
import Derived.Test.YtdflicgjkleonaaTp20
/-
  A layer's reference: Play.
-/
namespace Go.Proofs.Ytdflicgjkleonaa
namespace L11
open Go.RowKit
set_option linter.unusedVariables false
set_option linter.unusedSimpArgs false
set_option linter.unnecessarySimpa false
set_option maxRecDepth 20000

variable {K : Kd} {rep : List Value → K.σ → Prop} {sh : Shp} {want : Nat} {w : World} {ao aoh aos : Option Addr} {cap caph caps : Nat} {P : Par} {f : Nat → Int} {most : Int}

set_option maxHeartbeats 4000000 in
theorem rplay_shape {er : Int} (her : ¬ er = 0) (hS : ∀ w : World, Calls Try.prog 15 #[sh.val] w fun e w' => e = .returned (.tuple #[.int .i64 0, .int .i64 er]) ∧ w.grownBy w' none) :
    Calls Try.prog 10 #[sh.val, .slice ao P.n cap, .slice aoh P.nh caph, .slice aos P.ns caps, .int .i64 most] w fun e w' => e = .returned (errVal er) ∧ Below w.heap.size w w' := by
  obtain ⟨s0, s1, s2, s3, s4, s5⟩ := sh
  simp only [Shp.val] at hS ⊢
  have HS := hide hS
  clear hS
  unfold errVal
  go_enter Try.func10, Try.ntmps10
  go_wp2_with fail
  refine (HS.out _).mono ?_
  rintro e w1 ⟨rfl, hg⟩
  have HB := hide ((((Below.refl w.heap.size w).alloc (Nat.le_refl _) (.cells #[.int .i64 s0, .int .i64 s1, .int .i64 s2, .int .i64 s3, .int .i64 s4, .int .i64 s5] 23)).alloc (by simp) (.cells #[.slice none 0 0, .slice none 0 0, .bool false] 32)).trans (below_of_grown_none hg w.heap.size (by simp; omega)))
  have hb := below_of_grown_none hg (w.heap.size + 2) (by simp)
  have z0 := hb.cell (p := ⟨w.heap.size + 1, 0, none⟩) (by simp)
  have z1 := hb.cell (p := ⟨w.heap.size + 1, 1, none⟩) (by simp)
  have z2 := hb.cell (p := ⟨w.heap.size + 1, 2, none⟩) (by simp)
  have y0 := hb.frozen (p := ⟨w.heap.size + 1, 0, none⟩) (by simp)
  have y1 := hb.frozen (p := ⟨w.heap.size + 1, 1, none⟩) (by simp)
  have y2 := hb.frozen (p := ⟨w.heap.size + 1, 2, none⟩) (by simp)
  simp at z0 z1 z2 y0 y1 y2
  clear hb hg
  go_wp2_with fail
  go_light
  refine bodyPost_ret (v := errVal er) ?_ rfl ⟨rfl, ((HB.out.setCell (by simp) _).setCell (by simp) _).setCell (by simp) _⟩
  simp [results, Try.results10, go_sem, errVal, *]

set_option maxHeartbeats 8000000 in
theorem rplay_all (hw4 : want ≤ 4096) (hS : ∀ w : World, Calls Try.prog 15 #[sh.val] w fun e w' => e = .returned (.tuple #[.int .i64 want, .int .i64 0]) ∧ w.grownBy w' none) (RK : RKind K rep sh 20 22)
    (S : Sees w w.heap.size ao P.n f) (hnil : ao = none → P.n = 0 ∧ cap = 0) (hf : ∀ i, i < P.n → 0 ≤ f i ∧ f i ≤ 18446744073709551615) (SH : SeesH w w.heap.size aoh P.nh P.jn P.jb) (hn63 : P.nh ≤ 9223372036854775807) (SI : SeesI w w.heap.size aos P.ns P.sched) (hjw : ∀ h, h < P.nh → ∀ j, j < P.jn h → (P.jb h j).wf) :
    Calls Try.prog 10 #[sh.val, .slice ao P.n cap, .slice aoh P.nh caph, .slice aos P.ns caps, .int .i64 most] w (RLAll K rep want w P f most) := by
  have RA := fun (w2 : World) (hn : P.n ≤ 4096) (B2 : Below w.heap.size w w2) => ran_all (w := w2) (ao := ao) (aoh := aoh) (aos := aos) (cap := cap) (caph := caph) (caps := caps) (most := most) RK ((S.below B2 (Nat.le_refl _)).mono B2.size) hnil hn hf ((SH.below B2 (Nat.le_refl _)).up B2.size) hn63 ((SI.below B2 (Nat.le_refl _)).up B2.size) hjw
  obtain ⟨s0, s1, s2, s3, s4, s5⟩ := sh
  simp only [Shp.val] at hS RA ⊢
  have HS := hide hS
  have HRA := hide RA
  clear hS RA RK S hnil hf SH SI hjw
  go_enter Try.func10, Try.ntmps10
  go_wp2_with fail
  refine (HS.out _).mono ?_
  rintro e w1 ⟨rfl, hg⟩
  have HB := hide ((((Below.refl w.heap.size w).alloc (Nat.le_refl _) (.cells #[.int .i64 s0, .int .i64 s1, .int .i64 s2, .int .i64 s3, .int .i64 s4, .int .i64 s5] 23)).alloc (by simp) (.cells #[.slice none 0 0, .slice none 0 0, .bool false] 32)).trans (below_of_grown_none hg w.heap.size (by simp; omega)))
  have hb := below_of_grown_none hg (w.heap.size + 2) (by simp)
  have sz1 := hg.size
  simp only [World.size_alloc] at sz1
  have c0 := hb.cell (p := ⟨w.heap.size, 0, none⟩) (by simp)
  have c1 := hb.cell (p := ⟨w.heap.size, 1, none⟩) (by simp)
  have c2 := hb.cell (p := ⟨w.heap.size, 2, none⟩) (by simp)
  have c3 := hb.cell (p := ⟨w.heap.size, 3, none⟩) (by simp)
  have c4 := hb.cell (p := ⟨w.heap.size, 4, none⟩) (by simp)
  have c5 := hb.cell (p := ⟨w.heap.size, 5, none⟩) (by simp)
  have z0 := hb.cell (p := ⟨w.heap.size + 1, 0, none⟩) (by simp)
  have z1 := hb.cell (p := ⟨w.heap.size + 1, 1, none⟩) (by simp)
  have z2 := hb.cell (p := ⟨w.heap.size + 1, 2, none⟩) (by simp)
  have y0 := hb.frozen (p := ⟨w.heap.size + 1, 0, none⟩) (by simp)
  have y1 := hb.frozen (p := ⟨w.heap.size + 1, 1, none⟩) (by simp)
  have y2 := hb.frozen (p := ⟨w.heap.size + 1, 2, none⟩) (by simp)
  simp at c0 c1 c2 c3 c4 c5 z0 z1 z2 y0 y1 y2
  clear hb hg
  by_cases hne : P.n = want
  · subst hne
    go_wp2_with fail
    refine (HRA.out w1 hw4 HB.out).mono ?_
    rintro e w3 ⟨hb3, hc3⟩
    have sz3 := hb3.size
    have LA : RLAll K rep P.n w1 P f most e w3 := ⟨hb3, by
      rcases hc3 with ⟨er, h1, h2⟩ | ⟨h1, h2, v, h3, h4⟩
      · exact .inl ⟨er, .inr ⟨rfl, h1⟩, h2⟩
      · exact .inr ⟨rfl, h1, h2, v, h3, rtold_touch h4 ((Touch.refl w3 (fun k => k = 0))) (by omega) (by omega)⟩⟩
    obtain ⟨sa, k, sc, wa, n, wc, en, aa, m, ac, er, rfl⟩ := LA.shape
    have u0 := (hb3.cell (p := ⟨w.heap.size + 1, 0, none⟩) (by show w.heap.size + 1 < _; omega)).trans z0
    have u1 := (hb3.cell (p := ⟨w.heap.size + 1, 1, none⟩) (by show w.heap.size + 1 < _; omega)).trans z1
    have u2 := (hb3.cell (p := ⟨w.heap.size + 1, 2, none⟩) (by show w.heap.size + 1 < _; omega)).trans z2
    have v0 := (hb3.frozen (p := ⟨w.heap.size + 1, 0, none⟩) (by show w.heap.size + 1 < _; omega)).trans y0
    have v1 := (hb3.frozen (p := ⟨w.heap.size + 1, 1, none⟩) (by show w.heap.size + 1 < _; omega)).trans y1
    have v2 := (hb3.frozen (p := ⟨w.heap.size + 1, 2, none⟩) (by show w.heap.size + 1 < _; omega)).trans y2
    have FIN := hide (LA.up HB.out (touch3 w3 (w.heap.size + 1) (.slice sa k sc) (.slice wa n wc) (.bool en)) (by omega) (by omega))
    clear hb3 hc3 LA c0 c1 c2 c3 c4 c5 z0 z1 z2 y0 y1 y2
    unfold tv3
    go_wp2_with fail
    go_light
    refine bodyPost_ret (v := tv3 sa k sc wa n wc en aa m ac er) ?_ rfl FIN.out
    simp [results, Try.results10, go_sem, tv3, *]
  · have hne' : ¬ (P.n : Int) = (want : Int) := by omega
    go_wp2_with fail
    go_light
    refine bodyPost_ret (v := errVal 121) ?_ rfl ⟨((HB.out.setCell (by simp) _).setCell (by simp) _).setCell (by simp) _, .inl ⟨121, .inl ⟨hne, rfl⟩, rfl⟩⟩
    simp [results, Try.results10, go_sem, errVal, *]
end L11
end Go.Proofs.Ytdflicgjkleonaa
