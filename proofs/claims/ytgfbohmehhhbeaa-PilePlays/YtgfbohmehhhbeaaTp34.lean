/-
  Lemmas: LViews, L6Play, PileW, Lift, Open, OpenR.
-/
import Derived.Test.YtgfbohmehhhbeaaTp32
import Derived.Test.YtgfbohmehhhbeaaTp24
import Derived.Test.YtgfbohmehhhbeaaTp33
import Derived.Test.YtgfbohmehhhbeaaTp26
import Derived.Test.YtgfbohmehhhbeaaRows
import Derived.WalkKit
import Derived.ProofKit
import Derived.OpenShut
import Derived.ChangeOld
import Derived.Below
import Derived.JoinedCond
import Derived.Leaving
import Derived.Conc.LeavingOf
import Derived.Test.YtgfbohmehhhbeaaTp08
import Derived.Test.YtgfbohmehhhbeaaTp05
import Derived.SizedLaws
import Derived.Deep.Slices
import Derived.Test.YtgfbohmehhhbeaaTp06
/-
  What both sides of a layer's run tell.
-/
namespace Go.Proofs.Ytgfbohmehhhbeaa
open Go.RowKit
set_option linter.unusedVariables false
set_option linter.unusedSimpArgs false
set_option linter.unnecessarySimpa false
set_option maxRecDepth 20000

def RLAll (K : Kd) (rep : List Value → K.σ → Prop) (want : Nat) (w : World) (P : Par) (f : Nat → Int) (most : Int) (e : Ending) (w' : World) : Prop :=
  Below w.heap.size w w' ∧ ((∃ er, LErr K want P most er ∧ e = .returned (errVal er)) ∨ (P.n = want ∧ Fine P most ∧ AllOk K P ∧ ∃ v, e = .returned v ∧ RTold K rep P (runSt P (st0 K P f) most.toNat) w.heap.size v w'))

theorem LErr.one {K : Kd} {want : Nat} {P : Par} {most e e' : Int} (h : LErr K want P most e) (h' : LErr K want P most e') : e = e' := by
  rcases h with ⟨a, rfl⟩ | ⟨a, h⟩
  · rcases h' with ⟨_, rfl⟩ | ⟨b, _⟩
    · rfl
    · exact absurd b a
  · rcases h' with ⟨b, _⟩ | ⟨_, h'⟩
    · exact absurd a b
    · exact h.one h'
theorem LErr.not {K : Kd} {want : Nat} {P : Par} {most e : Int} (h : LErr K want P most e) (h0 : P.n = want) : ¬ (Fine P most ∧ AllOk K P) := by
  rcases h with ⟨a, _⟩ | ⟨_, h⟩
  · exact absurd h0 a
  · exact h.not

theorem rtold_touch {K : Kd} {rep : List Value → K.σ → Prop} {P : Par} {st : St K} {base base' b : Nat} {v : Value} {w w' : World} (h : RTold K rep P st base v w) (ht : Touch w w' (fun k => k = b)) (hb : b < base) (hbb : base' ≤ base) : RTold K rep P st base' v w' := by
  obtain ⟨blk, c, un, capw, sv, rfl, H, G⟩ := h
  exact ⟨blk, c, un, capw, sv, rfl, ((H.touch ht (fun r x e he => by have := H.new r x e; omega))).base_le hbb, G⟩
theorem RLAll.up {K : Kd} {rep : List Value → K.σ → Prop} {want : Nat} {w0 w w' w2 : World} {P : Par} {f : Nat → Int} {most : Int} {e : Ending} {b : Nat} (h : RLAll K rep want w P f most e w') (h0 : Below w0.heap.size w0 w) (ht : Touch w' w2 (fun k => k = b)) (hb0 : w0.heap.size ≤ b) (hb : b < w.heap.size) : RLAll K rep want w0 P f most e w2 := by
  obtain ⟨hB, hc⟩ := h
  refine ⟨(h0.trans (hB.mono h0.size)).trans (ht.below (fun k hk => by omega) (Nat.le_trans h0.size hB.size)), ?_⟩
  rcases hc with h | ⟨h1, h2, h3, v, he, hT⟩
  · exact .inl h
  · exact .inr ⟨h1, h2, h3, v, he, rtold_touch hT ht hb h0.size⟩
theorem RLAll.shape {K : Kd} {rep : List Value → K.σ → Prop} {want : Nat} {w w' : World} {P : Par} {f : Nat → Int} {most : Int} {e : Ending} (h : RLAll K rep want w P f most e w') : ∃ sa k sc wa n wc en aa m ac er, e = .returned (tv3 sa k sc wa n wc en aa m ac er) := by
  rcases h.2 with ⟨er, _, rfl⟩ | ⟨_, _, _, v, rfl, blk, c, un, capw, sv, rfl, H, G⟩
  · exact ⟨none, 0, 0, none, 0, 0, false, none, 0, 0, er, rfl⟩
  · obtain ⟨sa, sc, rfl⟩ := G.steps.isSlice'
    exact ⟨_, _, _, _, _, _, _, _, _, _, _, rfl⟩

theorem lviews (K : Kd) (rep : List Value → K.σ → Prop) (want : Nat) (P : Par) (f : Nat → Int) (most : Int) : ∃ V : Vw, V.k ≤ 65536 ∧ V.n ≤ 4096 ∧ V.m ≤ 8 ∧ (∀ h, h < V.m → V.dn h ≤ 256) ∧
    (∀ w e w', RLAll K rep want w P f most e w' → Below w.heap.size w w' ∧ ∃ v, e = .returned v ∧ TV w' V v) ∧ (∀ w e w', LAll K want w P f most e w' → Below w.heap.size w w' ∧ ∃ v, e = .returned v ∧ TV w' V v) := by
  by_cases hE : ∃ er, LErr K want P most er
  · obtain ⟨er, hE⟩ := hE
    have tv : ∀ w, TV w ⟨0, fun _ => ⟨0, 0, 0, 0, 0, false⟩, 0, fun _ => 0, false, 0, fun _ => 0, fun _ _ => ⟨false, 0⟩, er⟩ (errVal er) := fun w => ⟨none, 0, none, 0, none, 0, rfl, fun j hj => absurd hj (Nat.not_lt_zero j), fun j hj => absurd hj (Nat.not_lt_zero j), fun j hj => absurd hj (Nat.not_lt_zero j)⟩
    refine ⟨⟨0, fun _ => ⟨0, 0, 0, 0, 0, false⟩, 0, fun _ => 0, false, 0, fun _ => 0, fun _ _ => ⟨false, 0⟩, er⟩, Nat.zero_le _, Nat.zero_le _, Nat.zero_le _, fun _ _ => Nat.zero_le _, ?_, ?_⟩
    · rintro w e w' ⟨hb, ⟨er', h, rfl⟩ | ⟨h0, h1, h2, _⟩⟩
      · obtain rfl := h.one hE
        exact ⟨hb, _, rfl, tv w'⟩
      · exact absurd ⟨h1, h2⟩ (hE.not h0)
    · rintro w e w' ⟨hb, ⟨er', h, rfl⟩ | ⟨h0, h1, h2, _⟩⟩
      · obtain rfl := h.one hE
        exact ⟨hb, _, rfl, tv w'⟩
      · exact absurd ⟨h1, h2⟩ (hE.not h0)
  · by_cases hf : Fine P most
    · have st := runSt P (st0 K P f) most.toNat
      have hk : (runSt P (st0 K P f) most.toNat).k ≤ 65536 := by
        have := (runSt_k P (st0 K P f) rfl most.toNat).1
        have := hf.2.2.2
        omega
      have hnh : P.nh ≤ 8 := by rcases Nat.lt_or_ge 8 P.nh with l | l; exact absurd (.inl l) hf.2.1; exact l
      by_cases hd : ∀ h, h < P.nh → (runSt P (st0 K P f) most.toNat).done h ≤ 256
      · refine ⟨⟨(runSt P (st0 K P f) most.toNat).k, (runSt P (st0 K P f) most.toNat).s, P.n, (runSt P (st0 K P f) most.toNat).f, decide (cnt ((runSt P (st0 K P f) most.toNat).going P) P.nh = 0), P.nh, (runSt P (st0 K P f) most.toNat).done, (runSt P (st0 K P f) most.toNat).ans, 0⟩, hk, hf.1, hnh, hd, ?_, ?_⟩
        · rintro w e w' ⟨hb, ⟨er', h, rfl⟩ | ⟨h0, h1, h2, v, rfl, blk, c, un, capw, sv, rfl, H, G⟩⟩
          · exact absurd ⟨_, h⟩ hE
          · obtain ⟨sa, sc, rfl⟩ := G.steps.isSlice'
            exact ⟨hb, _, rfl, sa, sc, _, _, _, _, rfl, G.steps.seesS H, G.seesW H, seesA_of G.answers H⟩
        · rintro w e w' ⟨hb, ⟨er', h, rfl⟩ | ⟨h0, h1, h2, v, rfl, blk, c, g, sv, rfl, H, G, GS, R, hg, hne⟩⟩
          · exact absurd ⟨_, h⟩ hE
          · obtain ⟨sa, sc, rfl⟩ := GS.isSlice'
            exact ⟨hb, _, rfl, sa, sc, _, _, _, _, rfl, GS.seesS H, R.sees, seesA_of G.answers H⟩
      · refine ⟨⟨0, fun _ => ⟨0, 0, 0, 0, 0, false⟩, 0, fun _ => 0, false, 0, fun _ => 0, fun _ _ => ⟨false, 0⟩, 0⟩, Nat.zero_le _, Nat.zero_le _, Nat.zero_le _, fun _ _ => Nat.zero_le _, ?_, ?_⟩
        · rintro w e w' ⟨hb, ⟨er', h, rfl⟩ | ⟨h0, h1, h2, v, rfl, blk, c, un, capw, sv, rfl, H, G⟩⟩
          · exact absurd ⟨_, h⟩ hE
          · exact absurd (fun h hh => Nat.le_trans (G.doneLe h hh) (G.jobs h hh)) hd
        · rintro w e w' ⟨hb, ⟨er', h, rfl⟩ | ⟨h0, h1, h2, v, rfl, blk, c, g, sv, rfl, H, G, GS, R, hg, hne⟩⟩
          · exact absurd ⟨_, h⟩ hE
          · exact absurd (fun h hh => Nat.le_trans (G.doneLe h hh) (G.jobs h hh)) hd
    · refine ⟨⟨0, fun _ => ⟨0, 0, 0, 0, 0, false⟩, 0, fun _ => 0, false, 0, fun _ => 0, fun _ _ => ⟨false, 0⟩, 0⟩, Nat.zero_le _, Nat.zero_le _, Nat.zero_le _, fun _ _ => Nat.zero_le _, ?_, ?_⟩
      · rintro w e w' ⟨hb, ⟨er', h, rfl⟩ | ⟨h0, h1, _⟩⟩
        · exact absurd ⟨_, h⟩ hE
        · exact absurd h1 hf
      · rintro w e w' ⟨hb, ⟨er', h, rfl⟩ | ⟨h0, h1, _⟩⟩
        · exact absurd ⟨_, h⟩ hE
        · exact absurd h1 hf


variable {K : Kd} {rep : List Value → K.σ → Prop} {sh : Shp} {want : Nat} {w : World} {ao aoh aos : Option Addr} {cap caph caps : Nat} {P : Par} {f : Nat → Int} {most : Int}
end Go.Proofs.Ytgfbohmehhhbeaa

/-
  A layer's reference: Play.
-/
namespace Go.Proofs.Ytgfbohmehhhbeaa
namespace L6
open Go.RowKit
set_option linter.unusedVariables false
set_option linter.unusedSimpArgs false
set_option linter.unnecessarySimpa false
set_option maxRecDepth 20000

variable {K : Kd} {rep : List Value → K.σ → Prop} {sh : Shp} {want : Nat} {w : World} {ao aoh aos : Option Addr} {cap caph caps : Nat} {P : Par} {f : Nat → Int} {most : Int}

set_option maxHeartbeats 4000000 in
theorem rplay_shape {er : Int} (her : ¬ er = 0) (hS : ∀ w : World, Calls Try.prog 14 #[sh.val] w fun e w' => e = .returned (.tuple #[.int .i64 0, .int .i64 er]) ∧ w.grownBy w' none) :
    Calls Try.prog 10 #[sh.val, .slice ao P.n cap, .slice aoh P.nh caph, .slice aos P.ns caps, .int .i64 most] w fun e w' => e = .returned (errVal er) ∧ Below w.heap.size w w' := by
  obtain ⟨s0, s1, s2, s3, s4, s5⟩ := sh
  simp only [Shp.val] at hS ⊢
  have HS := hide hS
  clear hS
  unfold errVal
  go_enter Try.func10, Try.ntmps10
  go_wp2_with fail
  refine (HS.out _).mono ?_
  rintro e w1 ⟨rfl, hg⟩
  have HB := hide ((((Below.refl w.heap.size w).alloc (Nat.le_refl _) (.cells #[.int .i64 s0, .int .i64 s1, .int .i64 s2, .int .i64 s3, .int .i64 s4, .int .i64 s5] 23)).alloc (by simp) (.cells #[.slice none 0 0, .slice none 0 0, .bool false] 30)).trans (below_of_grown_none hg w.heap.size (by simp; omega)))
  have hb := below_of_grown_none hg (w.heap.size + 2) (by simp)
  have z0 := hb.cell (p := ⟨w.heap.size + 1, 0, none⟩) (by simp)
  have z1 := hb.cell (p := ⟨w.heap.size + 1, 1, none⟩) (by simp)
  have z2 := hb.cell (p := ⟨w.heap.size + 1, 2, none⟩) (by simp)
  have y0 := hb.frozen (p := ⟨w.heap.size + 1, 0, none⟩) (by simp)
  have y1 := hb.frozen (p := ⟨w.heap.size + 1, 1, none⟩) (by simp)
  have y2 := hb.frozen (p := ⟨w.heap.size + 1, 2, none⟩) (by simp)
  simp at z0 z1 z2 y0 y1 y2
  clear hb hg
  go_wp2_with fail
  go_light
  refine bodyPost_ret (v := errVal er) ?_ rfl ⟨rfl, ((HB.out.setCell (by simp) _).setCell (by simp) _).setCell (by simp) _⟩
  simp [results, Try.results10, go_sem, errVal, *]

set_option maxHeartbeats 8000000 in
theorem rplay_all (hw4 : want ≤ 4096) (hS : ∀ w : World, Calls Try.prog 14 #[sh.val] w fun e w' => e = .returned (.tuple #[.int .i64 want, .int .i64 0]) ∧ w.grownBy w' none) (RK : RKind K rep sh 16 53)
    (S : Sees w w.heap.size ao P.n f) (hnil : ao = none → P.n = 0 ∧ cap = 0) (hf : ∀ i, i < P.n → 0 ≤ f i ∧ f i ≤ 18446744073709551615) (SH : SeesH w w.heap.size aoh P.nh P.jn P.jb) (hn63 : P.nh ≤ 9223372036854775807) (SI : SeesI w w.heap.size aos P.ns P.sched) (hjw : ∀ h, h < P.nh → ∀ j, j < P.jn h → (P.jb h j).wf) :
    Calls Try.prog 10 #[sh.val, .slice ao P.n cap, .slice aoh P.nh caph, .slice aos P.ns caps, .int .i64 most] w (RLAll K rep want w P f most) := by
  have RA := fun (w2 : World) (hn : P.n ≤ 4096) (B2 : Below w.heap.size w w2) => ran_all (w := w2) (ao := ao) (aoh := aoh) (aos := aos) (cap := cap) (caph := caph) (caps := caps) (most := most) RK ((S.below B2 (Nat.le_refl _)).mono B2.size) hnil hn hf ((SH.below B2 (Nat.le_refl _)).up B2.size) hn63 ((SI.below B2 (Nat.le_refl _)).up B2.size) hjw
  obtain ⟨s0, s1, s2, s3, s4, s5⟩ := sh
  simp only [Shp.val] at hS RA ⊢
  have HS := hide hS
  have HRA := hide RA
  clear hS RA RK S hnil hf SH SI hjw
  go_enter Try.func10, Try.ntmps10
  go_wp2_with fail
  refine (HS.out _).mono ?_
  rintro e w1 ⟨rfl, hg⟩
  have HB := hide ((((Below.refl w.heap.size w).alloc (Nat.le_refl _) (.cells #[.int .i64 s0, .int .i64 s1, .int .i64 s2, .int .i64 s3, .int .i64 s4, .int .i64 s5] 23)).alloc (by simp) (.cells #[.slice none 0 0, .slice none 0 0, .bool false] 30)).trans (below_of_grown_none hg w.heap.size (by simp; omega)))
  have hb := below_of_grown_none hg (w.heap.size + 2) (by simp)
  have sz1 := hg.size
  simp only [World.size_alloc] at sz1
  have c0 := hb.cell (p := ⟨w.heap.size, 0, none⟩) (by simp)
  have c1 := hb.cell (p := ⟨w.heap.size, 1, none⟩) (by simp)
  have c2 := hb.cell (p := ⟨w.heap.size, 2, none⟩) (by simp)
  have c3 := hb.cell (p := ⟨w.heap.size, 3, none⟩) (by simp)
  have c4 := hb.cell (p := ⟨w.heap.size, 4, none⟩) (by simp)
  have c5 := hb.cell (p := ⟨w.heap.size, 5, none⟩) (by simp)
  have z0 := hb.cell (p := ⟨w.heap.size + 1, 0, none⟩) (by simp)
  have z1 := hb.cell (p := ⟨w.heap.size + 1, 1, none⟩) (by simp)
  have z2 := hb.cell (p := ⟨w.heap.size + 1, 2, none⟩) (by simp)
  have y0 := hb.frozen (p := ⟨w.heap.size + 1, 0, none⟩) (by simp)
  have y1 := hb.frozen (p := ⟨w.heap.size + 1, 1, none⟩) (by simp)
  have y2 := hb.frozen (p := ⟨w.heap.size + 1, 2, none⟩) (by simp)
  simp at c0 c1 c2 c3 c4 c5 z0 z1 z2 y0 y1 y2
  clear hb hg
  by_cases hne : P.n = want
  · subst hne
    go_wp2_with fail
    refine (HRA.out w1 hw4 HB.out).mono ?_
    rintro e w3 ⟨hb3, hc3⟩
    have sz3 := hb3.size
    have LA : RLAll K rep P.n w1 P f most e w3 := ⟨hb3, by
      rcases hc3 with ⟨er, h1, h2⟩ | ⟨h1, h2, v, h3, h4⟩
      · exact .inl ⟨er, .inr ⟨rfl, h1⟩, h2⟩
      · exact .inr ⟨rfl, h1, h2, v, h3, rtold_touch h4 ((Touch.refl w3 (fun k => k = 0))) (by omega) (by omega)⟩⟩
    obtain ⟨sa, k, sc, wa, n, wc, en, aa, m, ac, er, rfl⟩ := LA.shape
    have u0 := (hb3.cell (p := ⟨w.heap.size + 1, 0, none⟩) (by show w.heap.size + 1 < _; omega)).trans z0
    have u1 := (hb3.cell (p := ⟨w.heap.size + 1, 1, none⟩) (by show w.heap.size + 1 < _; omega)).trans z1
    have u2 := (hb3.cell (p := ⟨w.heap.size + 1, 2, none⟩) (by show w.heap.size + 1 < _; omega)).trans z2
    have v0 := (hb3.frozen (p := ⟨w.heap.size + 1, 0, none⟩) (by show w.heap.size + 1 < _; omega)).trans y0
    have v1 := (hb3.frozen (p := ⟨w.heap.size + 1, 1, none⟩) (by show w.heap.size + 1 < _; omega)).trans y1
    have v2 := (hb3.frozen (p := ⟨w.heap.size + 1, 2, none⟩) (by show w.heap.size + 1 < _; omega)).trans y2
    have FIN := hide (LA.up HB.out (touch3 w3 (w.heap.size + 1) (.slice sa k sc) (.slice wa n wc) (.bool en)) (by omega) (by omega))
    clear hb3 hc3 LA c0 c1 c2 c3 c4 c5 z0 z1 z2 y0 y1 y2
    unfold tv3
    go_wp2_with fail
    go_light
    refine bodyPost_ret (v := tv3 sa k sc wa n wc en aa m ac er) ?_ rfl FIN.out
    simp [results, Try.results10, go_sem, tv3, *]
  · have hne' : ¬ (P.n : Int) = (want : Int) := by omega
    go_wp2_with fail
    go_light
    refine bodyPost_ret (v := errVal 121) ?_ rfl ⟨((HB.out.setCell (by simp) _).setCell (by simp) _).setCell (by simp) _, .inl ⟨121, .inl ⟨hne, rfl⟩, rfl⟩⟩
    simp [results, Try.results10, go_sem, errVal, *]
end L6
end Go.Proofs.Ytgfbohmehhhbeaa

/-
  PilePlays: the law's own walk.
-/
namespace Go.Proofs.Ytgfbohmehhhbeaa
open Go.RowKit
set_option linter.unusedVariables false
set_option linter.unusedSimpArgs false
set_option linter.unnecessarySimpa false
set_option maxRecDepth 20000
namespace Pile

variable {w : World} {ao aoh aos : Option Addr} {cap caph caps : Nat} {P : Par} {f : Nat → Int} {most : Int} {sh : Shp}

/-- What both sides tell, whatever they are given. -/
theorem pviews (sh : Shp) (P : Par) (f : Nat → Int) (most : Int) (hn63 : P.nh ≤ 9223372036854775807) (hf : ∀ i, i < P.n → 0 ≤ f i ∧ f i ≤ 18446744073709551615) (hjw : ∀ h, h < P.nh → ∀ j, j < P.jn h → (P.jb h j).wf) :
    ∃ V : Vw, V.k ≤ 65536 ∧ V.n ≤ 4096 ∧ V.m ≤ 8 ∧ (∀ h, h < V.m → V.dn h ≤ 256) ∧
    (∀ (w : World) ao cap aoh caph aos caps, Sees w w.heap.size ao P.n f → (ao = none → P.n = 0 ∧ cap = 0) → SeesH w w.heap.size aoh P.nh P.jn P.jb → SeesI w w.heap.size aos P.ns P.sched →
      Calls Try.prog 10 #[sh.val, .slice ao P.n cap, .slice aoh P.nh caph, .slice aos P.ns caps, .int .i64 most] w fun e w' => Below w.heap.size w w' ∧ ∃ v, e = .returned v ∧ TV w' V v) ∧
    (∀ (w : World) ao cap aoh caph aos caps, Sees w w.heap.size ao P.n f → SeesH w w.heap.size aoh P.nh P.jn P.jb → SeesI w w.heap.size aos P.ns P.sched →
      Calls Try.prog 11 #[sh.val, .slice ao P.n cap, .slice aoh P.nh caph, .slice aos P.ns caps, .int .i64 most] w fun e w' => Below w.heap.size w w' ∧ ∃ v, e = .returned v ∧ TV w' V v) := by
  by_cases hr : sh.f < 1 ∨ 64 < sh.f
  · have tv : ∀ w, TV w ⟨0, fun _ => ⟨0, 0, 0, 0, 0, false⟩, 0, fun _ => 0, false, 0, fun _ => 0, fun _ _ => ⟨false, 0⟩, 120⟩ (errVal 120) := fun w => ⟨none, 0, none, 0, none, 0, rfl, fun j hj => absurd hj (Nat.not_lt_zero j), fun j hj => absurd hj (Nat.not_lt_zero j), fun j hj => absurd hj (Nat.not_lt_zero j)⟩
    refine ⟨⟨0, fun _ => ⟨0, 0, 0, 0, 0, false⟩, 0, fun _ => 0, false, 0, fun _ => 0, fun _ _ => ⟨false, 0⟩, 120⟩, Nat.zero_le _, Nat.zero_le _, Nat.zero_le _, fun _ _ => Nat.zero_le _, ?_, ?_⟩
    · intro w ao cap aoh caph aos caps _ _ _ _
      exact (L6.rplay_shape (by decide) (fun w' => rsize_bad w' sh hr)).mono fun e w' ⟨he, hb⟩ => ⟨hb, _, he, tv w'⟩
    · intro w ao cap aoh caph aos caps _ _ _
      exact (play_shape hr).mono fun e w' ⟨he, hb⟩ => ⟨hb, _, he, tv w'⟩
  · have h1 : 1 ≤ sh.f := by omega
    have h2 : sh.f ≤ 64 := by omega
    obtain ⟨want, hwant⟩ : ∃ want : Nat, (want : Int) = 2 + 2 * sh.f := ⟨(2 + 2 * sh.f).toNat, by omega⟩
    obtain ⟨V, v1, v2, v3, v4, v5, v6⟩ := lviews kPile (repP sh) want P f most
    refine ⟨V, v1, v2, v3, v4, ?_, ?_⟩
    · intro w ao cap aoh caph aos caps S hnil SH SI
      exact (L6.rplay_all (by omega) (fun w' => by rw [hwant]; exact rsize_ok w' sh h1 h2) (rkind h1 h2) S hnil hf SH hn63 SI hjw).mono fun e w' h => v5 _ _ _ h
    · intro w ao cap aoh caph aos caps S SH SI
      exact (play_all h1 h2 hwant S hf SH hn63 SI hjw).mono fun e w' h => v6 _ _ _ h

set_option maxHeartbeats 8000000 in
theorem plays_walk (S : Sees w w.heap.size ao P.n f) (hnil : ao = none → P.n = 0 ∧ cap = 0) (hf : ∀ i, i < P.n → 0 ≤ f i ∧ f i ≤ 18446744073709551615) (SH : SeesH w w.heap.size aoh P.nh P.jn P.jb) (hn63 : P.nh ≤ 9223372036854775807) (SI : SeesI w w.heap.size aos P.ns P.sched) (hjw : ∀ h, h < P.nh → ∀ j, j < P.jn h → (P.jb h j).wf) :
    Calls Try.prog 3 #[sh.val, .slice ao P.n cap, .slice aoh P.nh caph, .slice aos P.ns caps, .int .i64 most] w fun e w' => e = .returned (.bool true) ∧ Below w.heap.size w w' := by
  obtain ⟨V, v1, v2, v3, v4, v5, v6⟩ := pviews sh P f most hn63 hf hjw
  have ups : Hid (∀ w1, Below w.heap.size w w1 → Sees w1 w1.heap.size ao P.n f ∧ SeesH w1 w1.heap.size aoh P.nh P.jn P.jb ∧ SeesI w1 w1.heap.size aos P.ns P.sched) := fun w1 B1 =>
    ⟨(S.below B1 (Nat.le_refl _)).mono B1.size, (SH.below B1 (Nat.le_refl _)).up B1.size, (SI.below B1 (Nat.le_refl _)).up B1.size⟩
  have HRP := hide (fun (w1 : World) (B1 : Below w.heap.size w w1) => v5 w1 ao cap aoh caph aos caps (ups.out w1 B1).1 hnil (ups.out w1 B1).2.1 (ups.out w1 B1).2.2)
  have HPP := hide (fun (w1 : World) (B1 : Below w.heap.size w w1) => v6 w1 ao cap aoh caph aos caps (ups.out w1 B1).1 (ups.out w1 B1).2.1 (ups.out w1 B1).2.2)
  obtain ⟨k, s, n, f', en, m, dn, an, er⟩ := V
  simp only at v1 v2 v3 v4
  have V4 := hide v4
  obtain ⟨s0, s1, s2, s3, s4, s5⟩ := sh
  simp only [Shp.val] at HRP HPP ⊢
  clear S SH SI hjw hnil hf v4 v5 v6 ups
  obtain ⟨W0, hW0⟩ : ∃ W0, w.alloc (.cells #[.int .i64 s0, .int .i64 s1, .int .i64 s2, .int .i64 s3, .int .i64 s4, .int .i64 s5] 23) = W0 := ⟨_, rfl⟩
  have b0 : Below w.heap.size w W0 := by rw [← hW0]; exact (Below.refl _ w).alloc (Nat.le_refl _) _
  have R0 : W0.rowIs w.heap.size 23 6 (lrow [.int .i64 s0, .int .i64 s1, .int .i64 s2, .int .i64 s3, .int .i64 s4, .int .i64 s5]) := by rw [← hW0]; exact rowL_alloc w [.int .i64 s0, .int .i64 s1, .int .i64 s2, .int .i64 s3, .int .i64 s4, .int .i64 s5] _ rfl
  have keep : Hid (∀ w' : World, Below W0.heap.size W0 w' → Below w.heap.size w w' ∧ w.heap.size < w'.heap.size ∧ w'.cell? ⟨w.heap.size, 0, none⟩ = some (.int .i64 s0) ∧ w'.cell? ⟨w.heap.size, 1, none⟩ = some (.int .i64 s1) ∧ w'.cell? ⟨w.heap.size, 2, none⟩ = some (.int .i64 s2) ∧ w'.cell? ⟨w.heap.size, 3, none⟩ = some (.int .i64 s3) ∧ w'.cell? ⟨w.heap.size, 4, none⟩ = some (.int .i64 s4) ∧ w'.cell? ⟨w.heap.size, 5, none⟩ = some (.int .i64 s5)) := fun w' hb => by
    have r := R0.of_block (hb.block w.heap.size R0.lt)
    exact ⟨b0.trans (hb.mono b0.size), r.lt, r.cell (i := 0) (by decide), r.cell (i := 1) (by decide), r.cell (i := 2) (by decide), r.cell (i := 3) (by decide), r.cell (i := 4) (by decide), r.cell (i := 5) (by decide)⟩
  have sz0 : W0.heap.size = w.heap.size + 1 := by rw [← hW0]; simp
  clear b0 R0
  go_enter Try.func3, Try.ntmps3
  go_wp2_with fail
  refine (awake_any W0).mono ?_
  rintro e w1 ⟨rfl, hb1⟩
  obtain ⟨bw1, l1, c0, c1, c2, c3, c4, c5⟩ := keep.out w1 hb1
  have HB1 := hide hb1
  have BW1 := hide bw1
  have hs1 := hb1.size
  clear hb1 bw1 hW0
  go_wp2_with fail
  refine (HRP.out w1 BW1.out).mono ?_
  rintro e w2 ⟨hb2, v, rfl, sa, sc, wa, wc, aa, ac, rfl, S2, W2, A2⟩
  have hs2 := hb2.size
  have B2 := hide (HB1.out.trans (hb2.mono hs1))
  have HS2 := hide S2
  have HW2 := hide W2
  have HA2 := hide A2
  clear hb2 S2 W2 A2 c0 c1 c2 c3 c4 c5
  simp only
  obtain ⟨W3, hW3⟩ : ∃ W3, w2.alloc (.cells #[.slice sa k sc, .slice wa n wc, .bool en] 30) = W3 := ⟨_, rfl⟩
  have B23 : Below w2.heap.size w2 W3 := by rw [← hW3]; exact (Below.refl _ w2).alloc (Nat.le_refl _) _
  have B03 := B2.out.trans (B23.mono (Nat.le_trans hs1 hs2))
  obtain ⟨bw3, l3, c0, c1, c2, c3, c4, c5⟩ := keep.out W3 B03
  have BW3 := hide bw3
  have R3 := hide (show W3.rowIs w2.heap.size 30 3 (lrow [.slice sa k sc, .slice wa n wc, .bool en]) from by rw [← hW3]; exact rowL_alloc w2 [.slice sa k sc, .slice wa n wc, .bool en] _ rfl)
  have HB23 := hide B23
  have hs3 : W3.heap.size = w2.heap.size + 1 := by rw [← hW3]; simp
  clear B23 B03 bw3
  go_wp2_with fail
  refine (HPP.out W3 BW3.out).mono ?_
  rintro e w4 ⟨hb4, v, rfl, sa', sc', wa', wc', aa', ac', rfl, S4, W4, A4⟩
  have hs4 := hb4.size
  have HB4 := hide hb4
  have HS4 := hide S4
  have HW4 := hide W4
  have HA4 := hide A4
  clear hb4 S4 W4 A4 hW3 c0 c1 c2 c3 c4 c5
  simp only
  obtain ⟨W5, hW5⟩ : ∃ W5, w4.alloc (.cells #[.slice sa' k sc', .slice wa' n wc', .bool en] 30) = W5 := ⟨_, rfl⟩
  have B45 : Below w4.heap.size w4 W5 := by rw [← hW5]; exact (Below.refl _ w4).alloc (Nat.le_refl _) _
  have R5 := hide (show W5.rowIs w4.heap.size 30 3 (lrow [.slice sa' k sc', .slice wa' n wc', .bool en]) from by rw [← hW5]; exact rowL_alloc w4 [.slice sa' k sc', .slice wa' n wc', .bool en] _ rfl)
  have hs5 : W5.heap.size = w4.heap.size + 1 := by rw [← hW5]; simp
  have R35 := hide (R3.out.of_block ((HB4.out.trans (B45.mono (by omega))).block _ (by omega)))
  have B25 := hide (HB23.out.trans ((HB4.out.trans (B45.mono (by omega))).mono (by omega)))
  have B5 := hide (BW3.out.trans ((HB4.out.trans (B45.mono (by omega))).mono BW3.out.size))
  have HB45 := hide B45
  have c0 : W5.cell? ⟨w2.heap.size, 0, none⟩ = some (.slice sa k sc) := R35.out.cell (i := 0) (by omega)
  have c1 : W5.cell? ⟨w2.heap.size, 1, none⟩ = some (.slice wa n wc) := R35.out.cell (i := 1) (by omega)
  have c2 : W5.cell? ⟨w2.heap.size, 2, none⟩ = some (.bool en) := R35.out.cell (i := 2) (by omega)
  have d0 : W5.cell? ⟨w4.heap.size, 0, none⟩ = some (.slice sa' k sc') := R5.out.cell (i := 0) (by omega)
  have d1 : W5.cell? ⟨w4.heap.size, 1, none⟩ = some (.slice wa' n wc') := R5.out.cell (i := 1) (by omega)
  have d2 : W5.cell? ⟨w4.heap.size, 2, none⟩ = some (.bool en) := R5.out.cell (i := 2) (by omega)
  have l24 : w2.heap.size ≤ W5.heap.size := by omega
  have l45 : w4.heap.size ≤ W5.heap.size := by omega
  have hws : w.heap.size ≤ W5.heap.size := by omega
  clear B45
  go_wp2_with (first
    | (go_at_call 12; refine (same_trace ((HS4.out.below HB45.out (Nat.le_refl _)).mono l45) ((HS2.out.below B25.out (Nat.le_refl _)).mono l24) ((HW4.out.below HB45.out (Nat.le_refl _)).mono l45) ((HW2.out.below B25.out (Nat.le_refl _)).mono l24) v2 v1).mono ?_; rintro e w6 ⟨rfl, hb6⟩; have HB6 := hide hb6; clear hb6)
    | (go_at_call 13; refine (same_answers (((HA4.out.below HB45.out (Nat.le_refl _)).mono l45).below HB6.out (Nat.le_refl _)) (((HA2.out.below B25.out (Nat.le_refl _)).mono l24).below HB6.out (Nat.le_refl _)) v3 V4.out).mono ?_; rintro e w7 ⟨rfl, m7, hw7⟩; subst hw7))
  go_ret
  exact ⟨rfl, below_drewN (B5.out.trans (HB6.out.mono hws)) _⟩
end Pile
end Go.Proofs.Ytgfbohmehhhbeaa

/-
  From a walk to a law's statement, whatever the law's arguments: where the call answers true and turns nothing below the heap's old size, the arguments read as they did, and the row's step holds.
-/
namespace Go.Proofs.Ytgfbohmehhhbeaa
namespace Lift
open Go.ChangeShapes Go.WideShapes Go.ChangeAt Go.RowKit
set_option linter.unusedVariables false

theorem own : ownKnob Try.prog.godebug = none := by kernel_rfl
theorem laidOut : laidOutB Try.prog = true := by kernel_rfl

/-- All arguments read behind the call as they read before it. -/
theorem trodAll_below {H : Type} {enc : TypeId × Value → H} {P : Program} (hl : laidOutB P = true) {W W' : World} (hb : Below W.heap.size W W') :
    ∀ (ts : List TypeId) (vs : List Value) (ds : List (DataW H)) (p : List MemPlace), (ts.all fun t => P.readableRec t && decide (t < P.types.size)) = true →
      DataW.TrodAll enc P W 0 (fun _ => true) true ts vs ds p → DataW.TrodAll enc P W' 0 (fun b => decide (b < W.heap.size)) true ts vs ds p := by
  intro ts
  induction ts with
  | nil =>
    intro vs ds p _ h
    obtain ⟨rfl, rfl, rfl⟩ := trodAll_nil h
    exact trodAll_mk0
  | cons t ts ih =>
    intro vs ds p hr h
    obtain ⟨v, vs', d, ds', p1, q1, rfl, rfl, rfl, h1, h2⟩ := trodAll_cons h
    simp only [List.all_cons, Bool.and_eq_true, decide_eq_true_eq] at hr
    have lt : ∀ x ∈ p1, x.block < W.heap.size := by obtain ⟨m, hm⟩ := h1; exact DataW.trod_lt m _ _ _ hm
    exact trodAll_cons_mk (Below.trod hl hr.1.1 hr.1.2 h1 hb lt) (ih vs' ds' q1 hr.2 h2)

/-- What a law's specification says: the answer is true, the arguments are as they were. -/
structure IsLaw (s : ChangeSpec) (n : Nat) : Prop where
  vars : s.vars = []
  fn : ∀ (H : Type) (ds : List (DataW H)), ds.length = n → s.fn H (ds ++ []) = { results := [.lit (.bool true)], args := ds }

theorem trodAll_length {H : Type} {enc : TypeId × Value → H} {P : Program} {w : World} {base : Nat} {spare : Nat → Bool} {held : Bool} :
    ∀ (ts : List TypeId) (vs : List Value) (ds : List (DataW H)) (p : List MemPlace), DataW.TrodAll enc P w base spare held ts vs ds p → ds.length = ts.length := by
  intro ts
  induction ts with
  | nil => intro vs ds p h; obtain ⟨rfl, rfl, rfl⟩ := trodAll_nil h; rfl
  | cons t ts ih =>
    intro vs ds p h
    obtain ⟨v, vs', d, ds', p1, q1, rfl, rfl, rfl, h1, h2⟩ := trodAll_cons h
    simp [ih vs' ds' q1 h2]

/-- The step from the walk to the row's 'post'. -/
theorem contract {H : Type} (enc : TypeId × Value → H) {f : FuncId} {fn : Func} {s : ChangeSpec} {tb : TypeId} (hs : IsLaw s fn.params.size)
    (hr : (fn.params.toList.all fun t => Try.prog.readableRec t && decide (t < Try.prog.types.size)) = true) (hres : fn.resultTypes = #[tb]) (htb : Try.prog.underlying tb = some .bool)
    (W : World) (args : Array Value) (ds gs : List (DataW H)) (before : List MemPlace)
    (hW : DataW.Whole enc Try.prog fn.params.toList s.vars false W args.toList ds gs before)
    (walk : ∀ p, DataW.TrodAll enc Try.prog W 0 (fun _ => true) true fn.params.toList args.toList ds p → Calls Try.prog f args W fun e W' => e = .returned (.bool true) ∧ Below W.heap.size W W') :
    Calls Try.prog f args W fun e W' => ∃ v, e = .returned v ∧ s.post enc Try.prog fn false true false false W args v W' := by
  have hW' := hW
  obtain ⟨p, q, hA, hV, rfl, hfz, hnd⟩ := hW
  have hn := trodAll_length _ _ _ _ hA
  rw [hs.vars] at hV
  obtain ⟨rfl, rfl⟩ := trodVars_none hV
  have he := hs.fn H ds (by simpa using hn)
  refine (walk p hA).mono fun e W' ⟨hee, bel⟩ => ?_
  subst hee
  refine ⟨_, rfl, ds, [], _, [], p, [], hW', ?_, ?_, ?_, bel.frame _, fun h => by cases h⟩
  · rw [he, hres]
    exact trodAll_mk1 (shut_bool htb _)
  · rw [he]
    exact trodAll_below laidOut bel _ _ _ _ hr hA
  · rw [he, hs.vars]
    rfl

/-- A call that starts nothing ends alone: so all the others, there being none, are only leaving. -/
theorem leaving {a : Assume} {C : Checked} {os : Os} {f : FuncId} {r : Reach} {Pre : World → Array Value → Prop} {Post : World → Array Value → Value → World → Prop} (h : ReturnsInHanded a C os f r Pre Post) : ReturnsInLeavingWide a C os f r Pre Post := fun enter => by
  obtain ⟨h1, h2, h3, h4, h5⟩ := h enter
  refine ⟨h1, h2, h3, h4, fun w tape i hf => ?_⟩
  obtain ⟨n, v, w', e1, e2, e3, e4, ⟨j, last, e5, e6, q, ho, eh⟩, e8⟩ := h5 w tape i hf
  exact ⟨n, v, w', e1, e2, e3, e4, ⟨j, last, e5, e6, ho, onlyLeaving_of_quiet q, eh⟩, e8⟩
end Lift
end Go.Proofs.Ytgfbohmehhhbeaa

/-
  The arguments opened: words, numbers, bools, hands.
-/
namespace Go.Proofs.Ytgfbohmehhhbeaa
open Go.ChangeShapes Go.WideShapes Go.ChangeAt Go.RowKit Go.Deep
set_option linter.unusedVariables false
set_option linter.unusedSimpArgs false
set_option maxRecDepth 100000

theorem ncells46 : Try.prog.cellsOf 40 = 1 := by kernel_rfl
theorem ncells3 : Try.prog.cellsOf 3 = 1 := by kernel_rfl
theorem ncells4 : Try.prog.cellsOf 4 = 1 := by kernel_rfl
theorem ncells49 : Try.prog.cellsOf 65 = 1 := by kernel_rfl
theorem ncells51 : Try.prog.cellsOf 42 = 5 := by kernel_rfl

section
variable {H : Type} {enc : TypeId × Value → H} {W : World} {base : Nat} {v : Value} {d : DataW H} {p : List MemPlace}

theorem open_words (hv : Value.okWide Try.prog W .any base 24 v) (h : DataW.Trod enc Try.prog W 0 (fun _ => true) true 24 v d p) :
    ∃ (ao : Option Addr) (n cap : Nat) (f : Nat → Int), v = .slice ao n cap ∧ (ao = none → n = 0 ∧ cap = 0) ∧ n ≤ maxLen ∧ Sees W W.heap.size ao n f ∧ (∀ i, i < n → 0 ≤ f i ∧ f i ≤ 18446744073709551615) := by
  obtain ⟨fuel, hf⟩ := h
  have lt8 : ∀ x ∈ p, x.block < W.heap.size := DataW.trod_lt fuel _ _ _ hf
  obtain ⟨ao, n, cap, rfl⟩ := okWide_slice Try.underlying24 hv
  rcases open_ints Try.underlying24 Try.underlying40 ncells46 hf with ⟨hcs, hx⟩ | ⟨a, len, cap', zs, hcs, _, hlc, hm, hz, hx, hcell, hwz⟩
  · simp [Value.cells] at hcs
    obtain ⟨rfl, rfl, rfl⟩ := hcs
    exact ⟨none, 0, 0, fun _ => 0, rfl, fun _ => ⟨rfl, rfl⟩, Nat.zero_le _, fun j hj => absurd hj (Nat.not_lt_zero _), fun i hi => absurd hi (Nat.not_lt_zero _)⟩
  · simp [Value.cells] at hcs hz
    obtain ⟨rfl, rfl, rfl⟩ := hcs
    obtain ⟨rfl, rfl⟩ := Prod.mk.inj hx
    refine ⟨some a, n, cap, fun i => zs.getD i 0, rfl, (fun h => by cases h), by omega, fun j hj => ?_, fun i hi => ?_⟩
    · obtain ⟨b, off, rfl, hc⟩ := ints_at hcell (by omega)
      refine ⟨b, off, rfl, ?_, hc j (by omega)⟩
      have := lt8 (MemPlace.cell b off) (by simp only [MemPlace.row]; exact List.mem_map.2 ⟨0, List.mem_range.2 (by omega), rfl⟩)
      exact this
    · have hi' : i < zs.length := by omega
      have hmem : zs.getD i 0 ∈ zs := by simp [List.getD, hi']
      exact bounds_u64 (hwz _ hmem)

theorem open_nums (hv : Value.okWide Try.prog W .any base 26 v) (h : DataW.Trod enc Try.prog W 0 (fun _ => true) true 26 v d p) :
    ∃ (ao : Option Addr) (n cap : Nat) (s : Nat → Int), v = .slice ao n cap ∧ (ao = none → n = 0 ∧ cap = 0) ∧ n ≤ maxLen ∧ SeesI W W.heap.size ao n s := by
  obtain ⟨fuel, hf⟩ := h
  have lt8 : ∀ x ∈ p, x.block < W.heap.size := DataW.trod_lt fuel _ _ _ hf
  obtain ⟨ao, n, cap, rfl⟩ := okWide_slice Try.underlying26 hv
  rcases open_ints Try.underlying26 Try.underlying3 ncells3 hf with ⟨hcs, hx⟩ | ⟨a, len, cap', zs, hcs, _, hlc, hm, hz, hx, hcell, hwz⟩
  · simp [Value.cells] at hcs
    obtain ⟨rfl, rfl, rfl⟩ := hcs
    exact ⟨none, 0, 0, fun _ => 0, rfl, fun _ => ⟨rfl, rfl⟩, Nat.zero_le _, fun j hj => absurd hj (Nat.not_lt_zero _)⟩
  · simp [Value.cells] at hcs hz
    obtain ⟨rfl, rfl, rfl⟩ := hcs
    obtain ⟨rfl, rfl⟩ := Prod.mk.inj hx
    refine ⟨some a, n, cap, fun i => zs.getD i 0, rfl, (fun h => by cases h), by omega, fun j hj => ?_⟩
    obtain ⟨b, off, rfl, hc⟩ := ints_at hcell (by omega)
    refine ⟨b, off, rfl, ?_, hc j (by omega)⟩
    have := lt8 (MemPlace.cell b off) (by simp only [MemPlace.row]; exact List.mem_map.2 ⟨0, List.mem_range.2 (by omega), rfl⟩)
    exact this

theorem list1 {α : Type} {l : List α} (h : l.length = 1) : ∃ a, l = [a] := by
  match l, h with
  | [a], _ => exact ⟨a, rfl⟩
theorem list5 {α : Type} {l : List α} (h : l.length = 5) : ∃ a b c d e, l = [a, b, c, d, e] := by
  match l, h with
  | [a, b, c, d, e], _ => exact ⟨a, b, c, d, e, rfl⟩

theorem open_bools (hv : Value.okWide Try.prog W .any base 86 v) (h : DataW.Trod enc Try.prog W 0 (fun _ => true) true 86 v d p) :
    ∃ (ao : Option Addr) (n cap : Nat) (g : Nat → Bool), v = .slice ao n cap ∧ n ≤ maxLen ∧ SeesB W W.heap.size ao n g ∧ (n = 0 ∨ ∃ elems spare, d = .slice elems spare ∧ n ≤ elems.length) := by
  obtain ⟨fuel, hf⟩ := h
  have lt8 : ∀ x ∈ p, x.block < W.heap.size := DataW.trod_lt fuel _ _ _ hf
  obtain ⟨ao, n, cap, rfl⟩ := okWide_slice Try.underlying86 hv
  rcases open_slice Try.underlying86 hf with ⟨hcs, hx⟩ | ⟨a, len, cap', m, fu, D, Pl, hcs, _, hlc, hm, hmm, hx, hel⟩
  · simp [Value.cells] at hcs
    obtain ⟨rfl, rfl, rfl⟩ := hcs
    exact ⟨none, 0, 0, fun _ => false, rfl, Nat.zero_le _, fun j hj => absurd hj (Nat.not_lt_zero _), Or.inl rfl⟩
  · simp [Value.cells] at hcs hmm
    obtain ⟨rfl, rfl, rfl⟩ := hcs
    obtain ⟨rfl, rfl⟩ := Prod.mk.inj hx
    rw [ncells4] at hel lt8
    have each : ∀ i, i < m → ∃ s : Bool, W.cell? (a.add i) = some (.bool s) := by
      intro i hi
      obtain ⟨cs', h1, h2⟩ := hel i hi
      obtain ⟨_, hlen, hcell⟩ := World.cells?_some h1
      obtain ⟨c, rfl⟩ := list1 hlen
      obtain ⟨s, e5, _⟩ := DataW.trod_bool Try.underlying4 h2
      simp at e5
      subst e5
      have e := hcell 0 (by simp)
      rw [add_add] at e
      exact ⟨s, by simpa using e⟩
    obtain ⟨q, hq⟩ := choose_lt each
    refine ⟨some a, n, cap, q, rfl, by omega, fun j hj => ?_, Or.inr ⟨_, _, rfl, by simp⟩⟩
    obtain ⟨b, off, spot⟩ := a
    have c0 := hq 0 (by omega)
    have hspot : spot = none := by simpa [Addr.add] using World.cell?_spot c0
    subst hspot
    refine ⟨b, off, rfl, ?_, ?_⟩
    · have := lt8 (MemPlace.cell b off) (List.mem_append_left _ (by simp only [MemPlace.row]; exact List.mem_map.2 ⟨0, List.mem_range.2 (by omega), rfl⟩))
      exact this
    · have e := hq j (by omega)
      rw [Go.WideShapes.add_plain] at e
      exact e

set_option maxRecDepth 4000 in
/-- One job, from its five cells. -/
theorem open_job {n : Nat} {cs : List Value} {x : DataW H × List MemPlace} (hl : cs.length = 5) (h : DataW.trod enc Try.prog W 0 (fun _ => true) true n 42 cs = some x) :
    ∃ j : Jb, (∀ q, q < 5 → cs[q]? = some (j.cell q)) ∧ j.wf := by
  obtain ⟨c0, c1, c2, c3, c4, rfl⟩ := list5 hl
  obtain ⟨xs, m, _, hx, _, hl, hel⟩ := DataW.trod_struct Try.underlying42 h
  obtain ⟨y0, y1, y2, y3, y4, rfl⟩ := list5 hl
  have q0 := hel 0 _ rfl
  have q1 := hel 1 _ rfl
  have q2 := hel 2 _ rfl
  have q3 := hel 3 _ rfl
  have q4 := hel 4 _ rfl
  simp [ncells3, ncells46, Value.cells] at q0 q1 q2 q3 q4
  obtain ⟨h0, e0, _, b0⟩ := DataW.trod_int Try.underlying3 q0
  obtain ⟨h1, e1, _, b1⟩ := DataW.trod_int Try.underlying3 q1
  obtain ⟨h2, e2, _, b2⟩ := DataW.trod_int Try.underlying3 q2
  obtain ⟨h3, e3, _, b3⟩ := DataW.trod_int Try.underlying3 q3
  obtain ⟨h4, e4, _, b4⟩ := DataW.trod_int Try.underlying40 q4
  simp at e0 e1 e2 e3 e4
  subst e0 e1 e2 e3 e4
  refine ⟨⟨h0, h1, h2, h3, h4⟩, fun q hq => ?_, bounds_u64 b4⟩
  match q, hq with
  | 0, _ | 1, _ | 2, _ | 3, _ | 4, _ => rfl

instance : Inhabited Jb := ⟨⟨0, 0, 0, 0, 0⟩⟩

/-- One hand's jobs. -/
theorem open_jobs {fuel : Nat} {cs : List Value} {x : DataW H × List MemPlace} (hl : cs.length = 1) (hf : DataW.trod enc Try.prog W 0 (fun _ => true) true fuel 65 cs = some x) :
    ∃ ao n cap, cs = [.slice ao n cap] ∧ ∃ j : Nat → Jb, SeesJ W W.heap.size ao n j ∧ ∀ i, i < n → (j i).wf := by
  have lt8 := DataW.trod_lt fuel _ _ _ hf
  rcases open_slice Try.underlying65 hf with ⟨hcs, hx⟩ | ⟨a, len, cap', m, fu, D, Pl, hcs, _, hlc, hm, hmm, hx, hel⟩
  · exact ⟨none, 0, 0, hcs, fun _ => default, fun j hj => absurd hj (Nat.not_lt_zero _), fun i hi => absurd hi (Nat.not_lt_zero _)⟩
  · subst hx
    simp only [ncells51] at hel lt8
    have each : ∀ i, i < m → ∃ s : Jb, (∀ j, j < 5 → W.cell? (a.add (i * 5 + j)) = some (s.cell j)) ∧ s.wf := by
      intro i hi
      obtain ⟨cs', h1, h2⟩ := hel i hi
      obtain ⟨_, hlen, hcell⟩ := World.cells?_some h1
      obtain ⟨s, hs, hwf⟩ := open_job hlen h2
      refine ⟨s, fun j hj => ?_, hwf⟩
      have e := hcell j (by omega)
      rw [add_add] at e
      rw [e]
      exact hs j hj
    obtain ⟨q, hq⟩ := choose_lt each
    simp only [Bool.true_or, if_true] at hmm
    refine ⟨some a, len, cap', hcs, q, fun j hj => ?_, fun i hi => (hq i (by omega)).2⟩
    have hjm : j < m := by omega
    obtain ⟨b, off, spot⟩ := a
    have c0 := (hq 0 (by omega)).1 0 (by omega)
    have hspot : spot = none := by simpa [Addr.add] using World.cell?_spot c0
    subst hspot
    refine ⟨b, off, rfl, ?_, fun i hi => ?_⟩
    · have := lt8 (MemPlace.cell b off) (List.mem_append_left _ (by simp only [MemPlace.row]; exact List.mem_map.2 ⟨0, List.mem_range.2 (by omega), rfl⟩))
      exact this
    · have e := (hq j hjm).1 i hi
      rw [Go.WideShapes.add_plain] at e
      rw [Nat.add_assoc]
      exact e

theorem open_hands (hv : Value.okWide Try.prog W .any base 25 v) (h : DataW.Trod enc Try.prog W 0 (fun _ => true) true 25 v d p) :
    ∃ (ao : Option Addr) (n cap : Nat) (jn : Nat → Nat) (jb : Nat → Nat → Jb), v = .slice ao n cap ∧ (ao = none → n = 0 ∧ cap = 0) ∧ n ≤ maxLen ∧ SeesH W W.heap.size ao n jn jb ∧ ∀ h, h < n → ∀ j, j < jn h → (jb h j).wf := by
  obtain ⟨fuel, hf⟩ := h
  have lt8 : ∀ x ∈ p, x.block < W.heap.size := DataW.trod_lt fuel _ _ _ hf
  obtain ⟨ao, n, cap, rfl⟩ := okWide_slice Try.underlying25 hv
  rcases open_slice Try.underlying25 hf with ⟨hcs, hx⟩ | ⟨a, len, cap', m, fu, D, Pl, hcs, _, hlc, hm, hmm, hx, hel⟩
  · simp [Value.cells] at hcs
    obtain ⟨rfl, rfl, rfl⟩ := hcs
    exact ⟨none, 0, 0, fun _ => 0, fun _ _ => default, rfl, fun _ => ⟨rfl, rfl⟩, Nat.zero_le _, fun j hj => absurd hj (Nat.not_lt_zero _), fun j hj => absurd hj (Nat.not_lt_zero _)⟩
  · simp [Value.cells] at hcs hmm
    obtain ⟨rfl, rfl, rfl⟩ := hcs
    obtain ⟨rfl, rfl⟩ := Prod.mk.inj hx
    rw [ncells49] at hel lt8
    have each : ∀ i, i < m → ∃ y : Nat × (Nat → Jb), (∃ ao' c', W.cell? (a.add i) = some (.slice ao' y.1 c') ∧ SeesJ W W.heap.size ao' y.1 y.2) ∧ ∀ k, k < y.1 → (y.2 k).wf := by
      intro i hi
      obtain ⟨cs', h1, h2⟩ := hel i hi
      obtain ⟨_, hlen, hcell⟩ := World.cells?_some h1
      obtain ⟨ao', n', c', rfl, j, hj, hw⟩ := open_jobs hlen h2
      have e := hcell 0 (by simp)
      rw [add_add] at e
      exact ⟨(n', j), ⟨ao', c', by simpa using e, hj⟩, hw⟩
    obtain ⟨q, hq⟩ := choose_lt each
    refine ⟨some a, n, cap, fun i => (q i).1, fun i => (q i).2, rfl, (fun h => by cases h), by omega, fun j hj => ?_, fun i hi => (hq i (by omega)).2⟩
    obtain ⟨⟨ao0, c0', e0, _⟩, _⟩ := hq 0 (by omega)
    obtain ⟨⟨ao', c', e, hs⟩, _⟩ := hq j (by omega)
    obtain ⟨b, off, spot⟩ := a
    have hspot : spot = none := by simpa [Addr.add] using World.cell?_spot e0
    subst hspot
    refine ⟨b, off, ao', c', rfl, ?_, ?_, hs⟩
    · have := lt8 (MemPlace.cell b off) (List.mem_append_left _ (by simp only [MemPlace.row]; exact List.mem_map.2 ⟨0, List.mem_range.2 (by omega), rfl⟩))
      exact this
    · rw [Go.WideShapes.add_plain] at e
      exact e
end
end Go.Proofs.Ytgfbohmehhhbeaa

/-
  A Run that came in, opened: its shape, words, hands, schedule and bound.
-/
namespace Go.Proofs.Ytgfbohmehhhbeaa
open Go.ChangeShapes Go.WideShapes Go.ChangeAt Go.RowKit Go.Deep
set_option linter.unusedVariables false
set_option linter.unusedSimpArgs false
set_option maxRecDepth 100000

section
variable {H : Type} {enc : TypeId × Value → H} {W : World} {base : Nat} {v : Value} {d : DataW H} {p : List MemPlace} {fuel : Nat} {cs : List Value} {x : DataW H × List MemPlace}

theorem words_t (hf : DataW.trod enc Try.prog W 0 (fun _ => true) true fuel 24 cs = some x) :
    ∃ (ao : Option Addr) (n cap : Nat) (f : Nat → Int), cs = [.slice ao n cap] ∧ (ao = none → n = 0 ∧ cap = 0) ∧ n ≤ maxLen ∧ Sees W W.heap.size ao n f ∧ (∀ i, i < n → 0 ≤ f i ∧ f i ≤ 18446744073709551615) := by
  have lt8 := DataW.trod_lt fuel _ _ _ hf
  rcases open_ints Try.underlying24 Try.underlying40 ncells46 hf with ⟨hcs, hx⟩ | ⟨a, n, cap, zs, hcs, _, hlc, hm, hz, hx, hcell, hwz⟩
  · exact ⟨none, 0, 0, fun _ => 0, hcs, fun _ => ⟨rfl, rfl⟩, Nat.zero_le _, fun j hj => absurd hj (Nat.not_lt_zero _), fun i hi => absurd hi (Nat.not_lt_zero _)⟩
  · simp at hz
    subst hx
    refine ⟨some a, n, cap, fun i => zs.getD i 0, hcs, (fun h => by cases h), by omega, fun j hj => ?_, fun i hi => ?_⟩
    · obtain ⟨b, off, rfl, hc⟩ := ints_at hcell (by omega)
      refine ⟨b, off, rfl, ?_, hc j (by omega)⟩
      have := lt8 (MemPlace.cell b off) (by simp only [MemPlace.row]; exact List.mem_map.2 ⟨0, List.mem_range.2 (by omega), rfl⟩)
      exact this
    · have hi' : i < zs.length := by omega
      have hmem : zs.getD i 0 ∈ zs := by simp [List.getD, hi']
      exact bounds_u64 (hwz _ hmem)

theorem nums_t (hf : DataW.trod enc Try.prog W 0 (fun _ => true) true fuel 26 cs = some x) :
    ∃ (ao : Option Addr) (n cap : Nat) (s : Nat → Int), cs = [.slice ao n cap] ∧ n ≤ maxLen ∧ SeesI W W.heap.size ao n s := by
  have lt8 := DataW.trod_lt fuel _ _ _ hf
  rcases open_ints Try.underlying26 Try.underlying3 ncells3 hf with ⟨hcs, hx⟩ | ⟨a, n, cap, zs, hcs, _, hlc, hm, hz, hx, hcell, hwz⟩
  · exact ⟨none, 0, 0, fun _ => 0, hcs, Nat.zero_le _, fun j hj => absurd hj (Nat.not_lt_zero _)⟩
  · simp at hz
    subst hx
    refine ⟨some a, n, cap, fun i => zs.getD i 0, hcs, by omega, fun j hj => ?_⟩
    obtain ⟨b, off, rfl, hc⟩ := ints_at hcell (by omega)
    refine ⟨b, off, rfl, ?_, hc j (by omega)⟩
    have := lt8 (MemPlace.cell b off) (by simp only [MemPlace.row]; exact List.mem_map.2 ⟨0, List.mem_range.2 (by omega), rfl⟩)
    exact this

theorem hands_t (hf : DataW.trod enc Try.prog W 0 (fun _ => true) true fuel 25 cs = some x) :
    ∃ (ao : Option Addr) (n cap : Nat) (jn : Nat → Nat) (jb : Nat → Nat → Jb), cs = [.slice ao n cap] ∧ n ≤ maxLen ∧ SeesH W W.heap.size ao n jn jb ∧ ∀ h, h < n → ∀ j, j < jn h → (jb h j).wf := by
  have lt8 := DataW.trod_lt fuel _ _ _ hf
  rcases open_slice Try.underlying25 hf with ⟨hcs, hx⟩ | ⟨a, n, cap, m, fu, D, Pl, hcs, _, hlc, hm, hmm, hx, hel⟩
  · exact ⟨none, 0, 0, fun _ => 0, fun _ _ => default, hcs, Nat.zero_le _, fun j hj => absurd hj (Nat.not_lt_zero _), fun j hj => absurd hj (Nat.not_lt_zero _)⟩
  · simp at hmm
    subst hx
    rw [ncells49] at hel lt8
    have each : ∀ i, i < m → ∃ y : Nat × (Nat → Jb), (∃ ao' c', W.cell? (a.add i) = some (.slice ao' y.1 c') ∧ SeesJ W W.heap.size ao' y.1 y.2) ∧ ∀ k, k < y.1 → (y.2 k).wf := by
      intro i hi
      obtain ⟨cs', h1, h2⟩ := hel i hi
      obtain ⟨_, hlen, hcell⟩ := World.cells?_some h1
      obtain ⟨ao', n', c', rfl, j, hj, hw⟩ := open_jobs hlen h2
      have e := hcell 0 (by simp)
      rw [add_add] at e
      exact ⟨(n', j), ⟨ao', c', by simpa using e, hj⟩, hw⟩
    obtain ⟨q, hq⟩ := choose_lt each
    refine ⟨some a, n, cap, fun i => (q i).1, fun i => (q i).2, hcs, by omega, fun j hj => ?_, fun i hi => (hq i (by omega)).2⟩
    obtain ⟨⟨ao0, c0', e0, _⟩, _⟩ := hq 0 (by omega)
    obtain ⟨⟨ao', c', e, hs⟩, _⟩ := hq j (by omega)
    obtain ⟨b, off, spot⟩ := a
    have hspot : spot = none := by simpa [Addr.add] using World.cell?_spot e0
    subst hspot
    refine ⟨b, off, ao', c', rfl, ?_, ?_, hs⟩
    · have := lt8 (MemPlace.cell b off) (List.mem_append_left _ (by simp only [MemPlace.row]; exact List.mem_map.2 ⟨0, List.mem_range.2 (by omega), rfl⟩))
      exact this
    · rw [Go.WideShapes.add_plain] at e
      exact e

theorem list6 {α : Type} {l : List α} (h : l.length = 6) : ∃ a b c d e f, l = [a, b, c, d, e, f] := by
  match l, h with
  | [a, b, c, d, e, f], _ => exact ⟨a, b, c, d, e, f, rfl⟩
theorem list10 {α : Type} {l : List α} (h : l.length = 10) : ∃ a b c d e f g i j k, l = [a, b, c, d, e, f, g, i, j, k] := by
  match l, h with
  | [a, b, c, d, e, f, g, i, j, k], _ => exact ⟨a, b, c, d, e, f, g, i, j, k, rfl⟩
theorem list5' {α : Type} {l : List α} (h : l.length = 5) : ∃ a b c d e, l = [a, b, c, d, e] := by
  match l, h with
  | [a, b, c, d, e], _ => exact ⟨a, b, c, d, e, rfl⟩

theorem ncellsSh : Try.prog.cellsOf 23 = 6 := by kernel_rfl
theorem ncellsW : Try.prog.cellsOf 24 = 1 := by kernel_rfl
theorem ncellsH : Try.prog.cellsOf 25 = 1 := by kernel_rfl
theorem ncellsI : Try.prog.cellsOf 26 = 1 := by kernel_rfl

set_option maxRecDepth 4000 in
theorem shape_t (hl : cs.length = 6) (hf : DataW.trod enc Try.prog W 0 (fun _ => true) true fuel 23 cs = some x) :
    ∃ sh : Shp, cs = [.int .i64 sh.a, .int .i64 sh.b, .int .i64 sh.c, .int .i64 sh.d, .int .i64 sh.e, .int .i64 sh.f] := by
  obtain ⟨c0, c1, c2, c3, c4, c5, rfl⟩ := list6 hl
  obtain ⟨xs, m, _, hx, _, hl, hel⟩ := DataW.trod_struct Try.underlying23 hf
  obtain ⟨y0, y1, y2, y3, y4, y5, rfl⟩ := list6 hl
  have q0 := hel 0 _ rfl
  have q1 := hel 1 _ rfl
  have q2 := hel 2 _ rfl
  have q3 := hel 3 _ rfl
  have q4 := hel 4 _ rfl
  have q5 := hel 5 _ rfl
  simp [ncells3, Value.cells] at q0 q1 q2 q3 q4 q5
  obtain ⟨h0, e0, _, _⟩ := DataW.trod_int Try.underlying3 q0
  obtain ⟨h1, e1, _, _⟩ := DataW.trod_int Try.underlying3 q1
  obtain ⟨h2, e2, _, _⟩ := DataW.trod_int Try.underlying3 q2
  obtain ⟨h3, e3, _, _⟩ := DataW.trod_int Try.underlying3 q3
  obtain ⟨h4, e4, _, _⟩ := DataW.trod_int Try.underlying3 q4
  obtain ⟨h5, e5, _, _⟩ := DataW.trod_int Try.underlying3 q5
  simp at e0 e1 e2 e3 e4 e5
  subst e0 e1 e2 e3 e4 e5
  exact ⟨⟨h0, h1, h2, h3, h4, h5⟩, rfl⟩
end
end Go.Proofs.Ytgfbohmehhhbeaa
