/-
  Lemmas: L8Play, KOV, KOwn, KView3, DealW3, KView.
-/
import Derived.Test.YtbjlpmahomjgjaaTr25
import Derived.Test.YtbjlpmahomjgjaaTp20
import Derived.Test.YtbjlpmahomjgjaaTr13
import Derived.Test.YtbjlpmahomjgjaaTr24
set_option linter.unusedVariables false
set_option linter.unusedSimpArgs false
set_option linter.unnecessarySimpa false
set_option maxRecDepth 20000
namespace Go.Proofs.Ytbjlpmahomjgjaa
namespace L8
open Go.RowKit

variable {K : Kd} {rep : List Value → K.σ → Prop} {sh : Shp} {want : Nat} {w : World} {ao aoh aos : Option Addr} {cap caph caps : Nat} {P : Par} {f : Nat → Int} {most : Int}

set_option maxHeartbeats 4000000 in
theorem rplay_shape {er : Int} (her : ¬ er = 0) (hS : ∀ w : World, Calls Try.prog 42 #[sh.val] w fun e w' => e = .returned (.tuple #[.int .i64 0, .int .i64 er]) ∧ w.grownBy w' none) :
    Calls Try.prog 21 #[sh.val, .slice ao P.n cap, .slice aoh P.nh caph, .slice aos P.ns caps, .int .i64 most] w fun e w' => e = .returned (errVal er) ∧ Below w.heap.size w w' := by
  obtain ⟨s0, s1, s2, s3, s4, s5⟩ := sh
  simp only [Shp.val] at hS ⊢
  have HS := hide hS
  clear hS
  unfold errVal
  go_enter Try.func21, Try.ntmps21
  go_wp2_with fail
  refine (HS.out _).mono ?_
  rintro e w1 ⟨rfl, hg⟩
  have HB := hide ((((Below.refl w.heap.size w).alloc (Nat.le_refl _) (.cells #[.int .i64 s0, .int .i64 s1, .int .i64 s2, .int .i64 s3, .int .i64 s4, .int .i64 s5] 23)).alloc (by simp) (.cells #[.slice none 0 0, .slice none 0 0, .bool false] 30)).trans (below_of_grown_none hg w.heap.size (by simp; omega)))
  have hb := below_of_grown_none hg (w.heap.size + 2) (by simp)
  have z0 := hb.cell (p := ⟨w.heap.size + 1, 0, none⟩) (by simp)
  have z1 := hb.cell (p := ⟨w.heap.size + 1, 1, none⟩) (by simp)
  have z2 := hb.cell (p := ⟨w.heap.size + 1, 2, none⟩) (by simp)
  have y0 := hb.frozen (p := ⟨w.heap.size + 1, 0, none⟩) (by simp)
  have y1 := hb.frozen (p := ⟨w.heap.size + 1, 1, none⟩) (by simp)
  have y2 := hb.frozen (p := ⟨w.heap.size + 1, 2, none⟩) (by simp)
  simp at z0 z1 z2 y0 y1 y2
  clear hb hg
  go_wp2_with fail
  go_light
  refine bodyPost_ret (v := errVal er) ?_ rfl ⟨rfl, ((HB.out.setCell (by simp) _).setCell (by simp) _).setCell (by simp) _⟩
  simp [results, Try.results21, go_sem, errVal, *]

set_option maxHeartbeats 8000000 in
theorem rplay_all (hw4 : want ≤ 4096) (hS : ∀ w : World, Calls Try.prog 42 #[sh.val] w fun e w' => e = .returned (.tuple #[.int .i64 want, .int .i64 0]) ∧ w.grownBy w' none) (RK : RKind K rep sh 67 68)
    (S : Sees w w.heap.size ao P.n f) (hnil : ao = none → P.n = 0 ∧ cap = 0) (hf : ∀ i, i < P.n → 0 ≤ f i ∧ f i ≤ 18446744073709551615) (SH : SeesH w w.heap.size aoh P.nh P.jn P.jb) (hn63 : P.nh ≤ 9223372036854775807) (SI : SeesI w w.heap.size aos P.ns P.sched) (hjw : ∀ h, h < P.nh → ∀ j, j < P.jn h → (P.jb h j).wf) :
    Calls Try.prog 21 #[sh.val, .slice ao P.n cap, .slice aoh P.nh caph, .slice aos P.ns caps, .int .i64 most] w (RLAll K rep want w P f most) := by
  have RA := fun (w2 : World) (hn : P.n ≤ 4096) (B2 : Below w.heap.size w w2) => ran_all (w := w2) (ao := ao) (aoh := aoh) (aos := aos) (cap := cap) (caph := caph) (caps := caps) (most := most) RK ((S.below B2 (Nat.le_refl _)).mono B2.size) hnil hn hf ((SH.below B2 (Nat.le_refl _)).up B2.size) hn63 ((SI.below B2 (Nat.le_refl _)).up B2.size) hjw
  obtain ⟨s0, s1, s2, s3, s4, s5⟩ := sh
  simp only [Shp.val] at hS RA ⊢
  have HS := hide hS
  have HRA := hide RA
  clear hS RA RK S hnil hf SH SI hjw
  go_enter Try.func21, Try.ntmps21
  go_wp2_with fail
  refine (HS.out _).mono ?_
  rintro e w1 ⟨rfl, hg⟩
  have HB := hide ((((Below.refl w.heap.size w).alloc (Nat.le_refl _) (.cells #[.int .i64 s0, .int .i64 s1, .int .i64 s2, .int .i64 s3, .int .i64 s4, .int .i64 s5] 23)).alloc (by simp) (.cells #[.slice none 0 0, .slice none 0 0, .bool false] 30)).trans (below_of_grown_none hg w.heap.size (by simp; omega)))
  have hb := below_of_grown_none hg (w.heap.size + 2) (by simp)
  have sz1 := hg.size
  simp only [World.size_alloc] at sz1
  have c0 := hb.cell (p := ⟨w.heap.size, 0, none⟩) (by simp)
  have c1 := hb.cell (p := ⟨w.heap.size, 1, none⟩) (by simp)
  have c2 := hb.cell (p := ⟨w.heap.size, 2, none⟩) (by simp)
  have c3 := hb.cell (p := ⟨w.heap.size, 3, none⟩) (by simp)
  have c4 := hb.cell (p := ⟨w.heap.size, 4, none⟩) (by simp)
  have c5 := hb.cell (p := ⟨w.heap.size, 5, none⟩) (by simp)
  have z0 := hb.cell (p := ⟨w.heap.size + 1, 0, none⟩) (by simp)
  have z1 := hb.cell (p := ⟨w.heap.size + 1, 1, none⟩) (by simp)
  have z2 := hb.cell (p := ⟨w.heap.size + 1, 2, none⟩) (by simp)
  have y0 := hb.frozen (p := ⟨w.heap.size + 1, 0, none⟩) (by simp)
  have y1 := hb.frozen (p := ⟨w.heap.size + 1, 1, none⟩) (by simp)
  have y2 := hb.frozen (p := ⟨w.heap.size + 1, 2, none⟩) (by simp)
  simp at c0 c1 c2 c3 c4 c5 z0 z1 z2 y0 y1 y2
  clear hb hg
  by_cases hne : P.n = want
  · subst hne
    go_wp2_with fail
    refine (HRA.out w1 hw4 HB.out).mono ?_
    rintro e w3 ⟨hb3, hc3⟩
    have sz3 := hb3.size
    have LA : RLAll K rep P.n w1 P f most e w3 := ⟨hb3, by
      rcases hc3 with ⟨er, h1, h2⟩ | ⟨h1, h2, v, h3, h4⟩
      · exact .inl ⟨er, .inr ⟨rfl, h1⟩, h2⟩
      · exact .inr ⟨rfl, h1, h2, v, h3, rtold_touch h4 ((Touch.refl w3 (fun k => k = 0))) (by omega) (by omega)⟩⟩
    obtain ⟨sa, k, sc, wa, n, wc, en, aa, m, ac, er, rfl⟩ := LA.shape
    have u0 := (hb3.cell (p := ⟨w.heap.size + 1, 0, none⟩) (by show w.heap.size + 1 < _; omega)).trans z0
    have u1 := (hb3.cell (p := ⟨w.heap.size + 1, 1, none⟩) (by show w.heap.size + 1 < _; omega)).trans z1
    have u2 := (hb3.cell (p := ⟨w.heap.size + 1, 2, none⟩) (by show w.heap.size + 1 < _; omega)).trans z2
    have v0 := (hb3.frozen (p := ⟨w.heap.size + 1, 0, none⟩) (by show w.heap.size + 1 < _; omega)).trans y0
    have v1 := (hb3.frozen (p := ⟨w.heap.size + 1, 1, none⟩) (by show w.heap.size + 1 < _; omega)).trans y1
    have v2 := (hb3.frozen (p := ⟨w.heap.size + 1, 2, none⟩) (by show w.heap.size + 1 < _; omega)).trans y2
    have FIN := hide (LA.up HB.out (touch3 w3 (w.heap.size + 1) (.slice sa k sc) (.slice wa n wc) (.bool en)) (by omega) (by omega))
    clear hb3 hc3 LA c0 c1 c2 c3 c4 c5 z0 z1 z2 y0 y1 y2
    unfold tv3
    go_wp2_with fail
    go_light
    refine bodyPost_ret (v := tv3 sa k sc wa n wc en aa m ac er) ?_ rfl FIN.out
    simp [results, Try.results21, go_sem, tv3, *]
  · have hne' : ¬ (P.n : Int) = (want : Int) := by omega
    go_wp2_with fail
    go_light
    refine bodyPost_ret (v := errVal 121) ?_ rfl ⟨((HB.out.setCell (by simp) _).setCell (by simp) _).setCell (by simp) _, .inl ⟨121, .inl ⟨hne, rfl⟩, rfl⟩⟩
    simp [results, Try.results21, go_sem, errVal, *]
end L8
end Go.Proofs.Ytbjlpmahomjgjaa

namespace Go.Proofs.Ytbjlpmahomjgjaa
open Go.RowKit
namespace KV

/-- What was told lies in blocks of its own, from lo on, below hi. -/
structure OV (lo hi : Nat) (w : World) (k n m : Nat) (dn : Nat → Nat) (sa wa aa : Option Addr) : Prop where
  top : hi ≤ w.heap.size
  S : ∀ i, i < k → ∃ b off, sa = some ⟨b, off, none⟩ ∧ lo ≤ b ∧ b < hi ∧ w.there b (off + i * 6) 6 ∧ ∀ ad, aa = some ad → ad.block ≠ b
  W : ∀ i, i < n → ∃ b off, wa = some ⟨b, off, none⟩ ∧ lo ≤ b ∧ b < hi ∧ w.there b (off + i) 1 ∧ ∀ ad, aa = some ad → ad.block ≠ b
  A : ∀ h, h < m → ∃ b off av cap, aa = some ⟨b, off, none⟩ ∧ lo ≤ b ∧ b < hi ∧ w.cell? ⟨b, off + h, none⟩ = some (.slice av (dn h) cap) ∧ ∀ j, j < dn h → ∃ b' off', av = some ⟨b', off', none⟩ ∧ lo ≤ b' ∧ b' < hi ∧ b ≠ b' ∧ w.there b' (off' + j * 2) 2

theorem OV.write {lo hi : Nat} {w : World} {k n m : Nat} {dn : Nat → Nat} {sa wa aa : Option Addr} (h : OV lo hi w k n m dn sa wa aa) (x o : Nat) (vs : List Value) (hx : ∀ ad, aa = some ad → ad.block ≠ x) : OV lo hi (w.setCells x o vs) k n m dn sa wa aa := by
  have tt := touch_setCells x vs o w
  have ht := h.top
  refine ⟨Nat.le_trans h.top tt.size, fun i hi => ?_, fun i hi => ?_, fun q hq => ?_⟩
  · obtain ⟨b, off, e, h1, h2, h3, h4⟩ := h.S i hi
    exact ⟨b, off, e, h1, h2, World.there_setCells h3 _ _ _, h4⟩
  · obtain ⟨b, off, e, h1, h2, h3, h4⟩ := h.W i hi
    exact ⟨b, off, e, h1, h2, World.there_setCells h3 _ _ _, h4⟩
  · obtain ⟨b, off, av, cap, e, hlo, hb, hc, hr⟩ := h.A q hq
    refine ⟨b, off, av, cap, e, hlo, hb, (World.cell?_of_block (a := ⟨b, off + q, none⟩) (tt.block b (by omega) (hx _ e))).trans hc, fun j hj => ?_⟩
    obtain ⟨b', off', e', h1, h2, h3, h4⟩ := hr j hj
    exact ⟨b', off', e', h1, h2, h3, World.there_setCells h4 _ _ _⟩
theorem OV.below {lo hi : Nat} {w w' : World} {k n m : Nat} {dn : Nat → Nat} {sa wa aa : Option Addr} (h : OV lo hi w k n m dn sa wa aa) (hb : Below hi w w') : OV lo hi w' k n m dn sa wa aa := by
  have ht := h.top
  refine ⟨Nat.le_trans h.top hb.size, fun i hi => ?_, fun i hi => ?_, fun q hq => ?_⟩
  · obtain ⟨b, off, e, h1, h2, h3, h4⟩ := h.S i hi
    exact ⟨b, off, e, h1, h2, there_block h3 (hb.block b h2), h4⟩
  · obtain ⟨b, off, e, h1, h2, h3, h4⟩ := h.W i hi
    exact ⟨b, off, e, h1, h2, there_block h3 (hb.block b h2), h4⟩
  · obtain ⟨b, off, av, cap, e, hlo, hbb, hc, hr⟩ := h.A q hq
    refine ⟨b, off, av, cap, e, hlo, hbb, (World.cell?_of_block (a := ⟨b, off + q, none⟩) (hb.block b hbb)).trans hc, fun j hj => ?_⟩
    obtain ⟨b', off', e', h1, h2, h3, h4⟩ := hr j hj
    exact ⟨b', off', e', h1, h2, h3, there_block h4 (hb.block b' h2)⟩

theorem OV.keep {lo hi : Nat} {w w' : World} {k n m : Nat} {dn : Nat → Nat} {sa wa aa : Option Addr} (h : OV lo hi w k n m dn sa wa aa) {S : Nat → Prop} (ht : Touch w w' S) (hs : ∀ q, S q → q < lo) : OV lo hi w' k n m dn sa wa aa := by
  have htop := h.top
  have bk : ∀ q, lo ≤ q → q < hi → w'.heap[q]? = w.heap[q]? := fun q h1 h2 => ht.block q (by omega) (fun e => by have := hs q e; omega)
  refine ⟨Nat.le_trans h.top ht.size, fun i hi => ?_, fun i hi => ?_, fun q hq => ?_⟩
  · obtain ⟨b, off, e, h1, h2, h3, h4⟩ := h.S i hi
    exact ⟨b, off, e, h1, h2, there_block h3 (bk b h1 h2), h4⟩
  · obtain ⟨b, off, e, h1, h2, h3, h4⟩ := h.W i hi
    exact ⟨b, off, e, h1, h2, there_block h3 (bk b h1 h2), h4⟩
  · obtain ⟨b, off, av, cap, e, hlo, hbb, hc, hr⟩ := h.A q hq
    refine ⟨b, off, av, cap, e, hlo, hbb, (World.cell?_of_block (a := ⟨b, off + q, none⟩) (bk b hlo hbb)).trans hc, fun j hj => ?_⟩
    obtain ⟨b', off', e', h1, h2, h3, h4⟩ := hr j hj
    exact ⟨b', off', e', h1, h2, h3, there_block h4 (bk b' h1 h2)⟩

theorem OV.set {lo hi : Nat} {w : World} {k n m : Nat} {dn : Nat → Nat} {sa wa aa : Option Addr} (h : OV lo hi w k n m dn sa wa aa) (b o : Nat) (v : Value) (hx : ∀ ad, aa = some ad → ad.block ≠ b) : OV lo hi (w.setCell ⟨b, o, none⟩ v) k n m dn sa wa aa := h.write b o [v] hx
theorem there_set {w : World} {b o n : Nat} (h : w.there b o n) (x y : Nat) (v : Value) : (w.setCell ⟨x, y, none⟩ v).there b o n := World.there_setCells h x y [v]
theorem there_cell {w : World} {b o n : Nat} (h : w.there b o n) (j : Nat) (hj : j < n) : (∃ u, w.cell? ⟨b, o + j, none⟩ = some u) ∧ w.frozen? ⟨b, o + j, none⟩ = false :=
  ⟨Option.isSome_iff_exists.1 (h j hj).1, (h j hj).2⟩
theorem size50 : (Try.prog.info? 59).map (·.size) = some 2 := by kernel_rfl

end KV
end Go.Proofs.Ytbjlpmahomjgjaa

namespace Go.Proofs.Ytbjlpmahomjgjaa
open Go.RowKit
namespace KV

variable {K : Kd} {P : Par} {st : St K} {base : Nat} {v : Value} {w w' : World}

theorem told_keep {S : Nat → Prop} (h : Told K P st base v w) (ht : Touch w w' S) (hs : ∀ q, S q → q < base) : Told K P st base v w' := by
  obtain ⟨blk, c, g, sv, rfl, H, G, GS, R, hg, hne⟩ := h
  exact ⟨blk, c, g, sv, rfl, H.touch ht (fun r x e he => by have := H.new r x e; have := hs _ he; omega), G, GS, R.block (ht.block g R.lt (fun he => by have := hs _ he; omega)), hg, hne⟩

theorem told_ov (h : Told K P st base v w) : ∃ sa sc wa wc aa ac en, v = .tuple #[.agg #[.slice sa st.k sc, .slice wa P.n wc, .bool en], .slice aa P.nh ac, .int .i64 0] ∧ OV base w.heap.size w st.k P.n P.nh st.done sa wa aa := by
  obtain ⟨blk, c, g, sv, rfl, H, G, GS, R, hg, hne⟩ := h
  obtain ⟨A, eA, hA⟩ := G.answers
  obtain ⟨sa, sc, rfl⟩ := GS.isSlice'
  refine ⟨sa, sc, _, _, _, _, _, rfl, Nat.le_refl _, fun i hi => ?_, fun i hi => ?_, fun q hq => ?_⟩
  · rcases GS with ⟨h0, _, _⟩ | ⟨cap, F, e, hc, hk, hm, hp⟩
    · omega
    · cases e
      refine ⟨blk .steps, 0, rfl, H.new _ _ hc, H.lt hc, rowIs.there (H.row _ _ hc) ?_, fun ad e => ?_⟩
      · show 0 + i * 6 + 6 ≤ sc * 6
        omega
      · cases e
        exact H.ne eA hc (by decide)
  · obtain ⟨c1, c2, ⟨F, hrow, hF⟩, c4⟩ := R
    refine ⟨g, 0, rfl, hg, hrow.lt, rowIs.there hrow (by omega), fun ad e => ?_⟩
    cases e
    exact hne _ _ eA
  · have a := hA q hq
    rcases a with ⟨h0, ev, _⟩ | ⟨cap, F, ev, hc, hk, hm, hp⟩
    · refine ⟨blk .answers, 0, none, 0, rfl, H.new _ _ eA, H.lt eA, ?_, fun j hj => by omega⟩
      have := H.cell eA (i := q) hq
      simp only at this
      rw [Nat.zero_add, this, ev, h0]
    · refine ⟨blk .answers, 0, some ⟨blk (.arow q), 0, none⟩, cap, rfl, H.new _ _ eA, H.lt eA, ?_, fun j hj => ⟨blk (.arow q), 0, rfl, H.new _ _ hc, H.lt hc, H.ne eA hc (by intro h; cases h), rowIs.there (H.row _ _ hc) ?_⟩⟩
      · have := H.cell eA (i := q) hq
        simp only at this
        rw [Nat.zero_add, this, ev]
      · show 0 + j * 2 + 2 ≤ cap * 2
        omega
end KV
end Go.Proofs.Ytbjlpmahomjgjaa

namespace Go.Proofs.Ytbjlpmahomjgjaa
open Go.RowKit
namespace KV

structure Kp (V : Vw) (D : Nat → Value → World → Prop) : Prop where
  keep : ∀ {base : Nat} {v : Value} {w w' : World} {S : Nat → Prop}, D base v w → Touch w w' S → (∀ q, S q → q < base) → D base v w'
  sees : ∀ {base : Nat} {v : Value} {w : World}, D base v w → TV w V v
structure Kp3 (V : Vw) (D : Nat → Value → World → Prop) : Prop extends Kp V D where
  own : ∀ {base : Nat} {w : World} {sa wa aa : Option Addr} {sc wc ac : Nat} {en : Bool} {er : Int}, D base (.tuple #[.agg #[.slice sa V.k sc, .slice wa V.n wc, .bool en], .slice aa V.m ac, .int .i64 er]) w → OV base w.heap.size w V.k V.n V.m V.dn sa wa aa

variable {K : Kd} {P : Par} {st : St K} {base : Nat} {v : Value} {w w' : World}

theorem rtold_keep {rep : List Value → K.σ → Prop} {S : Nat → Prop} (h : RTold K rep P st base v w) (ht : Touch w w' S) (hs : ∀ q, S q → q < base) : RTold K rep P st base v w' := by
  obtain ⟨blk, c, un, capw, sv, rfl, H, G⟩ := h
  exact ⟨blk, c, un, capw, sv, rfl, H.touch ht (fun r x e he => by have := H.new r x e; have := hs _ he; omega), G⟩

def nilV (er : Int) : Vw := ⟨0, fun _ => ⟨0, 0, 0, 0, 0, false⟩, 0, fun _ => 0, false, 0, fun _ => 0, fun _ _ => ⟨false, 0⟩, er⟩
theorem nil_tv (w : World) (er : Int) : TV w (nilV er) (errVal er) := ⟨none, 0, none, 0, none, 0, rfl, fun j hj => absurd hj (Nat.not_lt_zero j), fun j hj => absurd hj (Nat.not_lt_zero j), fun j hj => absurd hj (Nat.not_lt_zero j)⟩
theorem nil_kp (er : Int) : Kp3 (nilV er) (fun _ v _ => v = errVal er) where
  keep := fun h _ _ => h
  sees := fun {_ _ w} h => by subst h; exact nil_tv w er
  own := fun {base w sa wa aa _ _ _ _ _} h => ⟨Nat.le_refl _, fun i hi => absurd hi (Nat.not_lt_zero i), fun i hi => absurd hi (Nat.not_lt_zero i), fun i hi => absurd hi (Nat.not_lt_zero i)⟩

theorem lviews3 (K : Kd) (rep : List Value → K.σ → Prop) (want : Nat) (P : Par) (f : Nat → Int) (most : Int) : ∃ (V : Vw) (D R : Nat → Value → World → Prop), V.k ≤ 65536 ∧ V.n ≤ 4096 ∧ V.m ≤ 8 ∧ (∀ h, h < V.m → V.dn h ≤ 256) ∧ Kp3 V D ∧ Kp V R ∧
    (∀ w e w', RLAll K rep want w P f most e w' → Below w.heap.size w w' ∧ ∃ v, e = .returned v ∧ R w.heap.size v w') ∧ (∀ w e w', LAll K want w P f most e w' → Below w.heap.size w w' ∧ ∃ v, e = .returned v ∧ D w.heap.size v w') := by
  by_cases hE : ∃ er, LErr K want P most er
  · obtain ⟨er, hE⟩ := hE
    refine ⟨nilV er, fun _ v _ => v = errVal er, fun _ v _ => v = errVal er, Nat.zero_le _, Nat.zero_le _, Nat.zero_le _, fun _ _ => Nat.zero_le _, nil_kp er, (nil_kp er).toKp, ?_, ?_⟩
    · rintro w e w' ⟨hb, ⟨er', h, rfl⟩ | ⟨h0, h1, h2, _⟩⟩
      · obtain rfl := h.one hE
        exact ⟨hb, _, rfl, rfl⟩
      · exact absurd ⟨h1, h2⟩ (hE.not h0)
    · rintro w e w' ⟨hb, ⟨er', h, rfl⟩ | ⟨h0, h1, h2, _⟩⟩
      · obtain rfl := h.one hE
        exact ⟨hb, _, rfl, rfl⟩
      · exact absurd ⟨h1, h2⟩ (hE.not h0)
  · by_cases hf : Fine P most ∧ AllOk K P ∧ ∀ h, h < P.nh → (runSt P (st0 K P f) most.toNat).done h ≤ 256
    · obtain ⟨hf, hall, hd⟩ := hf
      have hk : (runSt P (st0 K P f) most.toNat).k ≤ 65536 := by
        have := (runSt_k P (st0 K P f) rfl most.toNat).1
        have := hf.2.2.2
        omega
      have hnh : P.nh ≤ 8 := by rcases Nat.lt_or_ge 8 P.nh with l | l; exact absurd (.inl l) hf.2.1; exact l
      refine ⟨⟨(runSt P (st0 K P f) most.toNat).k, (runSt P (st0 K P f) most.toNat).s, P.n, (runSt P (st0 K P f) most.toNat).f, decide (cnt ((runSt P (st0 K P f) most.toNat).going P) P.nh = 0), P.nh, (runSt P (st0 K P f) most.toNat).done, (runSt P (st0 K P f) most.toNat).ans, 0⟩, fun base v w => Told K P (runSt P (st0 K P f) most.toNat) base v w, fun base v w => RTold K rep P (runSt P (st0 K P f) most.toNat) base v w, hk, hf.1, hnh, hd, ⟨⟨fun h ht hs => told_keep h ht hs, ?_⟩, ?_⟩, ⟨fun h ht hs => rtold_keep h ht hs, ?_⟩, ?_, ?_⟩
      · rintro base v w ⟨blk, c, g, sv, rfl, H, G, GS, R, hg, hne⟩
        obtain ⟨sa, sc, rfl⟩ := GS.isSlice'
        exact ⟨sa, sc, _, _, _, _, rfl, GS.seesS H, R.sees, seesA_of G.answers H⟩
      · intro base w sa wa aa sc wc ac en er h
        obtain ⟨_, _, _, _, _, _, _, ev, ov⟩ := told_ov h
        cases ev
        exact ov
      · rintro base v w ⟨blk, c, un, capw, sv, rfl, H, G⟩
        obtain ⟨sa, sc, rfl⟩ := G.steps.isSlice'
        exact ⟨sa, sc, _, _, _, _, rfl, G.steps.seesS H, G.seesW H, seesA_of G.answers H⟩
      · rintro w e w' ⟨hb, ⟨er', h, rfl⟩ | ⟨h0, h1, h2, v, rfl, hT⟩⟩
        · exact absurd ⟨_, h⟩ hE
        · exact ⟨hb, _, rfl, hT⟩
      · rintro w e w' ⟨hb, ⟨er', h, rfl⟩ | ⟨h0, h1, h2, v, rfl, hT⟩⟩
        · exact absurd ⟨_, h⟩ hE
        · exact ⟨hb, _, rfl, hT⟩
    · refine ⟨nilV 0, fun _ _ _ => False, fun _ _ _ => False, Nat.zero_le _, Nat.zero_le _, Nat.zero_le _, fun _ _ => Nat.zero_le _, ⟨⟨fun h => h.elim, fun h => h.elim⟩, fun h => h.elim⟩, ⟨fun h => h.elim, fun h => h.elim⟩, ?_, ?_⟩
      · rintro w e w' ⟨hb, ⟨er', h, rfl⟩ | ⟨h0, h1, h2, v, rfl, blk, c, un, capw, sv, rfl, H, G⟩⟩
        · exact absurd ⟨_, h⟩ hE
        · exact absurd ⟨h1, h2, fun h hh => Nat.le_trans (G.doneLe h hh) (G.jobs h hh)⟩ hf
      · rintro w e w' ⟨hb, ⟨er', h, rfl⟩ | ⟨h0, h1, h2, v, rfl, blk, c, g, sv, rfl, H, G, GS, R, hg, hne⟩⟩
        · exact absurd ⟨_, h⟩ hE
        · exact absurd ⟨h1, h2, fun h hh => Nat.le_trans (G.doneLe h hh) (G.jobs h hh)⟩ hf
end KV
end Go.Proofs.Ytbjlpmahomjgjaa

namespace Go.Proofs.Ytbjlpmahomjgjaa
open Go.RowKit
namespace Deal
open KV

/-- What both sides tell, whatever they are given. -/
theorem views3 (sh : Shp) (P : Par) (f : Nat → Int) (most : Int) (hn63 : P.nh ≤ 9223372036854775807) (hf : ∀ i, i < P.n → 0 ≤ f i ∧ f i ≤ 18446744073709551615) (hjw : ∀ h, h < P.nh → ∀ j, j < P.jn h → (P.jb h j).wf) :
    ∃ (V : Vw) (D R : Nat → Value → World → Prop), V.k ≤ 65536 ∧ V.n ≤ 4096 ∧ V.m ≤ 8 ∧ (∀ h, h < V.m → V.dn h ≤ 256) ∧ Kp3 V D ∧ Kp V R ∧
    (∀ (w : World) ao cap aoh caph aos caps, Sees w w.heap.size ao P.n f → (ao = none → P.n = 0 ∧ cap = 0) → SeesH w w.heap.size aoh P.nh P.jn P.jb → SeesI w w.heap.size aos P.ns P.sched →
      Calls Try.prog 21 #[sh.val, .slice ao P.n cap, .slice aoh P.nh caph, .slice aos P.ns caps, .int .i64 most] w fun e w' => Below w.heap.size w w' ∧ ∃ v, e = .returned v ∧ R w.heap.size v w') ∧
    (∀ (w : World) ao cap aoh caph aos caps, Sees w w.heap.size ao P.n f → SeesH w w.heap.size aoh P.nh P.jn P.jb → SeesI w w.heap.size aos P.ns P.sched →
      Calls Try.prog 20 #[sh.val, .slice ao P.n cap, .slice aoh P.nh caph, .slice aos P.ns caps, .int .i64 most] w fun e w' => Below w.heap.size w w' ∧ ∃ v, e = .returned v ∧ D w.heap.size v w') := by
  by_cases hr : sh.f < 1 ∨ 64 < sh.f
  · refine ⟨nilV 120, fun _ v _ => v = errVal 120, fun _ v _ => v = errVal 120, Nat.zero_le _, Nat.zero_le _, Nat.zero_le _, fun _ _ => Nat.zero_le _, nil_kp 120, (nil_kp 120).toKp, ?_, ?_⟩
    · intro w ao cap aoh caph aos caps _ _ _ _
      exact (L8.rplay_shape (by decide) (fun w' => rsize_bad w' sh hr)).mono fun e w' ⟨he, hb⟩ => ⟨hb, _, he, rfl⟩
    · intro w ao cap aoh caph aos caps _ _ _
      exact (play_shape hr).mono fun e w' ⟨he, hb⟩ => ⟨hb, _, he, rfl⟩
  · have h1 : 1 ≤ sh.f := by omega
    have h2 : sh.f ≤ 64 := by omega
    obtain ⟨want, hwant⟩ : ∃ want : Nat, (want : Int) = 2 + sh.f := ⟨(2 + sh.f).toNat, by omega⟩
    obtain ⟨V, D, R, v1, v2, v3, v4, v7, v8, v5, v6⟩ := lviews3 (kDeal sh.f) (repD sh) want P f most
    refine ⟨V, D, R, v1, v2, v3, v4, v7, v8, ?_, ?_⟩
    · intro w ao cap aoh caph aos caps S hnil SH SI
      exact (L8.rplay_all (by omega) (fun w' => by rw [hwant]; exact rsize_ok w' sh h1 h2) (rkind h1 h2) S hnil hf SH hn63 SI hjw).mono fun e w' h => v5 _ _ _ h
    · intro w ao cap aoh caph aos caps S SH SI
      exact (play_all h1 h2 hwant S hf SH hn63 SI hjw).mono fun e w' h => v6 _ _ _ h

end Deal
end Go.Proofs.Ytbjlpmahomjgjaa

namespace Go.Proofs.Ytbjlpmahomjgjaa
open Go.RowKit
namespace KV

/-- What is told is V, and it can be carried along and written over. -/
structure Owned (V : Vw) (D : Nat → Value → World → Prop) : Prop where
  keep : ∀ {base : Nat} {v : Value} {w w' : World} {S : Nat → Prop}, D base v w → Touch w w' S → (∀ q, S q → q < base) → D base v w'
  sees : ∀ {base : Nat} {v : Value} {w : World}, D base v w → TV w V v
  own : ∀ {base : Nat} {v : Value} {w : World}, D base v w → ∃ sa sc wa wc aa ac en, v = .tuple #[.agg #[.slice sa V.k sc, .slice wa V.n wc, .bool en], .slice aa V.m ac, .int .i64 0] ∧ OV base w.heap.size w V.k V.n V.m V.dn sa wa aa

theorem Owned.none (V : Vw) : Owned V (fun _ _ _ => False) := ⟨fun h => h.elim, fun h => h.elim, fun h => h.elim⟩

theorem lviews2 (K : Kd) (rep : List Value → K.σ → Prop) (want : Nat) (P : Par) (f : Nat → Int) (most : Int) : ∃ (V : Vw) (D : Nat → Value → World → Prop), V.k ≤ 65536 ∧ V.n ≤ 4096 ∧ V.m ≤ 8 ∧ (∀ h, h < V.m → V.dn h ≤ 256) ∧ (V.er ≠ 0 → V.m = 0) ∧ Owned V D ∧
    (∀ w e w', RLAll K rep want w P f most e w' → Below w.heap.size w w' ∧ ∃ v, e = .returned v ∧ TV w' V v) ∧ (∀ w e w', LAll K want w P f most e w' → Below w.heap.size w w' ∧ ∃ v, e = .returned v ∧ TV w' V v ∧ (V.er = 0 → D w.heap.size v w')) := by
  by_cases hE : ∃ er, LErr K want P most er
  · obtain ⟨er, hE⟩ := hE
    have hne : er ≠ 0 := by
      rcases hE with ⟨_, rfl⟩ | ⟨_, h⟩
      · decide
      · exact h.ne
    have tv : ∀ w, TV w ⟨0, fun _ => ⟨0, 0, 0, 0, 0, false⟩, 0, fun _ => 0, false, 0, fun _ => 0, fun _ _ => ⟨false, 0⟩, er⟩ (errVal er) := fun w => ⟨none, 0, none, 0, none, 0, rfl, fun j hj => absurd hj (Nat.not_lt_zero j), fun j hj => absurd hj (Nat.not_lt_zero j), fun j hj => absurd hj (Nat.not_lt_zero j)⟩
    refine ⟨⟨0, fun _ => ⟨0, 0, 0, 0, 0, false⟩, 0, fun _ => 0, false, 0, fun _ => 0, fun _ _ => ⟨false, 0⟩, er⟩, fun _ _ _ => False, Nat.zero_le _, Nat.zero_le _, Nat.zero_le _, fun _ _ => Nat.zero_le _, fun _ => rfl, Owned.none _, ?_, ?_⟩
    · rintro w e w' ⟨hb, ⟨er', h, rfl⟩ | ⟨h0, h1, h2, _⟩⟩
      · obtain rfl := h.one hE
        exact ⟨hb, _, rfl, tv w'⟩
      · exact absurd ⟨h1, h2⟩ (hE.not h0)
    · rintro w e w' ⟨hb, ⟨er', h, rfl⟩ | ⟨h0, h1, h2, _⟩⟩
      · obtain rfl := h.one hE
        exact ⟨hb, _, rfl, tv w', fun h => absurd h hne⟩
      · exact absurd ⟨h1, h2⟩ (hE.not h0)
  · by_cases hf : Fine P most ∧ AllOk K P ∧ ∀ h, h < P.nh → (runSt P (st0 K P f) most.toNat).done h ≤ 256
    · obtain ⟨hf, hall, hd⟩ := hf
      have hk : (runSt P (st0 K P f) most.toNat).k ≤ 65536 := by
        have := (runSt_k P (st0 K P f) rfl most.toNat).1
        have := hf.2.2.2
        omega
      have hnh : P.nh ≤ 8 := by rcases Nat.lt_or_ge 8 P.nh with l | l; exact absurd (.inl l) hf.2.1; exact l
      have sees : ∀ {base : Nat} {v : Value} {w : World}, Told K P (runSt P (st0 K P f) most.toNat) base v w → TV w ⟨(runSt P (st0 K P f) most.toNat).k, (runSt P (st0 K P f) most.toNat).s, P.n, (runSt P (st0 K P f) most.toNat).f, decide (cnt ((runSt P (st0 K P f) most.toNat).going P) P.nh = 0), P.nh, (runSt P (st0 K P f) most.toNat).done, (runSt P (st0 K P f) most.toNat).ans, 0⟩ v := by
        rintro base v w ⟨blk, c, g, sv, rfl, H, G, GS, R, hg, hne⟩
        obtain ⟨sa, sc, rfl⟩ := GS.isSlice'
        exact ⟨sa, sc, _, _, _, _, rfl, GS.seesS H, R.sees, seesA_of G.answers H⟩
      refine ⟨_, Told K P (runSt P (st0 K P f) most.toNat), hk, hf.1, hnh, hd, fun h => absurd rfl h, ⟨fun h ht hs => told_keep h ht hs, fun h => sees h, fun h => told_ov h⟩, ?_, ?_⟩
      · rintro w e w' ⟨hb, ⟨er', h, rfl⟩ | ⟨h0, h1, h2, v, rfl, blk, c, un, capw, sv, rfl, H, G⟩⟩
        · exact absurd ⟨_, h⟩ hE
        · obtain ⟨sa, sc, rfl⟩ := G.steps.isSlice'
          exact ⟨hb, _, rfl, sa, sc, _, _, _, _, rfl, G.steps.seesS H, G.seesW H, seesA_of G.answers H⟩
      · rintro w e w' ⟨hb, ⟨er', h, rfl⟩ | ⟨h0, h1, h2, v, rfl, hT⟩⟩
        · exact absurd ⟨_, h⟩ hE
        · exact ⟨hb, _, rfl, sees hT, fun _ => hT⟩
    · refine ⟨⟨0, fun _ => ⟨0, 0, 0, 0, 0, false⟩, 0, fun _ => 0, false, 0, fun _ => 0, fun _ _ => ⟨false, 0⟩, 0⟩, fun _ _ _ => False, Nat.zero_le _, Nat.zero_le _, Nat.zero_le _, fun _ _ => Nat.zero_le _, fun _ => rfl, Owned.none _, ?_, ?_⟩
      · rintro w e w' ⟨hb, ⟨er', h, rfl⟩ | ⟨h0, h1, h2, v, rfl, blk, c, un, capw, sv, rfl, H, G⟩⟩
        · exact absurd ⟨_, h⟩ hE
        · exact absurd ⟨h1, h2, fun h hh => Nat.le_trans (G.doneLe h hh) (G.jobs h hh)⟩ hf
      · rintro w e w' ⟨hb, ⟨er', h, rfl⟩ | ⟨h0, h1, h2, v, rfl, blk, c, g, sv, rfl, H, G, GS, R, hg, hne⟩⟩
        · exact absurd ⟨_, h⟩ hE
        · exact absurd ⟨h1, h2, fun h hh => Nat.le_trans (G.doneLe h hh) (G.jobs h hh)⟩ hf
end KV
end Go.Proofs.Ytbjlpmahomjgjaa
