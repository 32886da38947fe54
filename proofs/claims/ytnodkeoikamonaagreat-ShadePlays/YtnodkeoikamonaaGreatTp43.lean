/-
  Lemmas: L16Play, L16Spoilt, L16Own, L16View2, ShadeW2, L16Lent.
-/
import Derived.Test.YtnodkeoikamonaaGreatTp42
import Derived.Test.YtnodkeoikamonaaGreatTp20
import Derived.Test.YtnodkeoikamonaaGreatTp34
import Derived.Test.YtnodkeoikamonaaGreatTp41
import Derived.Test.YtnodkeoikamonaaGreatTp05
import Derived.Deep.CutRange
/-
  A layer's reference: Play.
-/
namespace Go.Proofs.YtnodkeoikamonaaGreat
namespace L16
open Go.RowKit
set_option linter.unusedVariables false
set_option linter.unusedSimpArgs false
set_option linter.unnecessarySimpa false
set_option maxRecDepth 20000
variable {K : Kd} {rep : List Value → K.σ → Prop} {sh : Shp} {want : Nat} {w : World} {ao aoh aos : Option Addr} {cap caph caps : Nat} {P : Par} {f : Nat → Int} {most : Int}
set_option maxHeartbeats 4000000 in
theorem rplay_shape {er : Int} (her : ¬ er = 0) (hS : ∀ w : World, Calls Tryz.prog 22 #[sh.val] w fun e w' => e = .returned (.tuple #[.int .i64 0, .int .i64 er]) ∧ w.grownBy w' none) :
    Calls Tryz.prog 6 #[sh.val, .slice ao P.n cap, .slice aoh P.nh caph, .slice aos P.ns caps, .int .i64 most] w fun e w' => e = .returned (errVal er) ∧ Below w.heap.size w w' := by
  obtain ⟨s0, s1, s2, s3, s4, s5⟩ := sh
  simp only [Shp.val] at hS ⊢
  have HS := hide hS
  clear hS
  unfold errVal
  go_enter Tryz.func6, Tryz.ntmps6
  go_wp2_with fail
  refine (HS.out _).mono ?_
  rintro e w1 ⟨rfl, hg⟩
  have HB := hide ((((Below.refl w.heap.size w).alloc (Nat.le_refl _) (.cells #[.int .i64 s0, .int .i64 s1, .int .i64 s2, .int .i64 s3, .int .i64 s4, .int .i64 s5] 23)).alloc (by simp) (.cells #[.slice none 0 0, .slice none 0 0, .bool false] 32)).trans (below_of_grown_none hg w.heap.size (by simp; omega)))
  have hb := below_of_grown_none hg (w.heap.size + 2) (by simp)
  have z0 := hb.cell (p := ⟨w.heap.size + 1, 0, none⟩) (by simp)
  have z1 := hb.cell (p := ⟨w.heap.size + 1, 1, none⟩) (by simp)
  have z2 := hb.cell (p := ⟨w.heap.size + 1, 2, none⟩) (by simp)
  have y0 := hb.frozen (p := ⟨w.heap.size + 1, 0, none⟩) (by simp)
  have y1 := hb.frozen (p := ⟨w.heap.size + 1, 1, none⟩) (by simp)
  have y2 := hb.frozen (p := ⟨w.heap.size + 1, 2, none⟩) (by simp)
  simp at z0 z1 z2 y0 y1 y2
  clear hb hg
  go_wp2_with fail
  go_light
  refine bodyPost_ret (v := errVal er) ?_ rfl ⟨rfl, ((HB.out.setCell (by simp) _).setCell (by simp) _).setCell (by simp) _⟩
  simp [results, Tryz.results6, go_sem, errVal, *]
set_option maxHeartbeats 8000000 in
theorem rplay_all (hw4 : want ≤ 4096) (hS : ∀ w : World, Calls Tryz.prog 22 #[sh.val] w fun e w' => e = .returned (.tuple #[.int .i64 want, .int .i64 0]) ∧ w.grownBy w' none) (RK : RKind K rep sh 54 35)
    (S : Sees w w.heap.size ao P.n f) (hnil : ao = none → P.n = 0 ∧ cap = 0) (hf : ∀ i, i < P.n → 0 ≤ f i ∧ f i ≤ 18446744073709551615) (SH : SeesH w w.heap.size aoh P.nh P.jn P.jb) (hn63 : P.nh ≤ 9223372036854775807) (SI : SeesI w w.heap.size aos P.ns P.sched) (hjw : ∀ h, h < P.nh → ∀ j, j < P.jn h → (P.jb h j).wf) :
    Calls Tryz.prog 6 #[sh.val, .slice ao P.n cap, .slice aoh P.nh caph, .slice aos P.ns caps, .int .i64 most] w (RLAll K rep want w P f most) := by
  have RA := fun (w2 : World) (hn : P.n ≤ 4096) (B2 : Below w.heap.size w w2) => ran_all (w := w2) (ao := ao) (aoh := aoh) (aos := aos) (cap := cap) (caph := caph) (caps := caps) (most := most) RK ((S.below B2 (Nat.le_refl _)).mono B2.size) hnil hn hf ((SH.below B2 (Nat.le_refl _)).up B2.size) hn63 ((SI.below B2 (Nat.le_refl _)).up B2.size) hjw
  obtain ⟨s0, s1, s2, s3, s4, s5⟩ := sh
  simp only [Shp.val] at hS RA ⊢
  have HS := hide hS
  have HRA := hide RA
  clear hS RA RK S hnil hf SH SI hjw
  go_enter Tryz.func6, Tryz.ntmps6
  go_wp2_with fail
  refine (HS.out _).mono ?_
  rintro e w1 ⟨rfl, hg⟩
  have HB := hide ((((Below.refl w.heap.size w).alloc (Nat.le_refl _) (.cells #[.int .i64 s0, .int .i64 s1, .int .i64 s2, .int .i64 s3, .int .i64 s4, .int .i64 s5] 23)).alloc (by simp) (.cells #[.slice none 0 0, .slice none 0 0, .bool false] 32)).trans (below_of_grown_none hg w.heap.size (by simp; omega)))
  have hb := below_of_grown_none hg (w.heap.size + 2) (by simp)
  have sz1 := hg.size
  simp only [World.size_alloc] at sz1
  have c0 := hb.cell (p := ⟨w.heap.size, 0, none⟩) (by simp)
  have c1 := hb.cell (p := ⟨w.heap.size, 1, none⟩) (by simp)
  have c2 := hb.cell (p := ⟨w.heap.size, 2, none⟩) (by simp)
  have c3 := hb.cell (p := ⟨w.heap.size, 3, none⟩) (by simp)
  have c4 := hb.cell (p := ⟨w.heap.size, 4, none⟩) (by simp)
  have c5 := hb.cell (p := ⟨w.heap.size, 5, none⟩) (by simp)
  have z0 := hb.cell (p := ⟨w.heap.size + 1, 0, none⟩) (by simp)
  have z1 := hb.cell (p := ⟨w.heap.size + 1, 1, none⟩) (by simp)
  have z2 := hb.cell (p := ⟨w.heap.size + 1, 2, none⟩) (by simp)
  have y0 := hb.frozen (p := ⟨w.heap.size + 1, 0, none⟩) (by simp)
  have y1 := hb.frozen (p := ⟨w.heap.size + 1, 1, none⟩) (by simp)
  have y2 := hb.frozen (p := ⟨w.heap.size + 1, 2, none⟩) (by simp)
  simp at c0 c1 c2 c3 c4 c5 z0 z1 z2 y0 y1 y2
  clear hb hg
  by_cases hne : P.n = want
  · subst hne
    go_wp2_with fail
    refine (HRA.out w1 hw4 HB.out).mono ?_
    rintro e w3 ⟨hb3, hc3⟩
    have sz3 := hb3.size
    have LA : RLAll K rep P.n w1 P f most e w3 := ⟨hb3, by
      rcases hc3 with ⟨er, h1, h2⟩ | ⟨h1, h2, v, h3, h4⟩
      · exact .inl ⟨er, .inr ⟨rfl, h1⟩, h2⟩
      · exact .inr ⟨rfl, h1, h2, v, h3, rtold_touch h4 ((Touch.refl w3 (fun k => k = 0))) (by omega) (by omega)⟩⟩
    obtain ⟨sa, k, sc, wa, n, wc, en, aa, m, ac, er, rfl⟩ := LA.shape
    have u0 := (hb3.cell (p := ⟨w.heap.size + 1, 0, none⟩) (by show w.heap.size + 1 < _; omega)).trans z0
    have u1 := (hb3.cell (p := ⟨w.heap.size + 1, 1, none⟩) (by show w.heap.size + 1 < _; omega)).trans z1
    have u2 := (hb3.cell (p := ⟨w.heap.size + 1, 2, none⟩) (by show w.heap.size + 1 < _; omega)).trans z2
    have v0 := (hb3.frozen (p := ⟨w.heap.size + 1, 0, none⟩) (by show w.heap.size + 1 < _; omega)).trans y0
    have v1 := (hb3.frozen (p := ⟨w.heap.size + 1, 1, none⟩) (by show w.heap.size + 1 < _; omega)).trans y1
    have v2 := (hb3.frozen (p := ⟨w.heap.size + 1, 2, none⟩) (by show w.heap.size + 1 < _; omega)).trans y2
    have FIN := hide (LA.up HB.out (touch3 w3 (w.heap.size + 1) (.slice sa k sc) (.slice wa n wc) (.bool en)) (by omega) (by omega))
    clear hb3 hc3 LA c0 c1 c2 c3 c4 c5 z0 z1 z2 y0 y1 y2
    unfold tv3
    go_wp2_with fail
    go_light
    refine bodyPost_ret (v := tv3 sa k sc wa n wc en aa m ac er) ?_ rfl FIN.out
    simp [results, Tryz.results6, go_sem, tv3, *]
  · have hne' : ¬ (P.n : Int) = (want : Int) := by omega
    go_wp2_with fail
    go_light
    refine bodyPost_ret (v := errVal 121) ?_ rfl ⟨((HB.out.setCell (by simp) _).setCell (by simp) _).setCell (by simp) _, .inl ⟨121, .inl ⟨hne, rfl⟩, rfl⟩⟩
    simp [results, Tryz.results6, go_sem, errVal, *]
end L16
end Go.Proofs.YtnodkeoikamonaaGreat
/-
  What a run told, written over: nothing else is turned.
-/
namespace Go.Proofs.YtnodkeoikamonaaGreat
open Go.RowKit
set_option linter.unusedVariables false
set_option linter.unusedSimpArgs false
set_option linter.unnecessarySimpa false
set_option maxRecDepth 20000
namespace L16
structure OV (lo hi : Nat) (w : World) (k n m : Nat) (dn : Nat → Nat) (sa wa aa : Option Addr) : Prop where
  top : hi ≤ w.heap.size
  S : ∀ i, i < k → ∃ b off, sa = some ⟨b, off, none⟩ ∧ lo ≤ b ∧ b < hi ∧ w.there b (off + i * 6) 6 ∧ ∀ ad, aa = some ad → ad.block ≠ b
  W : ∀ i, i < n → ∃ b off, wa = some ⟨b, off, none⟩ ∧ lo ≤ b ∧ b < hi ∧ w.there b (off + i) 1 ∧ ∀ ad, aa = some ad → ad.block ≠ b
  A : ∀ h, h < m → ∃ b off av cap, aa = some ⟨b, off, none⟩ ∧ b < hi ∧ w.cell? ⟨b, off + h, none⟩ = some (.slice av (dn h) cap) ∧ ∀ j, j < dn h → ∃ b' off', av = some ⟨b', off', none⟩ ∧ lo ≤ b' ∧ b' < hi ∧ b ≠ b' ∧ w.there b' (off' + j * 2) 2
theorem OV.write {lo hi : Nat} {w : World} {k n m : Nat} {dn : Nat → Nat} {sa wa aa : Option Addr} (h : OV lo hi w k n m dn sa wa aa) (x o : Nat) (vs : List Value) (hx : ∀ ad, aa = some ad → ad.block ≠ x) : OV lo hi (w.setCells x o vs) k n m dn sa wa aa := by
  have tt := touch_setCells x vs o w
  have ht := h.top
  refine ⟨Nat.le_trans h.top tt.size, fun i hi => ?_, fun i hi => ?_, fun q hq => ?_⟩
  · obtain ⟨b, off, e, h1, h2, h3, h4⟩ := h.S i hi
    exact ⟨b, off, e, h1, h2, World.there_setCells h3 _ _ _, h4⟩
  · obtain ⟨b, off, e, h1, h2, h3, h4⟩ := h.W i hi
    exact ⟨b, off, e, h1, h2, World.there_setCells h3 _ _ _, h4⟩
  · obtain ⟨b, off, av, cap, e, hb, hc, hr⟩ := h.A q hq
    refine ⟨b, off, av, cap, e, hb, (World.cell?_of_block (a := ⟨b, off + q, none⟩) (tt.block b (by omega) (hx _ e))).trans hc, fun j hj => ?_⟩
    obtain ⟨b', off', e', h1, h2, h3, h4⟩ := hr j hj
    exact ⟨b', off', e', h1, h2, h3, World.there_setCells h4 _ _ _⟩
theorem OV.below {lo hi : Nat} {w w' : World} {k n m : Nat} {dn : Nat → Nat} {sa wa aa : Option Addr} (h : OV lo hi w k n m dn sa wa aa) (hb : Below hi w w') : OV lo hi w' k n m dn sa wa aa := by
  have ht := h.top
  refine ⟨Nat.le_trans h.top hb.size, fun i hi => ?_, fun i hi => ?_, fun q hq => ?_⟩
  · obtain ⟨b, off, e, h1, h2, h3, h4⟩ := h.S i hi
    exact ⟨b, off, e, h1, h2, there_block h3 (hb.block b h2), h4⟩
  · obtain ⟨b, off, e, h1, h2, h3, h4⟩ := h.W i hi
    exact ⟨b, off, e, h1, h2, there_block h3 (hb.block b h2), h4⟩
  · obtain ⟨b, off, av, cap, e, hbb, hc, hr⟩ := h.A q hq
    refine ⟨b, off, av, cap, e, hbb, (World.cell?_of_block (a := ⟨b, off + q, none⟩) (hb.block b hbb)).trans hc, fun j hj => ?_⟩
    obtain ⟨b', off', e', h1, h2, h3, h4⟩ := hr j hj
    exact ⟨b', off', e', h1, h2, h3, there_block h4 (hb.block b' h2)⟩
theorem OV.set {lo hi : Nat} {w : World} {k n m : Nat} {dn : Nat → Nat} {sa wa aa : Option Addr} (h : OV lo hi w k n m dn sa wa aa) (b o : Nat) (v : Value) (hx : ∀ ad, aa = some ad → ad.block ≠ b) : OV lo hi (w.setCell ⟨b, o, none⟩ v) k n m dn sa wa aa := h.write b o [v] hx
theorem there_set {w : World} {b o n : Nat} (h : w.there b o n) (x y : Nat) (v : Value) : (w.setCell ⟨x, y, none⟩ v).there b o n := World.there_setCells h x y [v]
theorem there_cell {w : World} {b o n : Nat} (h : w.there b o n) (j : Nat) (hj : j < n) : (∃ u, w.cell? ⟨b, o + j, none⟩ = some u) ∧ w.frozen? ⟨b, o + j, none⟩ = false :=
  ⟨Option.isSome_iff_exists.1 (h j hj).1, (h j hj).2⟩
variable {w : World} {lo hi k n m sc wc ac : Nat} {dn : Nat → Nat} {sa wa aa : Option Addr} {en : Bool}
set_option maxHeartbeats 8000000 in
theorem spoilt_any (H : OV lo hi w k n m dn sa wa aa) (hk : k ≤ 65536) (hn : n ≤ 4096) (hm : m ≤ 8) (hd : ∀ h, h < m → dn h ≤ 256) :
    Calls Tryz.prog 14 #[.agg #[.slice sa k sc, .slice wa n wc, .bool en], .slice aa m ac] w fun e w' => e = .returned (.tuple #[]) ∧ Touch w w' (fun q => lo ≤ q ∧ q < hi) := by
  obtain ⟨W0, hW0⟩ : ∃ W0, w.alloc (.cells #[.slice sa k sc, .slice wa n wc, .bool en] 32) = W0 := ⟨_, rfl⟩
  have top := H.top
  have T0 := hide (show Touch w W0 (fun q => lo ≤ q ∧ q < hi) from by rw [← hW0]; exact (Touch.refl w _).alloc _)
  have H0 := hide (show OV lo hi W0 k n m dn sa wa aa from by rw [← hW0]; exact H.below ((Below.refl hi w).alloc H.top _))
  have sz0 : W0.heap.size = w.heap.size + 1 := by rw [← hW0]; simp
  have R0 : W0.rowIs w.heap.size 32 3 (lrow [.slice sa k sc, .slice wa n wc, .bool en]) := by rw [← hW0]; exact rowL_alloc w [.slice sa k sc, .slice wa n wc, .bool en] _ rfl
  have HR0 := hide R0
  have c0 : W0.cell? ⟨w.heap.size, 0, none⟩ = some (.slice sa k sc) := R0.cell (i := 0) (by decide)
  have HD := hide hd
  clear R0 H hd
  go_enter Tryz.func14, Tryz.ntmps14
  go_wp2_with fail
  go_loopw [12] (fun i wr => ∃ q : Nat, q ≤ k ∧ i = .int .i64 q ∧ OV lo hi wr k n m dn sa wa aa ∧ Touch W0 wr (fun q => lo ≤ q ∧ q < hi)) (fun i _ => k - (intOf i).toNat)
  case atStart => exact ⟨0, Nat.zero_le _, rfl, H0.out, Touch.refl _ _⟩
  case round =>
    obtain ⟨q, hq, rfl, ho, ht⟩ := hrel
    have hs1 := ht.size
    have r1 := HR0.out.of_block (ht.block w.heap.size (by omega) (by omega))
    have d0 : wr.cell? ⟨w.heap.size, 0, none⟩ = some (.slice sa k sc) := r1.cell (i := 0) (by decide)
    have d1 : wr.cell? ⟨w.heap.size, 1, none⟩ = some (.slice wa n wc) := r1.cell (i := 1) (by decide)
    clear r1
    by_cases hlt : q < k
    · have hlt' : (q : Int) < k := by omega
      obtain ⟨b, off, rfl, hb1, hb2, hth, hne⟩ := ho.S q hlt
      obtain ⟨⟨u0, hu0⟩, fz0⟩ := there_cell hth 0 (by decide)
      obtain ⟨⟨u1, hu1⟩, fz1⟩ := there_cell hth 1 (by decide)
      obtain ⟨⟨u2, hu2⟩, fz2⟩ := there_cell hth 2 (by decide)
      obtain ⟨⟨u3, hu3⟩, fz3⟩ := there_cell hth 3 (by decide)
      obtain ⟨⟨u4, hu4⟩, fz4⟩ := there_cell hth 4 (by decide)
      obtain ⟨⟨u5, hu5⟩, fz5⟩ := there_cell hth 5 (by decide)
      rw [Nat.add_zero] at hu0 fz0
      have HO := hide ho
      have HT := hide ht
      have HNE := hide hne
      clear ho ht hth hne
      go_wp2_with fail
      go_roundw
      case rel =>
        refine ⟨q + 1, by omega, by go_num, ?_, ?_⟩
        · repeat (with_reducible refine OV.set ?_ _ _ _ HNE.out)
          exact HO.out
        · repeat (with_reducible refine Touch.setCell ?_ _ ?side _; case side => simp; omega)
          exact HT.out
      case measure => simp [intOf]; omega
    · have hlt' : ¬ (q : Int) < k := by omega
      have HO1 := hide ho
      have HT1 := hide ht
      obtain ⟨W1, hW1⟩ : ∃ W1, wr = W1 := ⟨_, rfl⟩
      subst hW1
      clear ho ht
      go_wp2_with fail
      go_loopw [24] (fun i w2 => ∃ q : Nat, q ≤ n ∧ i = .int .i64 q ∧ OV lo hi w2 k n m dn sa wa aa ∧ Touch W0 w2 (fun q => lo ≤ q ∧ q < hi)) (fun i _ => n - (intOf i).toNat)
      case atStart => exact ⟨0, Nat.zero_le _, rfl, HO1.out, HT1.out⟩
      case round =>
        obtain ⟨q', hq', rfl, ho, ht⟩ := hrel
        have hs2 := ht.size
        have r2 := HR0.out.of_block (ht.block w.heap.size (by omega) (by omega))
        have f1 : wr.cell? ⟨w.heap.size, 1, none⟩ = some (.slice wa n wc) := r2.cell (i := 1) (by decide)
        clear r2
        by_cases hlt2 : q' < n
        · have hlt2' : (q' : Int) < n := by omega
          obtain ⟨b, off, rfl, hb1, hb2, hth, hne⟩ := ho.W q' hlt2
          obtain ⟨⟨u0, hu0⟩, fz0⟩ := there_cell hth 0 (by decide)
          rw [Nat.add_zero] at hu0 fz0
          have HO := hide ho
          have HT := hide ht
          have HNE := hide hne
          clear ho ht hne hth
          go_wp2_with fail
          go_roundw
          case rel =>
            refine ⟨q' + 1, by omega, by go_num, ?_, ?_⟩
            · repeat (with_reducible refine OV.set ?_ _ _ _ HNE.out)
              exact HO.out
            · repeat (with_reducible refine Touch.setCell ?_ _ ?side _; case side => simp; omega)
              exact HT.out
          case measure => simp [intOf]; omega
        · have hlt2' : ¬ (q' : Int) < n := by omega
          have HO2 := hide ho
          have HT2 := hide ht
          clear ho ht
          go_wp2_with fail
          go_loopw [34] (fun i w3 => ∃ q : Nat, q ≤ m ∧ i = .int .i64 q ∧ OV lo hi w3 k n m dn sa wa aa ∧ Touch W0 w3 (fun q => lo ≤ q ∧ q < hi)) (fun i _ => m - (intOf i).toNat)
          case atStart => exact ⟨0, Nat.zero_le _, rfl, HO2.out, HT2.out⟩
          case round =>
            obtain ⟨h, hh, rfl, ho, ht⟩ := hrel
            by_cases hlt3 : h < m
            · have hlt3' : (h : Int) < m := by omega
              obtain ⟨b, off, av, cap, rfl, hb2, hc, hrow⟩ := ho.A h hlt3
              have hdn := HD.out h hlt3
              have HO := hide ho
              have HT := hide ht
              have HRW := hide hrow
              clear ho ht hrow
              go_wp2_with fail
              go_loopw [40] (fun i w4 => ∃ q : Nat, q ≤ dn h ∧ i = .int .i64 q ∧ OV lo hi w4 k n m dn sa wa (some ⟨b, off, none⟩) ∧ Touch W0 w4 (fun q => lo ≤ q ∧ q < hi) ∧ ∀ j, j < dn h → ∃ b' off', av = some ⟨b', off', none⟩ ∧ lo ≤ b' ∧ b' < hi ∧ b ≠ b' ∧ w4.there b' (off' + j * 2) 2) (fun i _ => dn h - (intOf i).toNat)
              case atStart => exact ⟨0, Nat.zero_le _, rfl, HO.out, HT.out, HRW.out⟩
              case round =>
                obtain ⟨j, hj, rfl, ho, ht, hrow⟩ := hrel
                by_cases hlt4 : j < dn h
                · have hlt4' : (j : Int) < dn h := by omega
                  obtain ⟨b', off', rfl, h1, h2, h3, h4⟩ := hrow j hlt4
                  have HO' := hide ho
                  have HT' := hide ht
                  have HRW' := hide hrow
                  obtain ⟨⟨u0, hu0⟩, fz0⟩ := there_cell h4 0 (by decide)
                  obtain ⟨⟨u1, hu1⟩, fz1⟩ := there_cell h4 1 (by decide)
                  rw [Nat.add_zero] at hu0 fz0
                  clear ho ht hrow h4
                  go_wp2_with fail
                  go_roundw
                  case rel =>
                    refine ⟨j + 1, by omega, by go_num, ?_, ?_, fun j' hj' => ?_⟩
                    · repeat (with_reducible refine OV.set ?_ _ _ _ (fun ad e => by cases e; exact h3))
                      exact HO'.out
                    · repeat (with_reducible refine Touch.setCell ?_ _ ?side _; case side => simp; omega)
                      exact HT'.out
                    · obtain ⟨b2, off2, e2, g1, g2, g3, g4⟩ := HRW'.out j' hj'
                      exact ⟨b2, off2, e2, g1, g2, g3, there_set (there_set g4 _ _ _) _ _ _⟩
                  case measure => simp [intOf]; omega
                · have hlt4' : ¬ (j : Int) < dn h := by omega
                  have HO' := hide ho
                  have HT' := hide ht
                  clear ho ht hrow
                  go_wp2_with fail
                  go_roundw
                  case rel => exact ⟨h + 1, by omega, by go_num, HO'.out, HT'.out⟩
                  case measure => simp [intOf]; omega
            · have hlt3' : ¬ (h : Int) < m := by omega
              have HT3 := hide ht
              clear ho ht
              go_wp2_with fail
              exact bodyPost_end (results_none (by rfl) _ _ _) rfl ⟨rfl, T0.out.trans' HT3.out (fun x _ hx => hx)⟩
end L16
end Go.Proofs.YtnodkeoikamonaaGreat
/-
  What a run told lies in memory of its own: its blocks, and what is seen there.
-/
namespace Go.Proofs.YtnodkeoikamonaaGreat
open Go.RowKit
set_option linter.unusedVariables false
set_option linter.unusedSimpArgs false
set_option linter.unnecessarySimpa false
set_option maxRecDepth 20000
namespace L16
variable {K : Kd} {P : Par} {st : St K} {base : Nat} {v : Value} {w w' : World}
theorem told_keep {S : Nat → Prop} (h : Told K P st base v w) (ht : Touch w w' S) (hs : ∀ q, S q → q < base) : Told K P st base v w' := by
  obtain ⟨blk, c, g, sv, rfl, H, G, GS, R, hg, hne⟩ := h
  exact ⟨blk, c, g, sv, rfl, H.touch ht (fun r x e he => by have := H.new r x e; have := hs _ he; omega), G, GS, R.block (ht.block g R.lt (fun he => by have := hs _ he; omega)), hg, hne⟩
theorem told_ov (h : Told K P st base v w) : ∃ sa sc wa wc aa ac en, v = .tuple #[.agg #[.slice sa st.k sc, .slice wa P.n wc, .bool en], .slice aa P.nh ac, .int .i64 0] ∧ OV base w.heap.size w st.k P.n P.nh st.done sa wa aa := by
  obtain ⟨blk, c, g, sv, rfl, H, G, GS, R, hg, hne⟩ := h
  obtain ⟨A, eA, hA⟩ := G.answers
  obtain ⟨sa, sc, rfl⟩ := GS.isSlice'
  refine ⟨sa, sc, _, _, _, _, _, rfl, Nat.le_refl _, fun i hi => ?_, fun i hi => ?_, fun q hq => ?_⟩
  · rcases GS with ⟨h0, _, _⟩ | ⟨cap, F, e, hc, hk, hm, hp⟩
    · omega
    · cases e
      refine ⟨blk .steps, 0, rfl, H.new _ _ hc, H.lt hc, rowIs.there (H.row _ _ hc) ?_, fun ad e => ?_⟩
      · show 0 + i * 6 + 6 ≤ sc * 6
        omega
      · cases e
        exact H.ne eA hc (by decide)
  · obtain ⟨c1, c2, ⟨F, hrow, hF⟩, c4⟩ := R
    refine ⟨g, 0, rfl, hg, hrow.lt, rowIs.there hrow (by omega), fun ad e => ?_⟩
    cases e
    exact hne _ _ eA
  · have a := hA q hq
    rcases a with ⟨h0, ev, _⟩ | ⟨cap, F, ev, hc, hk, hm, hp⟩
    · refine ⟨blk .answers, 0, none, 0, rfl, H.lt eA, ?_, fun j hj => by omega⟩
      have := H.cell eA (i := q) hq
      simp only at this
      rw [Nat.zero_add, this, ev, h0]
    · refine ⟨blk .answers, 0, some ⟨blk (.arow q), 0, none⟩, cap, rfl, H.lt eA, ?_, fun j hj => ⟨blk (.arow q), 0, rfl, H.new _ _ hc, H.lt hc, H.ne eA hc (by intro h; cases h), rowIs.there (H.row _ _ hc) ?_⟩⟩
      · have := H.cell eA (i := q) hq
        simp only at this
        rw [Nat.zero_add, this, ev]
      · show 0 + j * 2 + 2 ≤ cap * 2
        omega
end L16
end Go.Proofs.YtnodkeoikamonaaGreat
/-
  What both sides of a layer's run tell, and that what the layer tells lies in memory of its own.
-/
namespace Go.Proofs.YtnodkeoikamonaaGreat
open Go.RowKit
set_option linter.unusedVariables false
set_option linter.unusedSimpArgs false
set_option linter.unnecessarySimpa false
set_option maxRecDepth 20000
namespace L16
structure Owned (V : Vw) (D : Nat → Value → World → Prop) : Prop where
  keep : ∀ {base : Nat} {v : Value} {w w' : World} {S : Nat → Prop}, D base v w → Touch w w' S → (∀ q, S q → q < base) → D base v w'
  sees : ∀ {base : Nat} {v : Value} {w : World}, D base v w → TV w V v
  own : ∀ {base : Nat} {v : Value} {w : World}, D base v w → ∃ sa sc wa wc aa ac en, v = .tuple #[.agg #[.slice sa V.k sc, .slice wa V.n wc, .bool en], .slice aa V.m ac, .int .i64 0] ∧ OV base w.heap.size w V.k V.n V.m V.dn sa wa aa
theorem Owned.none (V : Vw) : Owned V (fun _ _ _ => False) := ⟨fun h => h.elim, fun h => h.elim, fun h => h.elim⟩
theorem lviews2 (K : Kd) (rep : List Value → K.σ → Prop) (want : Nat) (P : Par) (f : Nat → Int) (most : Int) : ∃ (V : Vw) (D : Nat → Value → World → Prop), V.k ≤ 65536 ∧ V.n ≤ 4096 ∧ V.m ≤ 8 ∧ (∀ h, h < V.m → V.dn h ≤ 256) ∧ (V.er ≠ 0 → V.m = 0) ∧ Owned V D ∧
    (∀ w e w', RLAll K rep want w P f most e w' → Below w.heap.size w w' ∧ ∃ v, e = .returned v ∧ TV w' V v) ∧ (∀ w e w', LAll K want w P f most e w' → Below w.heap.size w w' ∧ ∃ v, e = .returned v ∧ TV w' V v ∧ (V.er = 0 → D w.heap.size v w')) := by
  by_cases hE : ∃ er, LErr K want P most er
  · obtain ⟨er, hE⟩ := hE
    have hne : er ≠ 0 := by
      rcases hE with ⟨_, rfl⟩ | ⟨_, h⟩
      · decide
      · exact h.ne
    have tv : ∀ w, TV w ⟨0, fun _ => ⟨0, 0, 0, 0, 0, false⟩, 0, fun _ => 0, false, 0, fun _ => 0, fun _ _ => ⟨false, 0⟩, er⟩ (errVal er) := fun w => ⟨none, 0, none, 0, none, 0, rfl, fun j hj => absurd hj (Nat.not_lt_zero j), fun j hj => absurd hj (Nat.not_lt_zero j), fun j hj => absurd hj (Nat.not_lt_zero j)⟩
    refine ⟨⟨0, fun _ => ⟨0, 0, 0, 0, 0, false⟩, 0, fun _ => 0, false, 0, fun _ => 0, fun _ _ => ⟨false, 0⟩, er⟩, fun _ _ _ => False, Nat.zero_le _, Nat.zero_le _, Nat.zero_le _, fun _ _ => Nat.zero_le _, fun _ => rfl, Owned.none _, ?_, ?_⟩
    · rintro w e w' ⟨hb, ⟨er', h, rfl⟩ | ⟨h0, h1, h2, _⟩⟩
      · obtain rfl := h.one hE
        exact ⟨hb, _, rfl, tv w'⟩
      · exact absurd ⟨h1, h2⟩ (hE.not h0)
    · rintro w e w' ⟨hb, ⟨er', h, rfl⟩ | ⟨h0, h1, h2, _⟩⟩
      · obtain rfl := h.one hE
        exact ⟨hb, _, rfl, tv w', fun h => absurd h hne⟩
      · exact absurd ⟨h1, h2⟩ (hE.not h0)
  · by_cases hf : Fine P most ∧ AllOk K P ∧ ∀ h, h < P.nh → (runSt P (st0 K P f) most.toNat).done h ≤ 256
    · obtain ⟨hf, hall, hd⟩ := hf
      have hk : (runSt P (st0 K P f) most.toNat).k ≤ 65536 := by
        have := (runSt_k P (st0 K P f) rfl most.toNat).1
        have := hf.2.2.2
        omega
      have hnh : P.nh ≤ 8 := by rcases Nat.lt_or_ge 8 P.nh with l | l; exact absurd (.inl l) hf.2.1; exact l
      have sees : ∀ {base : Nat} {v : Value} {w : World}, Told K P (runSt P (st0 K P f) most.toNat) base v w → TV w ⟨(runSt P (st0 K P f) most.toNat).k, (runSt P (st0 K P f) most.toNat).s, P.n, (runSt P (st0 K P f) most.toNat).f, decide (cnt ((runSt P (st0 K P f) most.toNat).going P) P.nh = 0), P.nh, (runSt P (st0 K P f) most.toNat).done, (runSt P (st0 K P f) most.toNat).ans, 0⟩ v := by
        rintro base v w ⟨blk, c, g, sv, rfl, H, G, GS, R, hg, hne⟩
        obtain ⟨sa, sc, rfl⟩ := GS.isSlice'
        exact ⟨sa, sc, _, _, _, _, rfl, GS.seesS H, R.sees, seesA_of G.answers H⟩
      refine ⟨_, Told K P (runSt P (st0 K P f) most.toNat), hk, hf.1, hnh, hd, fun h => absurd rfl h, ⟨fun h ht hs => told_keep h ht hs, fun h => sees h, fun h => told_ov h⟩, ?_, ?_⟩
      · rintro w e w' ⟨hb, ⟨er', h, rfl⟩ | ⟨h0, h1, h2, v, rfl, blk, c, un, capw, sv, rfl, H, G⟩⟩
        · exact absurd ⟨_, h⟩ hE
        · obtain ⟨sa, sc, rfl⟩ := G.steps.isSlice'
          exact ⟨hb, _, rfl, sa, sc, _, _, _, _, rfl, G.steps.seesS H, G.seesW H, seesA_of G.answers H⟩
      · rintro w e w' ⟨hb, ⟨er', h, rfl⟩ | ⟨h0, h1, h2, v, rfl, hT⟩⟩
        · exact absurd ⟨_, h⟩ hE
        · exact ⟨hb, _, rfl, sees hT, fun _ => hT⟩
    · refine ⟨⟨0, fun _ => ⟨0, 0, 0, 0, 0, false⟩, 0, fun _ => 0, false, 0, fun _ => 0, fun _ _ => ⟨false, 0⟩, 0⟩, fun _ _ _ => False, Nat.zero_le _, Nat.zero_le _, Nat.zero_le _, fun _ _ => Nat.zero_le _, fun _ => rfl, Owned.none _, ?_, ?_⟩
      · rintro w e w' ⟨hb, ⟨er', h, rfl⟩ | ⟨h0, h1, h2, v, rfl, blk, c, un, capw, sv, rfl, H, G⟩⟩
        · exact absurd ⟨_, h⟩ hE
        · exact absurd ⟨h1, h2, fun h hh => Nat.le_trans (G.doneLe h hh) (G.jobs h hh)⟩ hf
      · rintro w e w' ⟨hb, ⟨er', h, rfl⟩ | ⟨h0, h1, h2, v, rfl, blk, c, g, sv, rfl, H, G, GS, R, hg, hne⟩⟩
        · exact absurd ⟨_, h⟩ hE
        · exact absurd ⟨h1, h2, fun h hh => Nat.le_trans (G.doneLe h hh) (G.jobs h hh)⟩ hf
end L16
end Go.Proofs.YtnodkeoikamonaaGreat
/-
  ShadePlays: what both sides tell, and that what shade tells lies in memory of its own.
-/
namespace Go.Proofs.YtnodkeoikamonaaGreat
open Go.RowKit
set_option linter.unusedVariables false
set_option linter.unusedSimpArgs false
set_option linter.unnecessarySimpa false
set_option maxRecDepth 20000
namespace Shd
theorem rsize_ok {sh : Shp} (h : Shape.R5 sh.a sh.b sh.c sh.d sh.e) (w : World) : Calls Tryz.prog 22 #[sh.val] w fun e w' => e = .returned (.tuple #[.int .i64 (sizeOf sh), .int .i64 0]) ∧ w.grownBy w' none := by
  obtain ⟨o, s, hh, r, k, e0, e1, e2, e3, e4, H⟩ := natR5 h
  rw [size_eq e0 e1 e2 e3 e4]
  obtain ⟨s0, s1, s2, s3, s4, s5⟩ := sh
  simp only at e0 e1 e2 e3 e4
  subst e0 e1 e2 e3 e4
  refine (Shape.rsize_ok (s5 := s5) H w).mono ?_
  rintro e w' ⟨rfl, hb⟩
  exact ⟨rfl, below_grown hb none⟩
theorem rsize_bad {sh : Shp} (h : ¬ Shape.R5 sh.a sh.b sh.c sh.d sh.e) (w : World) : Calls Tryz.prog 22 #[sh.val] w fun e w' => e = .returned (.tuple #[.int .i64 0, .int .i64 120]) ∧ w.grownBy w' none := by
  refine (Shape.rsize_bad h w).mono ?_
  rintro e w' ⟨rfl, hb⟩
  exact ⟨rfl, below_grown hb none⟩
instance (a b c d e : Int) : Decidable (Shape.R5 a b c d e) := by unfold Shape.R5; infer_instance
theorem oviews2 (sh : Shp) (P : Par) (f : Nat → Int) (most : Int) (hn63 : P.nh ≤ 9223372036854775807) (hf : ∀ i, i < P.n → 0 ≤ f i ∧ f i ≤ 18446744073709551615) (hjw : ∀ h, h < P.nh → ∀ j, j < P.jn h → (P.jb h j).wf) :
    ∃ (V : Vw) (D : Nat → Value → World → Prop), V.k ≤ 65536 ∧ V.n ≤ 4096 ∧ V.m ≤ 8 ∧ (∀ h, h < V.m → V.dn h ≤ 256) ∧ (V.er ≠ 0 → V.m = 0) ∧ L16.Owned V D ∧
    (∀ (w : World) ao cap aoh caph aos caps, Sees w w.heap.size ao P.n f → (ao = none → P.n = 0 ∧ cap = 0) → SeesH w w.heap.size aoh P.nh P.jn P.jb → SeesI w w.heap.size aos P.ns P.sched →
      Calls Tryz.prog 6 #[sh.val, .slice ao P.n cap, .slice aoh P.nh caph, .slice aos P.ns caps, .int .i64 most] w fun e w' => Below w.heap.size w w' ∧ ∃ v, e = .returned v ∧ TV w' V v) ∧
    (∀ (w : World) ao cap aoh caph aos caps, Sees w w.heap.size ao P.n f → SeesH w w.heap.size aoh P.nh P.jn P.jb → SeesI w w.heap.size aos P.ns P.sched →
      Calls Tryz.prog 10 #[sh.val, .slice ao P.n cap, .slice aoh P.nh caph, .slice aos P.ns caps, .int .i64 most] w fun e w' => Below w.heap.size w w' ∧ ∃ v, e = .returned v ∧ TV w' V v ∧ (V.er = 0 → D w.heap.size v w')) := by
  by_cases hr : ¬ Shape.R5 sh.a sh.b sh.c sh.d sh.e
  · have tv : ∀ w, TV w ⟨0, fun _ => ⟨0, 0, 0, 0, 0, false⟩, 0, fun _ => 0, false, 0, fun _ => 0, fun _ _ => ⟨false, 0⟩, 120⟩ (errVal 120) := fun w => ⟨none, 0, none, 0, none, 0, rfl, fun j hj => absurd hj (Nat.not_lt_zero j), fun j hj => absurd hj (Nat.not_lt_zero j), fun j hj => absurd hj (Nat.not_lt_zero j)⟩
    refine ⟨⟨0, fun _ => ⟨0, 0, 0, 0, 0, false⟩, 0, fun _ => 0, false, 0, fun _ => 0, fun _ _ => ⟨false, 0⟩, 120⟩, fun _ _ _ => False, Nat.zero_le _, Nat.zero_le _, Nat.zero_le _, fun _ _ => Nat.zero_le _, fun _ => rfl, L16.Owned.none _, ?_, ?_⟩
    · intro w ao cap aoh caph aos caps _ _ _ _
      exact (L16.rplay_shape (by decide) (fun w' => rsize_bad hr w')).mono fun e w' ⟨he, hb⟩ => ⟨hb, _, he, tv w'⟩
    · intro w ao cap aoh caph aos caps _ _ _
      exact (play_shape hr).mono fun e w' ⟨he, hb⟩ => ⟨hb, _, he, tv w', fun h => absurd h (by decide)⟩
  · have h5 : Shape.R5 sh.a sh.b sh.c sh.d sh.e := Decidable.of_not_not hr
    obtain ⟨want, hwant, hw1, hw2⟩ := size_nat h5
    obtain ⟨V, D, v1, v2, v3, v4, v7, v8, v5, v6⟩ := L16.lviews2 (kShd false sh) (repS sh) want P f most
    refine ⟨V, D, v1, v2, v3, v4, v7, v8, ?_, ?_⟩
    · intro w ao cap aoh caph aos caps S hnil SH SI
      exact (L16.rplay_all (by omega) (fun w' => by rw [hwant]; exact rsize_ok h5 w') (rkind h5) S hnil hf SH hn63 SI hjw).mono fun e w' h => v5 _ _ _ h
    · intro w ao cap aoh caph aos caps S SH SI
      exact (play_all h5 hwant S hf SH hn63 SI hjw).mono fun e w' h => v6 _ _ _ h
end Shd
end Go.Proofs.YtnodkeoikamonaaGreat
/-
  Words in new memory with a marked one behind them.
-/
namespace Go.Proofs.YtnodkeoikamonaaGreat
open Go.RowKit
set_option linter.unusedVariables false
set_option linter.unusedSimpArgs false
set_option linter.unnecessarySimpa false
set_option maxRecDepth 20000
namespace L16
variable {w : World} {ao : Option Addr} {cap n : Nat} {f : Nat → Int}
def marked (n : Nat) (f : Nat → Int) : Nat → Int := fun i => if i < n then f i else 11259375
theorem marked_cells (n : Nat) (f : Nat → Int) : wordCells n f ++ [.int .u64 11259375] = wordCells (n + 1) (marked n f) := by
  apply List.ext_getElem?
  intro i
  by_cases hi : i < n
  · rw [List.getElem?_append_left (by simpa [wordCells] using hi)]
    have h2 : i < n + 1 := by omega
    simp [wordCells, hi, h2, marked]
  · rw [List.getElem?_append_right (by simp [wordCells]; omega)]
    by_cases he : i = n
    · subst he; simp [wordCells, marked]
    · have h2 : ¬ i < n + 1 := by omega
      have h3 : ¬ i - n = 0 := by omega
      simp [wordCells, h2, h3]
set_option maxHeartbeats 4000000 in
theorem lent_any (S : Sees w w.heap.size ao n f) (hnil : ao = none → n = 0 ∧ cap = 0) (hf : ∀ i, i < n → 0 ≤ f i ∧ f i ≤ 18446744073709551615) (hb : (n + 1) * 8 ≤ 140737488355328) :
    Calls Tryz.prog 7 #[.slice ao n cap] w fun e w' => ∃ g c, e = .returned (.slice (some ⟨g, 0, none⟩) n c) ∧ n < c ∧ IsRow w' g (n + 1) c (marked n f) ∧ w.heap.size ≤ g ∧ Below w.heap.size w w' := by
  have HS := hide S
  have HN := hide hnil
  have HF := hide hf
  have HM := hide (show ∀ i, i < n + 1 → 0 ≤ marked n f i ∧ marked n f i ≤ 18446744073709551615 from fun i hi => by
    unfold marked; split
    · rename_i h; exact hf i h
    · decide)
  clear S hnil hf
  obtain ⟨i46, hi46, hz46, hs46, hy46⟩ := info46e
  have hlen : (n : Int) ≤ 9223372036854775807 := by omega
  go_enter Tryz.func7, Tryz.ntmps7
  go_wp2_with (first
    | (at_builtin; refine wpList_append_opt rfl (.tmp 3) (.tmp 4) 24 rfl w.heap.size 50 i46 (.int .u64 0) 1 8 Tryz.underlying24 hi46 hz46 hs46 hy46 rfl (by decide) (.slice (some ⟨w.heap.size, 0, none⟩) 0 0) 0 [] rfl (by have := World.ownsRow_lit (base := w.heap.size) (e := 50) (size := 1) w #[] 0 (by simp) (by unfold maxLen; omega) rfl; simpa using this) ao n cap (wordCells n f) rfl HN.out (by simp [wordCells]) (Sees.news (HS.out.alloc _)) (wordCells_one n f) (by unfold maxLen; omega) (by omega) (by simp) ?_; intro v4 w4 hown4 hgrow4 hnn; rw [Nat.zero_add, List.nil_append] at hown4; obtain ⟨g4, c4, rfl, _, hg4⟩ := owned_row hown4 (fun he => by have := hnn he; cases this) HF.out; have B4 := hide (show Below w.heap.size w w4 from ((Below.refl _ w).alloc (Nat.le_refl _) (.cells #[] 50)).grown hgrow4 (by simp) (by simp [Value.ownBlock])); have O4 := hide hown4; clear hown4 hgrow4 hnn)
    | (at_builtin; refine wpList_append_opt rfl (.tmp 5) (.tmp 6) 24 rfl w.heap.size 50 i46 (.int .u64 0) 1 8 Tryz.underlying24 hi46 hz46 hs46 hy46 rfl (by decide) (.slice (some ⟨g4, 0, none⟩) n c4) n (wordCells n f) rfl (O4.out.alloc _) (some ⟨w4.heap.size, 0, none⟩) 1 1 [.int .u64 11259375] rfl (fun h => by cases h) rfl (fun ad had q u hu => by cases had; match q, hu with | 0, hu => injection hu with hu; subst hu; first | (rw [Go.WideShapes.add_plain]; simp) | rfl) (by simp [Value.oneCell']) (by unfold maxLen; omega) (by omega) (by have := B4.out.size; simp; omega) ?_; intro v5 w5 hown5 hgrow5 hnn5; rw [marked_cells] at hown5; obtain ⟨g5, c5, rfl, row5, hg5⟩ := owned_row hown5 (fun he => by have := hnn5 he; cases this) HM.out; have R5 := hide row5; have B5 := hide (show Below w.heap.size w w5 from B4.out.trans ((((Below.refl _ w4).alloc (Nat.le_refl _) _).mono B4.out.size).trans (grown_below (r := g4) (by simpa [Value.ownBlock] using hgrow5) (by have := B4.out.size; simp; omega) hg4))); have hc5 : n < c5 := row5.1; clear hown5 hgrow5 hnn5 row5))
  go_ret
  exact ⟨g5, c5, rfl, hc5, R5.out, hg5, B5.out⟩
end L16
end Go.Proofs.YtnodkeoikamonaaGreat
