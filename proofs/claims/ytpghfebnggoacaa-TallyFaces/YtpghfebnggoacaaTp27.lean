/-
  Lemmas: L5RanE, RViews.
-/
import Derived.Test.YtpghfebnggoacaaTp26
import Derived.Test.YtpghfebnggoacaaTp22
import Derived.Test.YtpghfebnggoacaaTp24
/-
  The statement's own reference of tasks of several steps: ran, where it refuses.
-/
namespace Go.Proofs.Ytpghfebnggoacaa
namespace L5
open Go.RowKit
set_option linter.unusedVariables false
set_option linter.unusedSimpArgs false
set_option linter.unnecessarySimpa false
set_option maxRecDepth 20000

/-- What wrong tells, whatever it is given. -/
def WrongB (K : Kd) (w : World) (P : Par) (most : Int) (e : Ending) (w' : World) : Prop :=
  Below w.heap.size w w' ∧ ((Fine P most ∧ AllOk K P ∧ e = .returned (.int .i64 0)) ∨ ∃ er, ErrOf K P most er ∧ e = .returned (.int .i64 er))

variable {K : Kd} {rep : List Value → K.σ → Prop} {sh : Shp} {w : World} {ao aoh aos : Option Addr} {cap caph caps : Nat} {P : Par} {most : Int}

theorem wrong_all (RK : RKind K rep sh 34 36) (hjw : ∀ h, h < P.nh → ∀ j, j < P.jn h → (P.jb h j).wf) (hn : P.n ≤ 4096) (SH : SeesH w w.heap.size aoh P.nh P.jn P.jb) (hn63 : P.nh ≤ 9223372036854775807) :
    Calls Try.prog 59 #[sh.val, .slice aoh P.nh caph, .slice aos P.ns caps, .int .i64 most] w (WrongB K w P most) := by
  by_cases h2 : LongHands P.nh P.jn ∨ 65536 < P.ns ∨ 65536 < most
  · exact (wrong_fits 1 (by decide) (fun w' hb => fits_long (SH.below hb (Nat.le_refl _)) hn63 most h2)).mono fun e w' ⟨hb, he⟩ => ⟨hb, .inr ⟨1, .inr (.inl ⟨hn, h2, rfl⟩), he⟩⟩
  · have hl : ¬ LongHands P.nh P.jn := fun h => h2 (.inl h)
    have hs : P.ns ≤ 65536 := by rcases Nat.lt_or_ge 65536 P.ns with l | l; exact absurd (.inr (.inl l)) h2; exact l
    have hm : most ≤ 65536 := by rcases Int.lt_or_le 65536 most with l | l; exact absurd (.inr (.inr l)) h2; exact l
    by_cases h3 : most < 0
    · exact (wrong_fits 2 (by decide) (fun w' hb => fits_fine (SH.below hb (Nat.le_refl _)) hl hs most hm 2 (.inr ⟨h3, rfl⟩))).mono fun e w' ⟨hb, he⟩ => ⟨hb, .inr ⟨2, .inr (.inr (.inl ⟨hn, hl, hs, h3, rfl⟩)), he⟩⟩
    · have hF : Fine P most := ⟨hn, hl, hs, by omega, hm⟩
      refine (wrong_fine RK hjw SH hl hs (by omega) hm).mono fun e w' ⟨hb, hc⟩ => ⟨hb, ?_⟩
      rcases hc with ⟨hok, he⟩ | ⟨er, hfe, he⟩
      · exact .inl ⟨hF, hok, he⟩
      · exact .inr ⟨er, .inr (.inr (.inr ⟨hF, hfe⟩)), he⟩

set_option maxHeartbeats 4000000 in
theorem ran_err (RK : RKind K rep sh 34 36) (hjw : ∀ h, h < P.nh → ∀ j, j < P.jn h → (P.jb h j).wf) (hn : P.n ≤ 4096) (SH : SeesH w w.heap.size aoh P.nh P.jn P.jb) (hn63 : P.nh ≤ 9223372036854775807) {er : Int} (he : ErrOf K P most er) :
    Calls Try.prog 45 #[sh.val, .slice ao P.n cap, .slice aoh P.nh caph, .slice aos P.ns caps, .int .i64 most] w fun e w' => e = .returned (errVal er) ∧ Below w.heap.size w w' := by
  have her' : ¬ er = 0 := he.ne
  obtain ⟨W2, hW2⟩ : ∃ W2, (w.alloc (.cells #[.int .i64 sh.a, .int .i64 sh.b, .int .i64 sh.c, .int .i64 sh.d, .int .i64 sh.e, .int .i64 sh.f] 23)).alloc (.cells #[.slice none 0 0, .slice none 0 0, .bool false] 32) = W2 := ⟨_, rfl⟩
  have b2 : Below w.heap.size w W2 := by rw [← hW2]; exact ((Below.refl _ w).alloc (Nat.le_refl _) _).alloc (by simp) _
  have sz2 : W2.heap.size = w.heap.size + 2 := by rw [← hW2]; simp
  have R1 : W2.rowIs w.heap.size 23 6 (lrow [Value.int .i64 sh.a, .int .i64 sh.b, .int .i64 sh.c, .int .i64 sh.d, .int .i64 sh.e, .int .i64 sh.f]) := by rw [← hW2]; exact (rowL_alloc w [Value.int .i64 sh.a, .int .i64 sh.b, .int .i64 sh.c, .int .i64 sh.d, .int .i64 sh.e, .int .i64 sh.f] _ rfl).alloc _
  have R2 := hide (show W2.rowIs (w.heap.size + 1) 32 3 (lrow [.slice none 0 0, .slice none 0 0, .bool false]) from by rw [← hW2]; have := rowL_alloc (w.alloc (.cells #[.int .i64 sh.a, .int .i64 sh.b, .int .i64 sh.c, .int .i64 sh.d, .int .i64 sh.e, .int .i64 sh.f] 23)) [.slice none 0 0, .slice none 0 0, .bool false] 32 (n := 3) rfl; rwa [World.size_alloc] at this)
  have c0 : W2.cell? ⟨w.heap.size, 0, none⟩ = some (.int .i64 sh.a) := R1.cell (i := 0) (by omega)
  have c1 : W2.cell? ⟨w.heap.size, 1, none⟩ = some (.int .i64 sh.b) := R1.cell (i := 1) (by omega)
  have c2 : W2.cell? ⟨w.heap.size, 2, none⟩ = some (.int .i64 sh.c) := R1.cell (i := 2) (by omega)
  have c3 : W2.cell? ⟨w.heap.size, 3, none⟩ = some (.int .i64 sh.d) := R1.cell (i := 3) (by omega)
  have c4 : W2.cell? ⟨w.heap.size, 4, none⟩ = some (.int .i64 sh.e) := R1.cell (i := 4) (by omega)
  have c5 : W2.cell? ⟨w.heap.size, 5, none⟩ = some (.int .i64 sh.f) := R1.cell (i := 5) (by omega)
  have WR := hide (wrong_all RK hjw (caph := caph) (aos := aos) (caps := caps) (most := most) hn (w := W2) (fun i hi => by
    obtain ⟨b, off, ao', cap, e, hb, hc, hj⟩ := SH.below b2 (Nat.le_refl _) i hi
    exact ⟨b, off, ao', cap, e, by omega, hc, fun q hq => by obtain ⟨b', off', e', hb', hc'⟩ := hj q hq; exact ⟨b', off', e', by omega, hc'⟩⟩) hn63)
  have HE := hide he
  have BW := hide b2
  clear SH RK hjw R1 he b2
  simp only [Shp.val] at WR ⊢
  unfold errVal
  go_enter Try.func45, Try.ntmps45
  go_wp2_with (go_at_call 59; refine WR.out.mono ?_; rintro e w' ⟨hb, hc⟩; obtain rfl : e = .returned (.int .i64 er) := (by rcases hc with ⟨h1, h2, _⟩ | ⟨er', h, rfl⟩; exact absurd ⟨h1, h2⟩ HE.out.not; rw [h.one HE.out]); have HB := hide hb; have sz3 := hb.size; have rT := R2.out.of_block (hb.block _ (by omega)); have z0 : w'.cell? ⟨w.heap.size + 1, 0, none⟩ = some (.slice none 0 0) := rT.cell (i := 0) (by omega); have z1 : w'.cell? ⟨w.heap.size + 1, 1, none⟩ = some (.slice none 0 0) := rT.cell (i := 1) (by omega); have z2 : w'.cell? ⟨w.heap.size + 1, 2, none⟩ = some (.bool false) := rT.cell (i := 2) (by omega); have y0 := rT.frozen 0; have y1 := rT.frozen 1; have y2 := rT.frozen 2; clear hb hc rT)
  go_light
  refine bodyPost_ret (v := errVal er) ?_ rfl ⟨rfl, (((BW.out.trans (HB.out.mono (by omega))).setCell (by simp) _).setCell (by simp) _).setCell (by simp) _⟩
  simp [results, Try.results45, go_sem, errVal, *]
end L5
end Go.Proofs.Ytpghfebnggoacaa

/-
  What both sides tell of a run.
-/
namespace Go.Proofs.Ytpghfebnggoacaa
open Go.RowKit
set_option linter.unusedVariables false
set_option linter.unusedSimpArgs false
set_option linter.unnecessarySimpa false
set_option maxRecDepth 20000

/-- What a run tells. -/
structure Vw where
  k : Nat
  s : Nat → Stp
  n : Nat
  f : Nat → Int
  en : Bool
  m : Nat
  dn : Nat → Nat
  an : Nat → Nat → Ans
  er : Int

/-- A told value, as it is seen. -/
def TV (w : World) (V : Vw) (v : Value) : Prop :=
  ∃ sa sc wa wc aa ac, v = .tuple #[.agg #[.slice sa V.k sc, .slice wa V.n wc, .bool V.en], .slice aa V.m ac, .int .i64 V.er] ∧ SeesS w w.heap.size sa V.k V.s ∧ Sees w w.heap.size wa V.n V.f ∧ SeesA w w.heap.size aa V.m V.dn V.an

/-- ran, whatever it is given. -/
def RAllR (K : Kd) (rep : List Value → K.σ → Prop) (w : World) (P : Par) (f : Nat → Int) (most : Int) (e : Ending) (w' : World) : Prop :=
  Below w.heap.size w w' ∧ ((∃ er, ErrOf K P most er ∧ e = .returned (errVal er)) ∨ (Fine P most ∧ AllOk K P ∧ ∃ v, e = .returned v ∧ RTold K rep P (runSt P (st0 K P f) most.toNat) (w.heap.size + 1) v w'))

theorem views (K : Kd) (rep : List Value → K.σ → Prop) (P : Par) (f : Nat → Int) (most : Int) : ∃ V : Vw, V.k ≤ 65536 ∧ V.n ≤ 4096 ∧ V.m ≤ 8 ∧ (∀ h, h < V.m → V.dn h ≤ 256) ∧
    (∀ w e w', RAllR K rep w P f most e w' → Below w.heap.size w w' ∧ ∃ v, e = .returned v ∧ TV w' V v) ∧ (∀ w e w', OfAny.AllB K w P f most e w' → Below w.heap.size w w' ∧ ∃ v, e = .returned v ∧ TV w' V v) := by
  by_cases hE : ∃ er, ErrOf K P most er
  · obtain ⟨er, hE⟩ := hE
    have tv : ∀ w, TV w ⟨0, fun _ => ⟨0, 0, 0, 0, 0, false⟩, 0, fun _ => 0, false, 0, fun _ => 0, fun _ _ => ⟨false, 0⟩, er⟩ (errVal er) := fun w => ⟨none, 0, none, 0, none, 0, rfl, fun j hj => absurd hj (Nat.not_lt_zero j), fun j hj => absurd hj (Nat.not_lt_zero j), fun j hj => absurd hj (Nat.not_lt_zero j)⟩
    refine ⟨⟨0, fun _ => ⟨0, 0, 0, 0, 0, false⟩, 0, fun _ => 0, false, 0, fun _ => 0, fun _ _ => ⟨false, 0⟩, er⟩, Nat.zero_le _, Nat.zero_le _, Nat.zero_le _, fun _ _ => Nat.zero_le _, ?_, ?_⟩
    · rintro w e w' ⟨hb, ⟨er', h, rfl⟩ | ⟨h1, h2, _⟩⟩
      · obtain rfl := h.one hE
        exact ⟨hb, _, rfl, tv w'⟩
      · exact absurd ⟨h1, h2⟩ hE.not
    · rintro w e w' ⟨hb, ⟨er', h, rfl⟩ | ⟨h1, h2, _⟩⟩
      · obtain rfl := h.one hE
        exact ⟨hb, _, rfl, tv w'⟩
      · exact absurd ⟨h1, h2⟩ hE.not
  · by_cases hf : Fine P most
    · have st := runSt P (st0 K P f) most.toNat
      have hk : (runSt P (st0 K P f) most.toNat).k ≤ 65536 := by
        have := (runSt_k P (st0 K P f) rfl most.toNat).1
        have := hf.2.2.2
        omega
      have hnh : P.nh ≤ 8 := by rcases Nat.lt_or_ge 8 P.nh with l | l; exact absurd (.inl l) hf.2.1; exact l
      by_cases hd : ∀ h, h < P.nh → (runSt P (st0 K P f) most.toNat).done h ≤ 256
      · refine ⟨⟨(runSt P (st0 K P f) most.toNat).k, (runSt P (st0 K P f) most.toNat).s, P.n, (runSt P (st0 K P f) most.toNat).f, decide (cnt ((runSt P (st0 K P f) most.toNat).going P) P.nh = 0), P.nh, (runSt P (st0 K P f) most.toNat).done, (runSt P (st0 K P f) most.toNat).ans, 0⟩, hk, hf.1, hnh, hd, ?_, ?_⟩
        · rintro w e w' ⟨hb, ⟨er', h, rfl⟩ | ⟨h1, h2, v, rfl, blk, c, un, capw, sv, rfl, H, G⟩⟩
          · exact absurd ⟨_, h⟩ hE
          · obtain ⟨sa, sc, rfl⟩ := G.steps.isSlice'
            exact ⟨hb, _, rfl, sa, sc, _, _, _, _, rfl, G.steps.seesS H, G.seesW H, seesA_of G.answers H⟩
        · rintro w e w' ⟨hb, ⟨er', h, rfl⟩ | ⟨h1, h2, v, rfl, blk, c, g, sv, rfl, H, G, GS, R, hg, hne⟩⟩
          · exact absurd ⟨_, h⟩ hE
          · obtain ⟨sa, sc, rfl⟩ := GS.isSlice'
            exact ⟨hb, _, rfl, sa, sc, _, _, _, _, rfl, GS.seesS H, R.sees, seesA_of G.answers H⟩
      · refine ⟨⟨0, fun _ => ⟨0, 0, 0, 0, 0, false⟩, 0, fun _ => 0, false, 0, fun _ => 0, fun _ _ => ⟨false, 0⟩, 0⟩, Nat.zero_le _, Nat.zero_le _, Nat.zero_le _, fun _ _ => Nat.zero_le _, ?_, ?_⟩
        · rintro w e w' ⟨hb, ⟨er', h, rfl⟩ | ⟨h1, h2, v, rfl, blk, c, un, capw, sv, rfl, H, G⟩⟩
          · exact absurd ⟨_, h⟩ hE
          · exact absurd (fun h hh => Nat.le_trans (G.doneLe h hh) (G.jobs h hh)) hd
        · rintro w e w' ⟨hb, ⟨er', h, rfl⟩ | ⟨h1, h2, v, rfl, blk, c, g, sv, rfl, H, G, GS, R, hg, hne⟩⟩
          · exact absurd ⟨_, h⟩ hE
          · exact absurd (fun h hh => Nat.le_trans (G.doneLe h hh) (G.jobs h hh)) hd
    · refine ⟨⟨0, fun _ => ⟨0, 0, 0, 0, 0, false⟩, 0, fun _ => 0, false, 0, fun _ => 0, fun _ _ => ⟨false, 0⟩, 0⟩, Nat.zero_le _, Nat.zero_le _, Nat.zero_le _, fun _ _ => Nat.zero_le _, ?_, ?_⟩
      · rintro w e w' ⟨hb, ⟨er', h, rfl⟩ | ⟨h1, _⟩⟩
        · exact absurd ⟨_, h⟩ hE
        · exact absurd h1 hf
      · rintro w e w' ⟨hb, ⟨er', h, rfl⟩ | ⟨h1, _⟩⟩
        · exact absurd ⟨_, h⟩ hE
        · exact absurd h1 hf

end Go.Proofs.Ytpghfebnggoacaa
