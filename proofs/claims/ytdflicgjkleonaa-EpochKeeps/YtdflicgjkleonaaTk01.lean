/-
  Lemmas: KOV, KOwn, KView3, EpochW3, KView, L11Spoil.
-/
import Derived.Test.YtdflicgjkleonaaTp20
import Derived.Test.YtdflicgjkleonaaTp33
import Derived.Test.YtdflicgjkleonaaTp39
import Derived.Test.YtdflicgjkleonaaTp41
set_option linter.unusedVariables false
set_option linter.unusedSimpArgs false
set_option linter.unnecessarySimpa false
set_option maxRecDepth 20000
namespace Go.Proofs.Ytdflicgjkleonaa
open Go.RowKit
namespace KV
structure OV (lo hi : Nat) (w : World) (k n m : Nat) (dn : Nat → Nat) (sa wa aa : Option Addr) : Prop where
  top : hi ≤ w.heap.size
  S : ∀ i, i < k → ∃ b off, sa = some ⟨b, off, none⟩ ∧ lo ≤ b ∧ b < hi ∧ w.there b (off + i * 6) 6 ∧ ∀ ad, aa = some ad → ad.block ≠ b
  W : ∀ i, i < n → ∃ b off, wa = some ⟨b, off, none⟩ ∧ lo ≤ b ∧ b < hi ∧ w.there b (off + i) 1 ∧ ∀ ad, aa = some ad → ad.block ≠ b
  A : ∀ h, h < m → ∃ b off av cap, aa = some ⟨b, off, none⟩ ∧ lo ≤ b ∧ b < hi ∧ w.cell? ⟨b, off + h, none⟩ = some (.slice av (dn h) cap) ∧ ∀ j, j < dn h → ∃ b' off', av = some ⟨b', off', none⟩ ∧ lo ≤ b' ∧ b' < hi ∧ b ≠ b' ∧ w.there b' (off' + j * 2) 2
theorem OV.write {lo hi : Nat} {w : World} {k n m : Nat} {dn : Nat → Nat} {sa wa aa : Option Addr} (h : OV lo hi w k n m dn sa wa aa) (x o : Nat) (vs : List Value) (hx : ∀ ad, aa = some ad → ad.block ≠ x) : OV lo hi (w.setCells x o vs) k n m dn sa wa aa := by
  have tt := touch_setCells x vs o w
  have ht := h.top
  refine ⟨Nat.le_trans h.top tt.size, fun i hi => ?_, fun i hi => ?_, fun q hq => ?_⟩
  · obtain ⟨b, off, e, h1, h2, h3, h4⟩ := h.S i hi
    exact ⟨b, off, e, h1, h2, World.there_setCells h3 _ _ _, h4⟩
  · obtain ⟨b, off, e, h1, h2, h3, h4⟩ := h.W i hi
    exact ⟨b, off, e, h1, h2, World.there_setCells h3 _ _ _, h4⟩
  · obtain ⟨b, off, av, cap, e, hlo, hb, hc, hr⟩ := h.A q hq
    refine ⟨b, off, av, cap, e, hlo, hb, (World.cell?_of_block (a := ⟨b, off + q, none⟩) (tt.block b (by omega) (hx _ e))).trans hc, fun j hj => ?_⟩
    obtain ⟨b', off', e', h1, h2, h3, h4⟩ := hr j hj
    exact ⟨b', off', e', h1, h2, h3, World.there_setCells h4 _ _ _⟩
theorem OV.below {lo hi : Nat} {w w' : World} {k n m : Nat} {dn : Nat → Nat} {sa wa aa : Option Addr} (h : OV lo hi w k n m dn sa wa aa) (hb : Below hi w w') : OV lo hi w' k n m dn sa wa aa := by
  have ht := h.top
  refine ⟨Nat.le_trans h.top hb.size, fun i hi => ?_, fun i hi => ?_, fun q hq => ?_⟩
  · obtain ⟨b, off, e, h1, h2, h3, h4⟩ := h.S i hi
    exact ⟨b, off, e, h1, h2, there_block h3 (hb.block b h2), h4⟩
  · obtain ⟨b, off, e, h1, h2, h3, h4⟩ := h.W i hi
    exact ⟨b, off, e, h1, h2, there_block h3 (hb.block b h2), h4⟩
  · obtain ⟨b, off, av, cap, e, hlo, hbb, hc, hr⟩ := h.A q hq
    refine ⟨b, off, av, cap, e, hlo, hbb, (World.cell?_of_block (a := ⟨b, off + q, none⟩) (hb.block b hbb)).trans hc, fun j hj => ?_⟩
    obtain ⟨b', off', e', h1, h2, h3, h4⟩ := hr j hj
    exact ⟨b', off', e', h1, h2, h3, there_block h4 (hb.block b' h2)⟩
theorem OV.keep {lo hi : Nat} {w w' : World} {k n m : Nat} {dn : Nat → Nat} {sa wa aa : Option Addr} (h : OV lo hi w k n m dn sa wa aa) {S : Nat → Prop} (ht : Touch w w' S) (hs : ∀ q, S q → q < lo) : OV lo hi w' k n m dn sa wa aa := by
  have htop := h.top
  have bk : ∀ q, lo ≤ q → q < hi → w'.heap[q]? = w.heap[q]? := fun q h1 h2 => ht.block q (by omega) (fun e => by have := hs q e; omega)
  refine ⟨Nat.le_trans h.top ht.size, fun i hi => ?_, fun i hi => ?_, fun q hq => ?_⟩
  · obtain ⟨b, off, e, h1, h2, h3, h4⟩ := h.S i hi
    exact ⟨b, off, e, h1, h2, there_block h3 (bk b h1 h2), h4⟩
  · obtain ⟨b, off, e, h1, h2, h3, h4⟩ := h.W i hi
    exact ⟨b, off, e, h1, h2, there_block h3 (bk b h1 h2), h4⟩
  · obtain ⟨b, off, av, cap, e, hlo, hbb, hc, hr⟩ := h.A q hq
    refine ⟨b, off, av, cap, e, hlo, hbb, (World.cell?_of_block (a := ⟨b, off + q, none⟩) (bk b hlo hbb)).trans hc, fun j hj => ?_⟩
    obtain ⟨b', off', e', h1, h2, h3, h4⟩ := hr j hj
    exact ⟨b', off', e', h1, h2, h3, there_block h4 (bk b' h1 h2)⟩
theorem OV.set {lo hi : Nat} {w : World} {k n m : Nat} {dn : Nat → Nat} {sa wa aa : Option Addr} (h : OV lo hi w k n m dn sa wa aa) (b o : Nat) (v : Value) (hx : ∀ ad, aa = some ad → ad.block ≠ b) : OV lo hi (w.setCell ⟨b, o, none⟩ v) k n m dn sa wa aa := h.write b o [v] hx
theorem there_set {w : World} {b o n : Nat} (h : w.there b o n) (x y : Nat) (v : Value) : (w.setCell ⟨x, y, none⟩ v).there b o n := World.there_setCells h x y [v]
theorem there_cell {w : World} {b o n : Nat} (h : w.there b o n) (j : Nat) (hj : j < n) : (∃ u, w.cell? ⟨b, o + j, none⟩ = some u) ∧ w.frozen? ⟨b, o + j, none⟩ = false :=
  ⟨Option.isSome_iff_exists.1 (h j hj).1, (h j hj).2⟩
end KV
end Go.Proofs.Ytdflicgjkleonaa
namespace Go.Proofs.Ytdflicgjkleonaa
open Go.RowKit
namespace KV
variable {K : Kd} {P : Par} {st : St K} {base : Nat} {v : Value} {w w' : World}
theorem told_keep {S : Nat → Prop} (h : Told K P st base v w) (ht : Touch w w' S) (hs : ∀ q, S q → q < base) : Told K P st base v w' := by
  obtain ⟨blk, c, g, sv, rfl, H, G, GS, R, hg, hne⟩ := h
  exact ⟨blk, c, g, sv, rfl, H.touch ht (fun r x e he => by have := H.new r x e; have := hs _ he; omega), G, GS, R.block (ht.block g R.lt (fun he => by have := hs _ he; omega)), hg, hne⟩
theorem told_ov (h : Told K P st base v w) : ∃ sa sc wa wc aa ac en, v = .tuple #[.agg #[.slice sa st.k sc, .slice wa P.n wc, .bool en], .slice aa P.nh ac, .int .i64 0] ∧ OV base w.heap.size w st.k P.n P.nh st.done sa wa aa := by
  obtain ⟨blk, c, g, sv, rfl, H, G, GS, R, hg, hne⟩ := h
  obtain ⟨A, eA, hA⟩ := G.answers
  obtain ⟨sa, sc, rfl⟩ := GS.isSlice'
  refine ⟨sa, sc, _, _, _, _, _, rfl, Nat.le_refl _, fun i hi => ?_, fun i hi => ?_, fun q hq => ?_⟩
  · rcases GS with ⟨h0, _, _⟩ | ⟨cap, F, e, hc, hk, hm, hp⟩
    · omega
    · cases e
      refine ⟨blk .steps, 0, rfl, H.new _ _ hc, H.lt hc, rowIs.there (H.row _ _ hc) ?_, fun ad e => ?_⟩
      · show 0 + i * 6 + 6 ≤ sc * 6
        omega
      · cases e
        exact H.ne eA hc (by decide)
  · obtain ⟨c1, c2, ⟨F, hrow, hF⟩, c4⟩ := R
    refine ⟨g, 0, rfl, hg, hrow.lt, rowIs.there hrow (by omega), fun ad e => ?_⟩
    cases e
    exact hne _ _ eA
  · have a := hA q hq
    rcases a with ⟨h0, ev, _⟩ | ⟨cap, F, ev, hc, hk, hm, hp⟩
    · refine ⟨blk .answers, 0, none, 0, rfl, H.new _ _ eA, H.lt eA, ?_, fun j hj => by omega⟩
      have := H.cell eA (i := q) hq
      simp only at this
      rw [Nat.zero_add, this, ev, h0]
    · refine ⟨blk .answers, 0, some ⟨blk (.arow q), 0, none⟩, cap, rfl, H.new _ _ eA, H.lt eA, ?_, fun j hj => ⟨blk (.arow q), 0, rfl, H.new _ _ hc, H.lt hc, H.ne eA hc (by intro h; cases h), rowIs.there (H.row _ _ hc) ?_⟩⟩
      · have := H.cell eA (i := q) hq
        simp only at this
        rw [Nat.zero_add, this, ev]
      · show 0 + j * 2 + 2 ≤ cap * 2
        omega
end KV
end Go.Proofs.Ytdflicgjkleonaa
namespace Go.Proofs.Ytdflicgjkleonaa
open Go.RowKit
namespace KV
structure Kp (V : Vw) (D : Nat → Value → World → Prop) : Prop where
  keep : ∀ {base : Nat} {v : Value} {w w' : World} {S : Nat → Prop}, D base v w → Touch w w' S → (∀ q, S q → q < base) → D base v w'
  sees : ∀ {base : Nat} {v : Value} {w : World}, D base v w → TV w V v
structure Kp3 (V : Vw) (D : Nat → Value → World → Prop) : Prop extends Kp V D where
  own : ∀ {base : Nat} {w : World} {sa wa aa : Option Addr} {sc wc ac : Nat} {en : Bool} {er : Int}, D base (.tuple #[.agg #[.slice sa V.k sc, .slice wa V.n wc, .bool en], .slice aa V.m ac, .int .i64 er]) w → OV base w.heap.size w V.k V.n V.m V.dn sa wa aa
variable {K : Kd} {P : Par} {st : St K} {base : Nat} {v : Value} {w w' : World}
theorem rtold_keep {rep : List Value → K.σ → Prop} {S : Nat → Prop} (h : RTold K rep P st base v w) (ht : Touch w w' S) (hs : ∀ q, S q → q < base) : RTold K rep P st base v w' := by
  obtain ⟨blk, c, un, capw, sv, rfl, H, G⟩ := h
  exact ⟨blk, c, un, capw, sv, rfl, H.touch ht (fun r x e he => by have := H.new r x e; have := hs _ he; omega), G⟩
def nilV (er : Int) : Vw := ⟨0, fun _ => ⟨0, 0, 0, 0, 0, false⟩, 0, fun _ => 0, false, 0, fun _ => 0, fun _ _ => ⟨false, 0⟩, er⟩
theorem nil_tv (w : World) (er : Int) : TV w (nilV er) (errVal er) := ⟨none, 0, none, 0, none, 0, rfl, fun j hj => absurd hj (Nat.not_lt_zero j), fun j hj => absurd hj (Nat.not_lt_zero j), fun j hj => absurd hj (Nat.not_lt_zero j)⟩
theorem nil_kp (er : Int) : Kp3 (nilV er) (fun _ v _ => v = errVal er) where
  keep := fun h _ _ => h
  sees := fun {_ _ w} h => by subst h; exact nil_tv w er
  own := fun {base w sa wa aa _ _ _ _ _} h => ⟨Nat.le_refl _, fun i hi => absurd hi (Nat.not_lt_zero i), fun i hi => absurd hi (Nat.not_lt_zero i), fun i hi => absurd hi (Nat.not_lt_zero i)⟩
theorem lviews3 (K : Kd) (rep : List Value → K.σ → Prop) (want : Nat) (P : Par) (f : Nat → Int) (most : Int) : ∃ (V : Vw) (D R : Nat → Value → World → Prop), V.k ≤ 65536 ∧ V.n ≤ 4096 ∧ V.m ≤ 8 ∧ (∀ h, h < V.m → V.dn h ≤ 256) ∧ Kp3 V D ∧ Kp V R ∧
    (∀ w e w', RLAll K rep want w P f most e w' → Below w.heap.size w w' ∧ ∃ v, e = .returned v ∧ R w.heap.size v w') ∧ (∀ w e w', LAll K want w P f most e w' → Below w.heap.size w w' ∧ ∃ v, e = .returned v ∧ D w.heap.size v w') := by
  by_cases hE : ∃ er, LErr K want P most er
  · obtain ⟨er, hE⟩ := hE
    refine ⟨nilV er, fun _ v _ => v = errVal er, fun _ v _ => v = errVal er, Nat.zero_le _, Nat.zero_le _, Nat.zero_le _, fun _ _ => Nat.zero_le _, nil_kp er, (nil_kp er).toKp, ?_, ?_⟩
    · rintro w e w' ⟨hb, ⟨er', h, rfl⟩ | ⟨h0, h1, h2, _⟩⟩
      · obtain rfl := h.one hE
        exact ⟨hb, _, rfl, rfl⟩
      · exact absurd ⟨h1, h2⟩ (hE.not h0)
    · rintro w e w' ⟨hb, ⟨er', h, rfl⟩ | ⟨h0, h1, h2, _⟩⟩
      · obtain rfl := h.one hE
        exact ⟨hb, _, rfl, rfl⟩
      · exact absurd ⟨h1, h2⟩ (hE.not h0)
  · by_cases hf : Fine P most ∧ AllOk K P ∧ ∀ h, h < P.nh → (runSt P (st0 K P f) most.toNat).done h ≤ 256
    · obtain ⟨hf, hall, hd⟩ := hf
      have hk : (runSt P (st0 K P f) most.toNat).k ≤ 65536 := by
        have := (runSt_k P (st0 K P f) rfl most.toNat).1
        have := hf.2.2.2
        omega
      have hnh : P.nh ≤ 8 := by rcases Nat.lt_or_ge 8 P.nh with l | l; exact absurd (.inl l) hf.2.1; exact l
      refine ⟨⟨(runSt P (st0 K P f) most.toNat).k, (runSt P (st0 K P f) most.toNat).s, P.n, (runSt P (st0 K P f) most.toNat).f, decide (cnt ((runSt P (st0 K P f) most.toNat).going P) P.nh = 0), P.nh, (runSt P (st0 K P f) most.toNat).done, (runSt P (st0 K P f) most.toNat).ans, 0⟩, fun base v w => Told K P (runSt P (st0 K P f) most.toNat) base v w, fun base v w => RTold K rep P (runSt P (st0 K P f) most.toNat) base v w, hk, hf.1, hnh, hd, ⟨⟨fun h ht hs => told_keep h ht hs, ?_⟩, ?_⟩, ⟨fun h ht hs => rtold_keep h ht hs, ?_⟩, ?_, ?_⟩
      · rintro base v w ⟨blk, c, g, sv, rfl, H, G, GS, R, hg, hne⟩
        obtain ⟨sa, sc, rfl⟩ := GS.isSlice'
        exact ⟨sa, sc, _, _, _, _, rfl, GS.seesS H, R.sees, seesA_of G.answers H⟩
      · intro base w sa wa aa sc wc ac en er h
        obtain ⟨_, _, _, _, _, _, _, ev, ov⟩ := told_ov h
        cases ev
        exact ov
      · rintro base v w ⟨blk, c, un, capw, sv, rfl, H, G⟩
        obtain ⟨sa, sc, rfl⟩ := G.steps.isSlice'
        exact ⟨sa, sc, _, _, _, _, rfl, G.steps.seesS H, G.seesW H, seesA_of G.answers H⟩
      · rintro w e w' ⟨hb, ⟨er', h, rfl⟩ | ⟨h0, h1, h2, v, rfl, hT⟩⟩
        · exact absurd ⟨_, h⟩ hE
        · exact ⟨hb, _, rfl, hT⟩
      · rintro w e w' ⟨hb, ⟨er', h, rfl⟩ | ⟨h0, h1, h2, v, rfl, hT⟩⟩
        · exact absurd ⟨_, h⟩ hE
        · exact ⟨hb, _, rfl, hT⟩
    · refine ⟨nilV 0, fun _ _ _ => False, fun _ _ _ => False, Nat.zero_le _, Nat.zero_le _, Nat.zero_le _, fun _ _ => Nat.zero_le _, ⟨⟨fun h => h.elim, fun h => h.elim⟩, fun h => h.elim⟩, ⟨fun h => h.elim, fun h => h.elim⟩, ?_, ?_⟩
      · rintro w e w' ⟨hb, ⟨er', h, rfl⟩ | ⟨h0, h1, h2, v, rfl, blk, c, un, capw, sv, rfl, H, G⟩⟩
        · exact absurd ⟨_, h⟩ hE
        · exact absurd ⟨h1, h2, fun h hh => Nat.le_trans (G.doneLe h hh) (G.jobs h hh)⟩ hf
      · rintro w e w' ⟨hb, ⟨er', h, rfl⟩ | ⟨h0, h1, h2, v, rfl, blk, c, g, sv, rfl, H, G, GS, R, hg, hne⟩⟩
        · exact absurd ⟨_, h⟩ hE
        · exact absurd ⟨h1, h2, fun h hh => Nat.le_trans (G.doneLe h hh) (G.jobs h hh)⟩ hf
end KV
end Go.Proofs.Ytdflicgjkleonaa
namespace Go.Proofs.Ytdflicgjkleonaa
open Go.RowKit
namespace Epoch
open KV
theorem views3 (sh : Shp) (P : Par) (f : Nat → Int) (most : Int) (hn63 : P.nh ≤ 9223372036854775807) (hf : ∀ i, i < P.n → 0 ≤ f i ∧ f i ≤ 18446744073709551615) (hjw : ∀ h, h < P.nh → ∀ j, j < P.jn h → (P.jb h j).wf) :
    ∃ (V : Vw) (D R : Nat → Value → World → Prop), V.k ≤ 65536 ∧ V.n ≤ 4096 ∧ V.m ≤ 8 ∧ (∀ h, h < V.m → V.dn h ≤ 256) ∧ Kp3 V D ∧ Kp V R ∧
    (∀ (w : World) ao cap aoh caph aos caps, Sees w w.heap.size ao P.n f → (ao = none → P.n = 0 ∧ cap = 0) → SeesH w w.heap.size aoh P.nh P.jn P.jb → SeesI w w.heap.size aos P.ns P.sched →
      Calls Try.prog 10 #[sh.val, .slice ao P.n cap, .slice aoh P.nh caph, .slice aos P.ns caps, .int .i64 most] w fun e w' => Below w.heap.size w w' ∧ ∃ v, e = .returned v ∧ R w.heap.size v w') ∧
    (∀ (w : World) ao cap aoh caph aos caps, Sees w w.heap.size ao P.n f → SeesH w w.heap.size aoh P.nh P.jn P.jb → SeesI w w.heap.size aos P.ns P.sched →
      Calls Try.prog 11 #[sh.val, .slice ao P.n cap, .slice aoh P.nh caph, .slice aos P.ns caps, .int .i64 most] w fun e w' => Below w.heap.size w w' ∧ ∃ v, e = .returned v ∧ D w.heap.size v w') := by
  by_cases hr : sh.f < 1 ∨ 64 < sh.f
  · refine ⟨nilV 120, fun _ v _ => v = errVal 120, fun _ v _ => v = errVal 120, Nat.zero_le _, Nat.zero_le _, Nat.zero_le _, fun _ _ => Nat.zero_le _, nil_kp 120, (nil_kp 120).toKp, ?_, ?_⟩
    · intro w ao cap aoh caph aos caps _ _ _ _
      exact (L11.rplay_shape (by decide) (fun w' => rsize_bad w' sh hr)).mono fun e w' ⟨he, hb⟩ => ⟨hb, _, he, rfl⟩
    · intro w ao cap aoh caph aos caps _ _ _
      exact (play_shape hr).mono fun e w' ⟨he, hb⟩ => ⟨hb, _, he, rfl⟩
  · have h1 : 1 ≤ sh.f := by omega
    have h2 : sh.f ≤ 64 := by omega
    obtain ⟨want, hwant⟩ : ∃ want : Nat, (want : Int) = 9 + sh.f := ⟨(9 + sh.f).toNat, by omega⟩
    obtain ⟨V, D, R, v1, v2, v3, v4, v7, v8, v5, v6⟩ := lviews3 (kEpoch sh.f) (repE sh) want P f most
    refine ⟨V, D, R, v1, v2, v3, v4, v7, v8, ?_, ?_⟩
    · intro w ao cap aoh caph aos caps S hnil SH SI
      exact (L11.rplay_all (by omega) (fun w' => by rw [hwant]; exact rsize_ok w' sh h1 h2) (rkind h1 h2) S hnil hf SH hn63 SI hjw).mono fun e w' h => v5 _ _ _ h
    · intro w ao cap aoh caph aos caps S SH SI
      exact (play_all h1 h2 hwant S hf SH hn63 SI hjw).mono fun e w' h => v6 _ _ _ h
end Epoch
end Go.Proofs.Ytdflicgjkleonaa
namespace Go.Proofs.Ytdflicgjkleonaa
open Go.RowKit
namespace KV
structure Owned (V : Vw) (D : Nat → Value → World → Prop) : Prop where
  keep : ∀ {base : Nat} {v : Value} {w w' : World} {S : Nat → Prop}, D base v w → Touch w w' S → (∀ q, S q → q < base) → D base v w'
  sees : ∀ {base : Nat} {v : Value} {w : World}, D base v w → TV w V v
  own : ∀ {base : Nat} {v : Value} {w : World}, D base v w → ∃ sa sc wa wc aa ac en, v = .tuple #[.agg #[.slice sa V.k sc, .slice wa V.n wc, .bool en], .slice aa V.m ac, .int .i64 0] ∧ OV base w.heap.size w V.k V.n V.m V.dn sa wa aa
theorem Owned.none (V : Vw) : Owned V (fun _ _ _ => False) := ⟨fun h => h.elim, fun h => h.elim, fun h => h.elim⟩
end KV
end Go.Proofs.Ytdflicgjkleonaa
namespace Go.Proofs.Ytdflicgjkleonaa
open Go.RowKit
namespace L11
open KV
variable {w : World} {lo hi k n m sc wc ac : Nat} {dn : Nat → Nat} {sa wa aa : Option Addr} {en : Bool}
set_option maxHeartbeats 8000000 in
theorem spoil_any (H : OV lo hi w k n m dn sa wa aa) (hk : k ≤ 65536) (hn : n ≤ 4096) (hm : m ≤ 8) (hd : ∀ h, h < m → dn h ≤ 256) :
    Calls Try.prog 24 #[.agg #[.slice sa k sc, .slice wa n wc, .bool en], .slice aa m ac] w fun e w' => e = .returned (.tuple #[]) ∧ Touch w w' (fun q => lo ≤ q ∧ q < hi) := by
  obtain ⟨W0, hW0⟩ : ∃ W0, w.alloc (.cells #[.slice sa k sc, .slice wa n wc, .bool en] 32) = W0 := ⟨_, rfl⟩
  have top := H.top
  have T0 := hide (show Touch w W0 (fun q => lo ≤ q ∧ q < hi) from by rw [← hW0]; exact (Touch.refl w _).alloc _)
  have H0 := hide (show OV lo hi W0 k n m dn sa wa aa from by rw [← hW0]; exact H.below ((Below.refl hi w).alloc H.top _))
  have sz0 : W0.heap.size = w.heap.size + 1 := by rw [← hW0]; simp
  have R0 : W0.rowIs w.heap.size 32 3 (lrow [.slice sa k sc, .slice wa n wc, .bool en]) := by rw [← hW0]; exact rowL_alloc w [.slice sa k sc, .slice wa n wc, .bool en] _ rfl
  have HR0 := hide R0
  have c0 : W0.cell? ⟨w.heap.size, 0, none⟩ = some (.slice sa k sc) := R0.cell (i := 0) (by decide)
  have HD := hide hd
  clear R0 H hd c0
  go_enter Try.func24, Try.ntmps24
  go_wp2_with fail
  go_loopw [4] (fun i wr => ∃ q : Nat, q ≤ k ∧ i = .int .i64 q ∧ OV lo hi wr k n m dn sa wa aa ∧ Touch W0 wr (fun q => lo ≤ q ∧ q < hi)) (fun i _ => k - (intOf i).toNat)
  case atStart => exact ⟨0, Nat.zero_le _, rfl, H0.out, Touch.refl _ _⟩
  case round =>
    obtain ⟨q, hq, rfl, ho, ht⟩ := hrel
    have hs1 := ht.size
    have r1 := HR0.out.of_block (ht.block w.heap.size (by omega) (by omega))
    have d0 : wr.cell? ⟨w.heap.size, 0, none⟩ = some (.slice sa k sc) := r1.cell (i := 0) (by decide)
    have d1 : wr.cell? ⟨w.heap.size, 1, none⟩ = some (.slice wa n wc) := r1.cell (i := 1) (by decide)
    clear r1
    by_cases hlt : q < k
    · have hlt' : (q : Int) < k := by omega
      obtain ⟨b, off, rfl, hb1, hb2, hth, hne⟩ := ho.S q hlt
      obtain ⟨⟨u0, hu0⟩, fz0⟩ := there_cell hth 0 (by decide)
      obtain ⟨⟨u1, hu1⟩, fz1⟩ := there_cell hth 1 (by decide)
      obtain ⟨⟨u2, hu2⟩, fz2⟩ := there_cell hth 2 (by decide)
      obtain ⟨⟨u3, hu3⟩, fz3⟩ := there_cell hth 3 (by decide)
      obtain ⟨⟨u4, hu4⟩, fz4⟩ := there_cell hth 4 (by decide)
      obtain ⟨⟨u5, hu5⟩, fz5⟩ := there_cell hth 5 (by decide)
      rw [Nat.add_zero] at hu0 fz0
      have HO := hide ho
      have HT := hide ht
      have HNE := hide hne
      clear ho ht hth hne
      go_wp2_with fail
      go_roundw
      case rel =>
        refine ⟨q + 1, by omega, by go_num, ?_, ?_⟩
        · repeat (with_reducible refine OV.set ?_ _ _ _ HNE.out)
          exact HO.out
        · repeat (with_reducible refine Touch.setCell ?_ _ ?side _; case side => simp; omega)
          exact HT.out
      case measure => simp [intOf]; omega
    · have hlt' : ¬ (q : Int) < k := by omega
      have HO1 := hide ho
      have HT1 := hide ht
      obtain ⟨W1, hW1⟩ : ∃ W1, wr = W1 := ⟨_, rfl⟩
      subst hW1
      clear ho ht
      go_wp2_with fail
      go_loopw [5] (fun i w2 => ∃ q : Nat, q ≤ n ∧ i = .int .i64 q ∧ OV lo hi w2 k n m dn sa wa aa ∧ Touch W0 w2 (fun q => lo ≤ q ∧ q < hi)) (fun i _ => n - (intOf i).toNat)
      case atStart => exact ⟨0, Nat.zero_le _, rfl, HO1.out, HT1.out⟩
      case round =>
        obtain ⟨q', hq', rfl, ho, ht⟩ := hrel
        have hs2 := ht.size
        have r2 := HR0.out.of_block (ht.block w.heap.size (by omega) (by omega))
        have f1 : wr.cell? ⟨w.heap.size, 1, none⟩ = some (.slice wa n wc) := r2.cell (i := 1) (by decide)
        clear r2
        by_cases hlt2 : q' < n
        · have hlt2' : (q' : Int) < n := by omega
          obtain ⟨b, off, rfl, hb1, hb2, hth, hne⟩ := ho.W q' hlt2
          obtain ⟨⟨u0, hu0⟩, fz0⟩ := there_cell hth 0 (by decide)
          rw [Nat.add_zero] at hu0 fz0
          have HO := hide ho
          have HT := hide ht
          have HNE := hide hne
          clear ho ht hne hth
          go_wp2_with fail
          go_roundw
          case rel =>
            refine ⟨q' + 1, by omega, by go_num, ?_, ?_⟩
            · repeat (with_reducible refine OV.set ?_ _ _ _ HNE.out)
              exact HO.out
            · repeat (with_reducible refine Touch.setCell ?_ _ ?side _; case side => simp; omega)
              exact HT.out
          case measure => simp [intOf]; omega
        · have hlt2' : ¬ (q' : Int) < n := by omega
          have HO2 := hide ho
          have HT2 := hide ht
          clear ho ht
          go_wp2_with fail
          go_loopw [6] (fun i w3 => ∃ q : Nat, q ≤ m ∧ i = .int .i64 q ∧ OV lo hi w3 k n m dn sa wa aa ∧ Touch W0 w3 (fun q => lo ≤ q ∧ q < hi)) (fun i _ => m - (intOf i).toNat)
          case atStart => exact ⟨0, Nat.zero_le _, rfl, HO2.out, HT2.out⟩
          case round =>
            obtain ⟨h, hh, rfl, ho, ht⟩ := hrel
            have hs3 := ht.size
            by_cases hlt3 : h < m
            · have hlt3' : (h : Int) < m := by omega
              obtain ⟨b, off, av, cap, rfl, -, hb2, hc, hrow⟩ := ho.A h hlt3
              have hdn := HD.out h hlt3
              have HO := hide ho
              have HT := hide ht
              have HRW := hide hrow
              clear ho ht hrow
              go_wp2_with fail
              go_loopw [7] (fun i w4 => ∃ q : Nat, q ≤ dn h ∧ i = .int .i64 q ∧ OV lo hi w4 k n m dn sa wa (some ⟨b, off, none⟩) ∧ Touch W0 w4 (fun q => lo ≤ q ∧ q < hi) ∧ (∀ j, j < dn h → ∃ b' off', av = some ⟨b', off', none⟩ ∧ lo ≤ b' ∧ b' < hi ∧ b ≠ b' ∧ w4.there b' (off' + j * 2) 2) ∧ w4.cell? ⟨b, off + h, none⟩ = some (.slice av (dn h) cap)) (fun i _ => dn h - (intOf i).toNat)
              case atStart => exact ⟨0, Nat.zero_le _, rfl, HO.out, HT.out, HRW.out, hc⟩
              case round =>
                obtain ⟨j, hj, rfl, ho, ht, hrow, hc4⟩ := hrel
                by_cases hlt4 : j < dn h
                · have hlt4' : (j : Int) < dn h := by omega
                  obtain ⟨b', off', rfl, h1, h2, h3, h4⟩ := hrow j hlt4
                  have HO' := hide ho
                  have HT' := hide ht
                  have HRW' := hide hrow
                  obtain ⟨⟨u0, hu0⟩, fz0⟩ := there_cell h4 0 (by decide)
                  obtain ⟨⟨u1, hu1⟩, fz1⟩ := there_cell h4 1 (by decide)
                  rw [Nat.add_zero] at hu0 fz0
                  clear ho ht hrow h4
                  go_wp2_with fail
                  go_roundw
                  case rel =>
                    refine ⟨j + 1, by omega, by go_num, ?_, ?_, fun j' hj' => ?_, ?_⟩
                    · repeat (with_reducible refine OV.set ?_ _ _ _ (fun ad e => by cases e; exact h3))
                      exact HO'.out
                    · repeat (with_reducible refine Touch.setCell ?_ _ ?side _; case side => simp; omega)
                      exact HT'.out
                    · obtain ⟨b2, off2, e2, g1, g2, g3, g4⟩ := HRW'.out j' hj'
                      exact ⟨b2, off2, e2, g1, g2, g3, there_set (there_set g4 _ _ _) _ _ _⟩
                    · have t1 := Touch.setCell (S := fun k => k = b') (Touch.refl wr _) ⟨b', off' + j * 2, none⟩ (.inl rfl) (.bool false)
                      have t2 := Touch.setCell (S := fun k => k = b') t1 ⟨b', off' + j * 2 + 1, none⟩ (.inl rfl) (.int .u64 81)
                      exact (World.cell?_of_block (a := ⟨b, off + h, none⟩) (t2.block b (World.block_lt_of_cell? _ _ hc4) h3)).trans hc4
                  case measure => simp [intOf]; omega
                · have hlt4' : ¬ (j : Int) < dn h := by omega
                  have HO' := hide ho
                  have HT' := hide ht
                  clear ho ht hrow
                  go_wp2_with fail
                  go_roundw
                  case rel => exact ⟨h + 1, by omega, by go_num, HO'.out, HT'.out⟩
                  case measure => simp [intOf]; omega
            · have hlt3' : ¬ (h : Int) < m := by omega
              have HT3 := hide ht
              clear ho ht
              go_wp2_with fail
              exact bodyPost_end (results_none (by rfl) _ _ _) rfl ⟨rfl, T0.out.trans' HT3.out (fun x _ hx => hx)⟩
end L11
end Go.Proofs.Ytdflicgjkleonaa
