/-
  Lemmas: PlayAllG, LayP.
-/
import Derived.Test.YtmkkkknalldckaaTr10
import Derived.Test.YtmkkkknalldckaaTr06
/-
  Play, whatever the kind of tasks and whatever it is given: an error, or the run.
-/
namespace Go.Proofs.Ytmkkkknalldckaa
open Go.RowKit
set_option linter.unusedVariables false
set_option linter.unusedSimpArgs false

def Fine (P : Par) (most : Int) : Prop := P.n ≤ 4096 ∧ ¬ LongHands P.nh P.jn ∧ P.ns ≤ 65536 ∧ 0 ≤ most ∧ most ≤ 65536
/-- The error that is told. -/
def ErrOf (K : Kd) (P : Par) (most er : Int) : Prop :=
  (4096 < P.n ∧ er = 1) ∨ (P.n ≤ 4096 ∧ (LongHands P.nh P.jn ∨ 65536 < P.ns ∨ 65536 < most) ∧ er = 1) ∨ (P.n ≤ 4096 ∧ ¬ LongHands P.nh P.jn ∧ P.ns ≤ 65536 ∧ most < 0 ∧ er = 2) ∨ (Fine P most ∧ FirstErr K P er)
theorem ErrOf.ne {K : Kd} {P : Par} {most er : Int} (h : ErrOf K P most er) : er ≠ 0 := by
  rcases h with ⟨_, rfl⟩ | ⟨_, _, rfl⟩ | ⟨_, _, _, _, rfl⟩ | ⟨_, _, _, _, _, _, h, _⟩
  · decide
  · decide
  · decide
  · exact h

namespace OfAny
variable {K : Kd} {mk : Value} {w : World} {ao aoh aos : Option Addr} {cap caph caps : Nat} {P : Par} {f : Nat → Int} {most : Int}

def AllB (K : Kd) (w : World) (P : Par) (f : Nat → Int) (most : Int) (e : Ending) (w' : World) : Prop :=
  Below w.heap.size w w' ∧ ((∃ er, ErrOf K P most er ∧ e = .returned (errVal er)) ∨ (Fine P most ∧ AllOk K P ∧ ∃ v, e = .returned v ∧ Told K P (runSt P (st0 K P f) most.toNat) (w.heap.size + 1) v w'))

theorem play_all (S : Sees w w.heap.size ao P.n f) (hf : ∀ i, i < P.n → 0 ≤ f i ∧ f i ≤ 18446744073709551615) (SH : SeesH w w.heap.size aoh P.nh P.jn P.jb) (hn63 : P.nh ≤ 9223372036854775807) (SI : SeesI w w.heap.size aos P.ns P.sched) (hjw : ∀ h, h < P.nh → ∀ j, j < P.jn h → (P.jb h j).wf) (IK : IsKind K) (MK : ∀ w', Below w.heap.size w w' → MakesAt K mk w') :
    Calls Try.prog 29 #[.slice ao P.n cap, .slice aoh P.nh caph, .slice aos P.ns caps, .int .i64 most, mk] w (AllB K w P f most) := by
  by_cases h1 : 4096 < P.n
  · exact (play_words h1).mono fun e w' ⟨he, hb⟩ => ⟨hb, .inl ⟨1, .inl ⟨h1, rfl⟩, he⟩⟩
  · by_cases h2 : LongHands P.nh P.jn ∨ 65536 < P.ns ∨ 65536 < most
    · exact (play_err S hf (by omega) SH hn63 (er := 1) (by decide) (fun w' hb => checkRun_long ((SH.below ((Below.refl _ _).alloc (Nat.le_refl _) _) (Nat.le_refl _)).below hb (by omega)) hn63 most h2)).mono fun e w' ⟨he, hb⟩ => ⟨hb, .inl ⟨1, .inr (.inl ⟨by omega, h2, rfl⟩), he⟩⟩
    · have hl : ¬ LongHands P.nh P.jn := fun h => h2 (.inl h)
      have hs : P.ns ≤ 65536 := by rcases Nat.lt_or_ge 65536 P.ns with l | l; exact absurd (.inr (.inl l)) h2; exact l
      have hm : most ≤ 65536 := by rcases Int.lt_or_le 65536 most with l | l; exact absurd (.inr (.inr l)) h2; exact l
      by_cases h3 : most < 0
      · exact (play_err S hf (by omega) SH hn63 (er := 2) (by decide) (fun w' hb => checkRun_arg ((SH.below ((Below.refl _ _).alloc (Nat.le_refl _) _) (Nat.le_refl _)).below hb (by omega)) hl hs most h3)).mono fun e w' ⟨he, hb⟩ => ⟨hb, .inl ⟨2, .inr (.inr (.inl ⟨by omega, hl, hs, h3, rfl⟩)), he⟩⟩
      · obtain ⟨m, rfl⟩ : ∃ m : Nat, most = m := ⟨most.toNat, by omega⟩
        have hF : Fine P m := ⟨by omega, hl, hs, by omega, hm⟩
        refine (play_run S hf (by omega) SH hl SI hs m (by omega) hjw IK MK).mono fun e w' ⟨hb, hc⟩ => ⟨hb, ?_⟩
        rcases hc with ⟨hok, v, rfl, ht⟩ | ⟨er, hfe, rfl⟩
        · exact .inr ⟨hF, hok, v, rfl, by simpa using ht⟩
        · exact .inl ⟨er, .inr (.inr (.inr ⟨hF, hfe⟩)), rfl⟩
end OfAny
end Go.Proofs.Ytmkkkknalldckaa

/-
  layer.Play, whatever the layer: a wrong number of words, or turn's Play over the layer's maker.
-/
namespace Go.Proofs.Ytmkkkknalldckaa
open Go.RowKit
set_option linter.unusedVariables false
set_option linter.unusedSimpArgs false
set_option maxRecDepth 20000

/-- What a run answers, as a value. -/
def tv3 (sa : Option Addr) (k sc : Nat) (wa : Option Addr) (n wc : Nat) (en : Bool) (aa : Option Addr) (m ac : Nat) (er : Int) : Value :=
  .tuple #[.agg #[.slice sa k sc, .slice wa n wc, .bool en], .slice aa m ac, .int .i64 er]

/-- What a layer's Play tells, where the shape is taken: want words are wanted. -/
def LErr (K : Kd) (want : Nat) (P : Par) (most er : Int) : Prop := (P.n ≠ want ∧ er = 121) ∨ (P.n = want ∧ ErrOf K P most er)
def LAll (K : Kd) (want : Nat) (w : World) (P : Par) (f : Nat → Int) (most : Int) (e : Ending) (w' : World) : Prop :=
  Below w.heap.size w w' ∧ ((∃ er, LErr K want P most er ∧ e = .returned (errVal er)) ∨ (P.n = want ∧ Fine P most ∧ AllOk K P ∧ ∃ v, e = .returned v ∧ Told K P (runSt P (st0 K P f) most.toNat) w.heap.size v w'))

theorem told_touch {K : Kd} {P : Par} {st : St K} {base base' b : Nat} {v : Value} {w w' : World} (h : Told K P st base v w) (ht : Touch w w' (fun k => k = b)) (hb : b < base) (hbb : base' ≤ base) : Told K P st base' v w' := by
  obtain ⟨blk, c, g, sv, rfl, H, G, GS, R, hg, hne⟩ := h
  exact ⟨blk, c, g, sv, rfl, ((H.touch ht (fun r x e he => by have := H.new r x e; omega))).base_le hbb, G, GS, R.block (ht.block g R.lt (fun he => by omega)), by omega, hne⟩
theorem told_shape {K : Kd} {P : Par} {st : St K} {base : Nat} {v : Value} {w : World} (h : Told K P st base v w) : ∃ sa k sc wa n wc en aa m ac, v = tv3 sa k sc wa n wc en aa m ac 0 := by
  obtain ⟨blk, c, g, sv, rfl, H, G, GS, R, hg, hne⟩ := h
  obtain ⟨sa, sc, rfl⟩ := GS.isSlice
  exact ⟨_, _, _, _, _, _, _, _, _, _, rfl⟩

/-- The same run told out of a later world, with memory of the callers' own beneath it. -/
theorem LAll.up {K : Kd} {want : Nat} {w0 w w' w2 : World} {P : Par} {f : Nat → Int} {most : Int} {e : Ending} {b : Nat} (h : LAll K want w P f most e w') (h0 : Below w0.heap.size w0 w) (ht : Touch w' w2 (fun k => k = b)) (hb0 : w0.heap.size ≤ b) (hb : b < w.heap.size) : LAll K want w0 P f most e w2 := by
  obtain ⟨hB, hc⟩ := h
  refine ⟨(h0.trans (hB.mono h0.size)).trans (ht.below (fun k hk => by omega) (Nat.le_trans h0.size hB.size)), ?_⟩
  rcases hc with h | ⟨h1, h2, h3, v, he, hT⟩
  · exact .inl h
  · exact .inr ⟨h1, h2, h3, v, he, told_touch hT ht hb h0.size⟩
theorem LAll.shape {K : Kd} {want : Nat} {w w' : World} {P : Par} {f : Nat → Int} {most : Int} {e : Ending} (h : LAll K want w P f most e w') : ∃ sa k sc wa n wc en aa m ac er, e = .returned (tv3 sa k sc wa n wc en aa m ac er) := by
  rcases h.2 with ⟨er, _, rfl⟩ | ⟨_, _, _, v, rfl, hT⟩
  · exact ⟨none, 0, 0, none, 0, 0, false, none, 0, 0, er, rfl⟩
  · obtain ⟨sa, k, sc, wa, n, wc, en, aa, m, ac, rfl⟩ := told_shape hT
    exact ⟨_, _, _, _, _, _, _, _, _, _, _, rfl⟩

theorem makerOf_any (w : World) (ft : FuncId) (sh : Shp) : Calls Try.prog 30 #[.func (.func ft) #[] #[], sh.val] w fun e w' => e = .returned (mkOf w.heap.size (w.heap.size + 1)) ∧
    w' = (w.alloc (.cells #[.func (.func ft) #[] #[]] 87)).alloc (.cells #[.int .i64 sh.a, .int .i64 sh.b, .int .i64 sh.c, .int .i64 sh.d, .int .i64 sh.e, .int .i64 sh.f] 23) := by
  obtain ⟨s0, s1, s2, s3, s4, s5⟩ := sh
  simp only [Shp.val, mkOf]
  go_enter Try.func30, Try.ntmps30
  go_wp2
  go_ret
  exact ⟨rfl, rfl⟩

variable {K : Kd} {w : World} {ao aoh aos : Option Addr} {cap caph caps : Nat} {P : Par} {f : Nat → Int} {most : Int} {fsz ft : FuncId} {sh : Shp} {want : Nat}

theorem SeesH.up {w : World} {B C : Nat} {aoh : Option Addr} {nh : Nat} {jn : Nat → Nat} {jb : Nat → Nat → Jb} (h : SeesH w B aoh nh jn jb) (hl : B ≤ C) : SeesH w C aoh nh jn jb := fun i hi => by
  obtain ⟨b, off, ao', cap, e, hb, hc, hj⟩ := h i hi
  exact ⟨b, off, ao', cap, e, by omega, hc, fun q hq => by obtain ⟨b', off', e', hb', hc'⟩ := hj q hq; exact ⟨b', off', e', by omega, hc'⟩⟩
theorem SeesI.up {w : World} {B C : Nat} {ao : Option Addr} {n : Nat} {s : Nat → Int} (h : SeesI w B ao n s) (hl : B ≤ C) : SeesI w C ao n s := fun i hi => by
  obtain ⟨b, off, e, hb, hc⟩ := h i hi
  exact ⟨b, off, e, by omega, hc⟩

set_option maxHeartbeats 4000000 in
theorem lay_size_err {er : Int} (her : ¬ er = 0) (hcs : ∀ (args : Array Value) (w : World), (callFunc fsz args).run Try.prog w = .ok (.enter fsz args) w)
    (hS : ∀ w : World, Calls Try.prog fsz #[sh.val] w fun e w' => e = .returned (.tuple #[.int .i64 0, .int .i64 er]) ∧ w.grownBy w' none) :
    Calls Try.prog 16 #[.func (.func fsz) #[] #[], .func (.func ft) #[] #[], sh.val, .slice ao P.n cap, .slice aoh P.nh caph, .slice aos P.ns caps, .int .i64 most] w fun e w' => e = .returned (errVal er) ∧ Below w.heap.size w w' := by
  obtain ⟨s0, s1, s2, s3, s4, s5⟩ := sh
  simp only [Shp.val] at hS ⊢
  have HS := hide hS
  clear hS
  unfold errVal
  go_enter Try.func16, Try.ntmps16
  go_wp2_with fail
  refine (HS.out _).mono ?_
  rintro e w1 ⟨rfl, hg⟩
  have HB := hide ((((Below.refl w.heap.size w).alloc (Nat.le_refl _) (.cells #[.int .i64 s0, .int .i64 s1, .int .i64 s2, .int .i64 s3, .int .i64 s4, .int .i64 s5] 23)).alloc (by simp) (.cells #[.slice none 0 0, .slice none 0 0, .bool false] 32)).trans (below_of_grown_none hg w.heap.size (by simp; omega)))
  have hb := below_of_grown_none hg (w.heap.size + 2) (by simp)
  have z0 := hb.cell (p := ⟨w.heap.size + 1, 0, none⟩) (by simp)
  have z1 := hb.cell (p := ⟨w.heap.size + 1, 1, none⟩) (by simp)
  have z2 := hb.cell (p := ⟨w.heap.size + 1, 2, none⟩) (by simp)
  have y0 := hb.frozen (p := ⟨w.heap.size + 1, 0, none⟩) (by simp)
  have y1 := hb.frozen (p := ⟨w.heap.size + 1, 1, none⟩) (by simp)
  have y2 := hb.frozen (p := ⟨w.heap.size + 1, 2, none⟩) (by simp)
  simp at z0 z1 z2 y0 y1 y2
  clear hb hg
  go_wp2_with fail
  go_light
  refine bodyPost_ret (v := errVal er) ?_ rfl ⟨rfl, ((HB.out.setCell (by simp) _).setCell (by simp) _).setCell (by simp) _⟩
  simp [results, Try.results16, go_sem, errVal, *]

set_option maxHeartbeats 8000000 in
theorem lay_any (hcs : ∀ (args : Array Value) (w : World), (callFunc fsz args).run Try.prog w = .ok (.enter fsz args) w)
    (hS : ∀ w : World, Calls Try.prog fsz #[sh.val] w fun e w' => e = .returned (.tuple #[.int .i64 want, .int .i64 0]) ∧ w.grownBy w' none) (IK : IsKind K) (MK : ∀ w' tb sb, Boxes w' tb sb ft sh → MakesAt K (mkOf tb sb) w')
    (S : Sees w w.heap.size ao P.n f) (hf : ∀ i, i < P.n → 0 ≤ f i ∧ f i ≤ 18446744073709551615) (SH : SeesH w w.heap.size aoh P.nh P.jn P.jb) (hn63 : P.nh ≤ 9223372036854775807) (SI : SeesI w w.heap.size aos P.ns P.sched) (hjw : ∀ h, h < P.nh → ∀ j, j < P.jn h → (P.jb h j).wf) :
    Calls Try.prog 16 #[.func (.func fsz) #[] #[], .func (.func ft) #[] #[], sh.val, .slice ao P.n cap, .slice aoh P.nh caph, .slice aos P.ns caps, .int .i64 most] w (LAll K want w P f most) := by
  have MO := fun w' => makerOf_any w' ft sh
  obtain ⟨s0, s1, s2, s3, s4, s5⟩ := sh
  simp only [Shp.val] at hS MO ⊢
  have HS := hide hS
  have HMO := hide MO
  have HSW := hide S
  have HF := hide hf
  have HSH := hide SH
  have HSI := hide SI
  have HJW := hide hjw
  have HIK := hide IK
  have HMK := hide MK
  clear hS MO S hf SH SI hjw IK MK
  go_enter Try.func16, Try.ntmps16
  go_wp2_with fail
  refine (HS.out _).mono ?_
  rintro e w1 ⟨rfl, hg⟩
  have HB := hide ((((Below.refl w.heap.size w).alloc (Nat.le_refl _) (.cells #[.int .i64 s0, .int .i64 s1, .int .i64 s2, .int .i64 s3, .int .i64 s4, .int .i64 s5] 23)).alloc (by simp) (.cells #[.slice none 0 0, .slice none 0 0, .bool false] 32)).trans (below_of_grown_none hg w.heap.size (by simp; omega)))
  have hb := below_of_grown_none hg (w.heap.size + 2) (by simp)
  have sz1 := hg.size
  simp only [World.size_alloc] at sz1
  have c0 := hb.cell (p := ⟨w.heap.size, 0, none⟩) (by simp)
  have c1 := hb.cell (p := ⟨w.heap.size, 1, none⟩) (by simp)
  have c2 := hb.cell (p := ⟨w.heap.size, 2, none⟩) (by simp)
  have c3 := hb.cell (p := ⟨w.heap.size, 3, none⟩) (by simp)
  have c4 := hb.cell (p := ⟨w.heap.size, 4, none⟩) (by simp)
  have c5 := hb.cell (p := ⟨w.heap.size, 5, none⟩) (by simp)
  have z0 := hb.cell (p := ⟨w.heap.size + 1, 0, none⟩) (by simp)
  have z1 := hb.cell (p := ⟨w.heap.size + 1, 1, none⟩) (by simp)
  have z2 := hb.cell (p := ⟨w.heap.size + 1, 2, none⟩) (by simp)
  have y0 := hb.frozen (p := ⟨w.heap.size + 1, 0, none⟩) (by simp)
  have y1 := hb.frozen (p := ⟨w.heap.size + 1, 1, none⟩) (by simp)
  have y2 := hb.frozen (p := ⟨w.heap.size + 1, 2, none⟩) (by simp)
  simp at c0 c1 c2 c3 c4 c5 z0 z1 z2 y0 y1 y2
  clear hb hg
  by_cases hne : P.n = want
  · subst hne
    go_wp2_with fail
    refine (HMO.out _).mono ?_
    rintro e w2 ⟨rfl, hw2⟩
    have B2 : Below w1.heap.size w1 w2 := by rw [hw2]; exact ((Below.refl _ w1).alloc (Nat.le_refl _) _).alloc (by simp) _
    have BX : Boxes w2 w1.heap.size (w1.heap.size + 1) ft ⟨s0, s1, s2, s3, s4, s5⟩ := by rw [hw2]; constructor <;> simp
    have sz2 : w2.heap.size = w1.heap.size + 2 := by rw [hw2]; simp
    have BW2 := HB.out.trans (B2.mono (by omega))
    have HBX := hide BX
    have HBW2 := hide BW2
    have HB2 := hide B2
    clear hw2 B2 BX BW2
    go_wp2_with fail
    refine (OfAny.play_all ((HSW.out.below HBW2.out (Nat.le_refl _)).mono (by omega)) HF.out ((HSH.out.below HBW2.out (Nat.le_refl _)).up (by omega)) hn63 ((HSI.out.below HBW2.out (Nat.le_refl _)).up (by omega)) HJW.out HIK.out (fun w' hb => HMK.out w' _ _ (HBX.out.below hb (by omega) (by omega)))).mono ?_
    rintro e w3 ⟨hb3, hc3⟩
    have sz3 := hb3.size
    have LA : LAll K P.n w2 P f most e w3 := ⟨hb3, by
      rcases hc3 with ⟨er, h1, h2⟩ | ⟨h1, h2, v, h3, h4⟩
      · exact .inl ⟨er, .inr ⟨rfl, h1⟩, h2⟩
      · exact .inr ⟨rfl, h1, h2, v, h3, told_touch h4 ((Touch.refl w3 (fun k => k = 0))) (by omega) (by omega)⟩⟩
    obtain ⟨sa, k, sc, wa, n, wc, en, aa, m, ac, er, rfl⟩ := LA.shape
    have hb13 := HB2.out.trans (hb3.mono (by omega))
    have u0 := (hb13.cell (p := ⟨w.heap.size + 1, 0, none⟩) (by show w.heap.size + 1 < _; omega)).trans z0
    have u1 := (hb13.cell (p := ⟨w.heap.size + 1, 1, none⟩) (by show w.heap.size + 1 < _; omega)).trans z1
    have u2 := (hb13.cell (p := ⟨w.heap.size + 1, 2, none⟩) (by show w.heap.size + 1 < _; omega)).trans z2
    have v0 := (hb13.frozen (p := ⟨w.heap.size + 1, 0, none⟩) (by show w.heap.size + 1 < _; omega)).trans y0
    have v1 := (hb13.frozen (p := ⟨w.heap.size + 1, 1, none⟩) (by show w.heap.size + 1 < _; omega)).trans y1
    have v2 := (hb13.frozen (p := ⟨w.heap.size + 1, 2, none⟩) (by show w.heap.size + 1 < _; omega)).trans y2
    have FIN := hide (LA.up HBW2.out (touch3 w3 (w.heap.size + 1) (.slice sa k sc) (.slice wa n wc) (.bool en)) (by omega) (by omega))
    clear hb3 hc3 LA hb13 c0 c1 c2 c3 c4 c5 z0 z1 z2 y0 y1 y2
    unfold tv3
    go_wp2_with fail
    go_light
    refine bodyPost_ret (v := tv3 sa k sc wa n wc en aa m ac er) ?_ rfl FIN.out
    simp [results, Try.results16, go_sem, tv3, *]
  · have hne' : ¬ (P.n : Int) = (want : Int) := by omega
    go_wp2_with fail
    go_light
    refine bodyPost_ret (v := errVal 121) ?_ rfl ⟨((HB.out.setCell (by simp) _).setCell (by simp) _).setCell (by simp) _, .inl ⟨121, .inl ⟨hne, rfl⟩, rfl⟩⟩
    simp [results, Try.results16, go_sem, errVal, *]
end Go.Proofs.Ytmkkkknalldckaa
