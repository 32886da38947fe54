/-
  Lemmas: LayP, RoomQ.
-/
import Derived.Test.YtidihnnmdmlgfaaGreatTp16
import Derived.Test.YtidihnnmdmlgfaaGreatTp47
import Derived.Test.YtidihnnmdmlgfaaGreatTp48
namespace Go.Proofs.YtidihnnmdmlgfaaGreat
set_option maxHeartbeats 8000000
open Go.RowKit
set_option linter.unusedVariables false
set_option linter.unusedSimpArgs false
set_option maxRecDepth 20000
section
def tv3 (sa : Option Addr) (k sc : Nat) (wa : Option Addr) (n wc : Nat) (en : Bool) (aa : Option Addr) (m ac : Nat) (er : Int) : Value :=
  .tuple #[.agg #[.slice sa k sc, .slice wa n wc, .bool en], .slice aa m ac, .int .i64 er]
def LErr (K : Kd) (want : Nat) (P : Par) (most er : Int) : Prop := (P.n ≠ want ∧ er = 121) ∨ (P.n = want ∧ ErrOf K P most er)
def LAll (K : Kd) (want : Nat) (w : World) (P : Par) (f : Nat → Int) (most : Int) (e : Ending) (w' : World) : Prop :=
  Below w.heap.size w w' ∧ ((∃ er, LErr K want P most er ∧ e = .returned (errVal er)) ∨ (P.n = want ∧ Fine P most ∧ AllOk K P ∧ ∃ v, e = .returned v ∧ Told K P (runSt P (st0 K P f) most.toNat) w.heap.size v w'))
theorem told_touch {K : Kd} {P : Par} {st : St K} {base base' b : Nat} {v : Value} {w w' : World} (h : Told K P st base v w) (ht : Touch w w' (fun k => k = b)) (hb : b < base) (hbb : base' ≤ base) : Told K P st base' v w' := by
  obtain ⟨blk, c, g, sv, rfl, H, G, GS, R, hg, hne⟩ := h
  exact ⟨blk, c, g, sv, rfl, ((H.touch ht (fun r x e he => by have := H.new r x e; omega))).base_le hbb, G, GS, R.block (ht.block g R.lt (fun he => by omega)), by omega, hne⟩
theorem told_shape {K : Kd} {P : Par} {st : St K} {base : Nat} {v : Value} {w : World} (h : Told K P st base v w) : ∃ sa k sc wa n wc en aa m ac, v = tv3 sa k sc wa n wc en aa m ac 0 := by
  obtain ⟨blk, c, g, sv, rfl, H, G, GS, R, hg, hne⟩ := h
  obtain ⟨sa, sc, rfl⟩ := GS.isSlice
  exact ⟨_, _, _, _, _, _, _, _, _, _, rfl⟩
theorem LAll.up {K : Kd} {want : Nat} {w0 w w' w2 : World} {P : Par} {f : Nat → Int} {most : Int} {e : Ending} {b : Nat} (h : LAll K want w P f most e w') (h0 : Below w0.heap.size w0 w) (ht : Touch w' w2 (fun k => k = b)) (hb0 : w0.heap.size ≤ b) (hb : b < w.heap.size) : LAll K want w0 P f most e w2 := by
  obtain ⟨hB, hc⟩ := h
  refine ⟨(h0.trans (hB.mono h0.size)).trans (ht.below (fun k hk => by omega) (Nat.le_trans h0.size hB.size)), ?_⟩
  rcases hc with h | ⟨h1, h2, h3, v, he, hT⟩
  · exact .inl h
  · exact .inr ⟨h1, h2, h3, v, he, told_touch hT ht hb h0.size⟩
theorem LAll.shape {K : Kd} {want : Nat} {w w' : World} {P : Par} {f : Nat → Int} {most : Int} {e : Ending} (h : LAll K want w P f most e w') : ∃ sa k sc wa n wc en aa m ac er, e = .returned (tv3 sa k sc wa n wc en aa m ac er) := by
  rcases h.2 with ⟨er, _, rfl⟩ | ⟨_, _, _, v, rfl, hT⟩
  · exact ⟨none, 0, 0, none, 0, 0, false, none, 0, 0, er, rfl⟩
  · obtain ⟨sa, k, sc, wa, n, wc, en, aa, m, ac, rfl⟩ := told_shape hT
    exact ⟨_, _, _, _, _, _, _, _, _, _, _, rfl⟩
theorem makerOf_any (w : World) (ft : FuncId) (sh : Shp) : Calls Tryz.prog 23 #[.func (.func ft) #[] #[], sh.val] w fun e w' => e = .returned (mkOf w.heap.size (w.heap.size + 1)) ∧
    w' = (w.alloc (.cells #[.func (.func ft) #[] #[]] 65)).alloc (.cells #[.int .i64 sh.a, .int .i64 sh.b, .int .i64 sh.c, .int .i64 sh.d, .int .i64 sh.e, .int .i64 sh.f] 23) := by
  obtain ⟨s0, s1, s2, s3, s4, s5⟩ := sh
  simp only [Shp.val, mkOf]
  go_enter Tryz.func23, Tryz.ntmps23
  go_wp2
  go_ret
  exact ⟨rfl, rfl⟩
variable {K : Kd} {w : World} {ao aoh aos : Option Addr} {cap caph caps : Nat} {P : Par} {f : Nat → Int} {most : Int} {fsz ft : FuncId} {sh : Shp} {want : Nat}
theorem SeesH.up {w : World} {B C : Nat} {aoh : Option Addr} {nh : Nat} {jn : Nat → Nat} {jb : Nat → Nat → Jb} (h : SeesH w B aoh nh jn jb) (hl : B ≤ C) : SeesH w C aoh nh jn jb := fun i hi => by
  obtain ⟨b, off, ao', cap, e, hb, hc, hj⟩ := h i hi
  exact ⟨b, off, ao', cap, e, by omega, hc, fun q hq => by obtain ⟨b', off', e', hb', hc'⟩ := hj q hq; exact ⟨b', off', e', by omega, hc'⟩⟩
theorem SeesI.up {w : World} {B C : Nat} {ao : Option Addr} {n : Nat} {s : Nat → Int} (h : SeesI w B ao n s) (hl : B ≤ C) : SeesI w C ao n s := fun i hi => by
  obtain ⟨b, off, e, hb, hc⟩ := h i hi
  exact ⟨b, off, e, by omega, hc⟩
theorem lay_any (hcs : ∀ (args : Array Value) (w : World), (callFunc fsz args).run Tryz.prog w = .ok (.enter fsz args) w)
    (hS : ∀ w : World, Calls Tryz.prog fsz #[sh.val] w fun e w' => e = .returned (.tuple #[.int .i64 want, .int .i64 0]) ∧ w.grownBy w' none) (IK : IsKind K) (MK : ∀ w' tb sb, Boxes w' tb sb ft sh → MakesAt K (mkOf tb sb) w')
    (S : Sees w w.heap.size ao P.n f) (hf : ∀ i, i < P.n → 0 ≤ f i ∧ f i ≤ 18446744073709551615) (SH : SeesH w w.heap.size aoh P.nh P.jn P.jb) (hn63 : P.nh ≤ 9223372036854775807) (SI : SeesI w w.heap.size aos P.ns P.sched) (hjw : ∀ h, h < P.nh → ∀ j, j < P.jn h → (P.jb h j).wf) :
    Calls Tryz.prog 16 #[.func (.func fsz) #[] #[], .func (.func ft) #[] #[], sh.val, .slice ao P.n cap, .slice aoh P.nh caph, .slice aos P.ns caps, .int .i64 most] w (LAll K want w P f most) := by
  have MO := fun w' => makerOf_any w' ft sh
  obtain ⟨s0, s1, s2, s3, s4, s5⟩ := sh
  simp only [Shp.val] at hS MO ⊢
  have HS := hide hS
  have HMO := hide MO
  have HSW := hide S
  have HF := hide hf
  have HSH := hide SH
  have HSI := hide SI
  have HJW := hide hjw
  have HIK := hide IK
  have HMK := hide MK
  clear hS MO S hf SH SI hjw IK MK
  go_enter Tryz.func16, Tryz.ntmps16
  go_wp2_with fail
  refine (HS.out _).mono ?_
  rintro e w1 ⟨rfl, hg⟩
  have HB := hide ((((Below.refl w.heap.size w).alloc (Nat.le_refl _) (.cells #[.int .i64 s0, .int .i64 s1, .int .i64 s2, .int .i64 s3, .int .i64 s4, .int .i64 s5] 23)).alloc (by simp) (.cells #[.slice none 0 0, .slice none 0 0, .bool false] 32)).trans (below_of_grown_none hg w.heap.size (by simp; omega)))
  have hb := below_of_grown_none hg (w.heap.size + 2) (by simp)
  have sz1 := hg.size
  simp only [World.size_alloc] at sz1
  have c0 := hb.cell (p := ⟨w.heap.size, 0, none⟩) (by simp)
  have c1 := hb.cell (p := ⟨w.heap.size, 1, none⟩) (by simp)
  have c2 := hb.cell (p := ⟨w.heap.size, 2, none⟩) (by simp)
  have c3 := hb.cell (p := ⟨w.heap.size, 3, none⟩) (by simp)
  have c4 := hb.cell (p := ⟨w.heap.size, 4, none⟩) (by simp)
  have c5 := hb.cell (p := ⟨w.heap.size, 5, none⟩) (by simp)
  have z0 := hb.cell (p := ⟨w.heap.size + 1, 0, none⟩) (by simp)
  have z1 := hb.cell (p := ⟨w.heap.size + 1, 1, none⟩) (by simp)
  have z2 := hb.cell (p := ⟨w.heap.size + 1, 2, none⟩) (by simp)
  have y0 := hb.frozen (p := ⟨w.heap.size + 1, 0, none⟩) (by simp)
  have y1 := hb.frozen (p := ⟨w.heap.size + 1, 1, none⟩) (by simp)
  have y2 := hb.frozen (p := ⟨w.heap.size + 1, 2, none⟩) (by simp)
  simp at c0 c1 c2 c3 c4 c5 z0 z1 z2 y0 y1 y2
  clear hb hg
  by_cases hne : P.n = want
  · subst hne
    go_wp2_with fail
    refine (HMO.out _).mono ?_
    rintro e w2 ⟨rfl, hw2⟩
    have B2 : Below w1.heap.size w1 w2 := by rw [hw2]; exact ((Below.refl _ w1).alloc (Nat.le_refl _) _).alloc (by simp) _
    have BX : Boxes w2 w1.heap.size (w1.heap.size + 1) ft ⟨s0, s1, s2, s3, s4, s5⟩ := by rw [hw2]; constructor <;> simp
    have sz2 : w2.heap.size = w1.heap.size + 2 := by rw [hw2]; simp
    have BW2 := HB.out.trans (B2.mono (by omega))
    have HBX := hide BX
    have HBW2 := hide BW2
    have HB2 := hide B2
    clear hw2 B2 BX BW2
    go_wp2_with fail
    refine (OfAny.play_all ((HSW.out.below HBW2.out (Nat.le_refl _)).mono (by omega)) HF.out ((HSH.out.below HBW2.out (Nat.le_refl _)).up (by omega)) hn63 ((HSI.out.below HBW2.out (Nat.le_refl _)).up (by omega)) HJW.out HIK.out (fun w' hb => HMK.out w' _ _ (HBX.out.below hb (by omega) (by omega)))).mono ?_
    rintro e w3 ⟨hb3, hc3⟩
    have sz3 := hb3.size
    have LA : LAll K P.n w2 P f most e w3 := ⟨hb3, by
      rcases hc3 with ⟨er, h1, h2⟩ | ⟨h1, h2, v, h3, h4⟩
      · exact .inl ⟨er, .inr ⟨rfl, h1⟩, h2⟩
      · exact .inr ⟨rfl, h1, h2, v, h3, told_touch h4 ((Touch.refl w3 (fun k => k = 0))) (by omega) (by omega)⟩⟩
    obtain ⟨sa, k, sc, wa, n, wc, en, aa, m, ac, er, rfl⟩ := LA.shape
    have hb13 := HB2.out.trans (hb3.mono (by omega))
    have u0 := (hb13.cell (p := ⟨w.heap.size + 1, 0, none⟩) (by show w.heap.size + 1 < _; omega)).trans z0
    have u1 := (hb13.cell (p := ⟨w.heap.size + 1, 1, none⟩) (by show w.heap.size + 1 < _; omega)).trans z1
    have u2 := (hb13.cell (p := ⟨w.heap.size + 1, 2, none⟩) (by show w.heap.size + 1 < _; omega)).trans z2
    have v0 := (hb13.frozen (p := ⟨w.heap.size + 1, 0, none⟩) (by show w.heap.size + 1 < _; omega)).trans y0
    have v1 := (hb13.frozen (p := ⟨w.heap.size + 1, 1, none⟩) (by show w.heap.size + 1 < _; omega)).trans y1
    have v2 := (hb13.frozen (p := ⟨w.heap.size + 1, 2, none⟩) (by show w.heap.size + 1 < _; omega)).trans y2
    have FIN := hide (LA.up HBW2.out (touch3 w3 (w.heap.size + 1) (.slice sa k sc) (.slice wa n wc) (.bool en)) (by omega) (by omega))
    clear hb3 hc3 LA hb13 c0 c1 c2 c3 c4 c5 z0 z1 z2 y0 y1 y2
    unfold tv3
    go_wp2_with fail
    go_light
    refine bodyPost_ret (v := tv3 sa k sc wa n wc en aa m ac er) ?_ rfl FIN.out
    simp [results, Tryz.results16, go_sem, tv3, *]
  · have hne' : ¬ (P.n : Int) = (want : Int) := by omega
    go_wp2_with fail
    go_light
    refine bodyPost_ret (v := errVal 121) ?_ rfl ⟨((HB.out.setCell (by simp) _).setCell (by simp) _).setCell (by simp) _, .inl ⟨121, .inl ⟨hne, rfl⟩, rfl⟩⟩
    simp [results, Tryz.results16, go_sem, errVal, *]
end
section
namespace Rom
open Hp
def sizeOf (sh : Shp) : Int := 8 + sh.c + sh.c * sh.d + sh.e + sh.a * (3 + sh.b)
theorem callSize (args : Array Value) (w : World) : (callFunc 14 args).run Tryz.prog w = .ok (.enter 14 args) w := by simp [go_sem]
theorem size_eq {sh : Shp} {o s hh r k : Nat} (e0 : sh.a = o) (e1 : sh.b = s) (e2 : sh.c = hh) (e3 : sh.d = r) (e4 : sh.e = k) : sizeOf sh = (Shape.size ⟨o, s, hh, r, k⟩ : Nat) := by
  unfold sizeOf Shape.size Shape.bO Shape.bK Shape.bR Shape.ow
  rw [e0, e1, e2, e3, e4]
  push_cast
  rfl
theorem size_ok {sh : Shp} (h : Shape.R5 sh.a sh.b sh.c sh.d sh.e) (w : World) : Calls Tryz.prog 14 #[sh.val] w fun e w' => e = .returned (.tuple #[.int .i64 (sizeOf sh), .int .i64 0]) ∧ w.grownBy w' none := by
  obtain ⟨o, s, hh, r, k, e0, e1, e2, e3, e4, H⟩ := natR5 h
  rw [size_eq e0 e1 e2 e3 e4]
  obtain ⟨s0, s1, s2, s3, s4, s5⟩ := sh
  simp only at e0 e1 e2 e3 e4
  subst e0 e1 e2 e3 e4
  refine (Shape.size_ok (s5 := s5) H w).mono ?_
  rintro e w' ⟨rfl, hb⟩
  exact ⟨rfl, below_grown hb none⟩
theorem size_bad {sh : Shp} (h : ¬ Shape.R5 sh.a sh.b sh.c sh.d sh.e) (w : World) : Calls Tryz.prog 14 #[sh.val] w fun e w' => e = .returned (.tuple #[.int .i64 0, .int .i64 120]) ∧ w.grownBy w' none := by
  refine (Shape.size_bad h w).mono ?_
  rintro e w' ⟨rfl, hb⟩
  exact ⟨rfl, below_grown hb none⟩
theorem size_nat {sh : Shp} (h : Shape.R5 sh.a sh.b sh.c sh.d sh.e) : ∃ want : Nat, (want : Int) = sizeOf sh ∧ 13 ≤ want ∧ want ≤ 600 := by
  obtain ⟨o, s, hh, r, k, e0, e1, e2, e3, e4, H⟩ := natR5 h
  refine ⟨_, (size_eq e0 e1 e2 e3 e4).symm, ?_, ?_⟩
  · have := Shape.sizes H
    unfold Shape.size Shape.bO Shape.bK Shape.bR
    have h1 : 1 ≤ hh := H.h1
    simp only at this ⊢
    omega
  · exact (Shape.sizes H).2.2.2.2
variable {w : World} {ao aoh aos : Option Addr} {cap caph caps : Nat} {P : Par} {f : Nat → Int} {most : Int} {sh : Shp}
theorem play_any {R : Ending → World → Prop} {Q : Ending → World → Prop}
    (h : Calls Tryz.prog 16 #[.func (.func 14) #[] #[], .func (.func 17) #[] #[], sh.val, .slice ao P.n cap, .slice aoh P.nh caph, .slice aos P.ns caps, .int .i64 most]
      ((w.alloc (.cells #[.int .i64 sh.a, .int .i64 sh.b, .int .i64 sh.c, .int .i64 sh.d, .int .i64 sh.e, .int .i64 sh.f] 23)).alloc (.cells #[.slice none 0 0, .slice none 0 0, .bool false] 32)) Q)
    (hs : ∀ e w', Q e w' → Below (w.heap.size + 2) ((w.alloc (.cells #[.int .i64 sh.a, .int .i64 sh.b, .int .i64 sh.c, .int .i64 sh.d, .int .i64 sh.e, .int .i64 sh.f] 23)).alloc (.cells #[.slice none 0 0, .slice none 0 0, .bool false] 32)) w' ∧
      ∃ sa k sc wa n wc en aa m ac er, e = .returned (tv3 sa k sc wa n wc en aa m ac er) ∧ R e (((w'.setCell ⟨w.heap.size + 1, 0, none⟩ (.slice sa k sc)).setCell ⟨w.heap.size + 1, 1, none⟩ (.slice wa n wc)).setCell ⟨w.heap.size + 1, 2, none⟩ (.bool en))) :
    Calls Tryz.prog 9 #[sh.val, .slice ao P.n cap, .slice aoh P.nh caph, .slice aos P.ns caps, .int .i64 most] w R := by
  obtain ⟨s0, s1, s2, s3, s4, s5⟩ := sh
  simp only [Shp.val] at h hs ⊢
  have HH := hide h
  have HS := hide hs
  clear h hs
  go_enter Tryz.func9, Tryz.ntmps9
  go_wp2_with fail
  refine HH.out.mono ?_
  intro e w3 hq
  obtain ⟨hb, sa, k, sc, wa, n, wc, en, aa, m, ac, er, rfl, hR⟩ := HS.out e w3 hq
  have u0 := hb.cell (p := ⟨w.heap.size + 1, 0, none⟩) (by simp)
  have u1 := hb.cell (p := ⟨w.heap.size + 1, 1, none⟩) (by simp)
  have u2 := hb.cell (p := ⟨w.heap.size + 1, 2, none⟩) (by simp)
  have v0 := hb.frozen (p := ⟨w.heap.size + 1, 0, none⟩) (by simp)
  have v1 := hb.frozen (p := ⟨w.heap.size + 1, 1, none⟩) (by simp)
  have v2 := hb.frozen (p := ⟨w.heap.size + 1, 2, none⟩) (by simp)
  simp at u0 u1 u2 v0 v1 v2
  have HR := hide hR
  clear hb hR hq
  unfold tv3
  go_wp2_with fail
  go_light
  refine bodyPost_ret (v := tv3 sa k sc wa n wc en aa m ac er) ?_ rfl HR.out
  simp [results, Tryz.results9, go_sem, tv3, *]
theorem play_all {want : Nat} (h5 : Shape.R5 sh.a sh.b sh.c sh.d sh.e) (hwant : (want : Int) = sizeOf sh) (S : Sees w w.heap.size ao P.n f) (hf : ∀ i, i < P.n → 0 ≤ f i ∧ f i ≤ 18446744073709551615) (SH : SeesH w w.heap.size aoh P.nh P.jn P.jb) (hn63 : P.nh ≤ 9223372036854775807) (SI : SeesI w w.heap.size aos P.ns P.sched) (hjw : ∀ h, h < P.nh → ∀ j, j < P.jn h → (P.jb h j).wf) :
    Calls Tryz.prog 9 #[sh.val, .slice ao P.n cap, .slice aoh P.nh caph, .slice aos P.ns caps, .int .i64 most] w (LAll (kRom false sh) want w P f most) := by
  have b0 : Below w.heap.size w ((w.alloc (.cells #[.int .i64 sh.a, .int .i64 sh.b, .int .i64 sh.c, .int .i64 sh.d, .int .i64 sh.e, .int .i64 sh.f] 23)).alloc (.cells #[.slice none 0 0, .slice none 0 0, .bool false] 32)) := ((Below.refl _ w).alloc (Nat.le_refl _) _).alloc (by simp) _
  have sz0 : ((w.alloc (.cells #[.int .i64 sh.a, .int .i64 sh.b, .int .i64 sh.c, .int .i64 sh.d, .int .i64 sh.e, .int .i64 sh.f] 23)).alloc (.cells #[.slice none 0 0, .slice none 0 0, .bool false] 32)).heap.size = w.heap.size + 2 := by simp
  refine play_any (lay_any (K := kRom false sh) (want := want) callSize (fun w' => by rw [hwant]; exact size_ok h5 w') (isKind h5) (fun w' tb sb H => makes h5 H) ((S.below b0 (Nat.le_refl _)).mono (by omega)) hf ((SH.below b0 (Nat.le_refl _)).up (by omega)) hn63 ((SI.below b0 (Nat.le_refl _)).up (by omega)) hjw) ?_
  intro e w' hq
  obtain ⟨sa, k, sc, wa, n, wc, en, aa, m, ac, er, rfl⟩ := hq.shape
  have hb := hq.1
  rw [sz0] at hb
  exact ⟨hb, sa, k, sc, wa, n, wc, en, aa, m, ac, er, rfl, hq.up b0 (touch3 w' (w.heap.size + 1) (.slice sa k sc) (.slice wa n wc) (.bool en)) (by omega) (by omega)⟩
end Rom
end
end Go.Proofs.YtidihnnmdmlgfaaGreat
