/-
  Lemmas: LayM, LayP, RAInv, RSame, Cells0, RSameG.
-/
import Derived.Test.YtmikhglnomgbfaaGreatTp05
import Derived.Test.YtmikhglnomgbfaaGreatTp06
import Derived.Test.YtmikhglnomgbfaaGreatTp17
import Derived.Test.YtmikhglnomgbfaaGreatTp18
import Derived.Deep.CutRange
import Derived.Test.YtmikhglnomgbfaaGreatTp13
namespace Go.Proofs.YtmikhglnomgbfaaGreat
set_option maxHeartbeats 8000000
open Go.RowKit
set_option linter.unusedVariables false
set_option linter.unusedSimpArgs false
set_option linter.unnecessarySimpa false
set_option maxRecDepth 20000
section
def mkOf (tb sb : Nat) : Value := .func (.func 76) #[] #[.pointer (some ⟨tb, 0, none⟩), .pointer (some ⟨sb, 0, none⟩)]
theorem mkOf_nil (tb sb : Nat) (w : World) : (binOp .eql 118 (.func (.func 76) #[] #[.pointer (some ⟨tb, 0, none⟩), .pointer (some ⟨sb, 0, none⟩)]) .nilFunc).run Tryz.prog w = .ok (.bool false) w := by kernel_rfl
structure Boxes (w : World) (tb sb : Nat) (fid : FuncId) (sh : Shp) : Prop where
  t : w.cell? ⟨tb, 0, none⟩ = some (.func (.func fid) #[] #[])
  a : w.cell? ⟨sb, 0, none⟩ = some (.int .i64 sh.a)
  b : w.cell? ⟨sb, 1, none⟩ = some (.int .i64 sh.b)
  c : w.cell? ⟨sb, 2, none⟩ = some (.int .i64 sh.c)
  d : w.cell? ⟨sb, 3, none⟩ = some (.int .i64 sh.d)
  e : w.cell? ⟨sb, 4, none⟩ = some (.int .i64 sh.e)
  f : w.cell? ⟨sb, 5, none⟩ = some (.int .i64 sh.f)
theorem Boxes.below {w w' : World} {tb sb : Nat} {fid : FuncId} {sh : Shp} {B : Nat} (h : Boxes w tb sb fid sh) (hb : Below B w w') (h1 : tb < B) (h2 : sb < B) : Boxes w' tb sb fid sh :=
  ⟨(hb.cell (p := ⟨tb, 0, none⟩) h1).trans h.t, (hb.cell (p := ⟨sb, 0, none⟩) h2).trans h.a, (hb.cell (p := ⟨sb, 1, none⟩) h2).trans h.b, (hb.cell (p := ⟨sb, 2, none⟩) h2).trans h.c, (hb.cell (p := ⟨sb, 3, none⟩) h2).trans h.d, (hb.cell (p := ⟨sb, 4, none⟩) h2).trans h.e, (hb.cell (p := ⟨sb, 5, none⟩) h2).trans h.f⟩
variable {w : World} {tb sb : Nat} {fid : FuncId} {sh : Shp} {hand : Int} {j : Jb} {vt : Value} {er : Int} {Q : World → World → Value → Prop}
theorem closure_any (hcf : ∀ (args : Array Value) (w : World), (callFunc fid args).run Tryz.prog w = .ok (.enter fid args) w) (H : Boxes w tb sb fid sh) {R : Value → World → Prop}
    (hT : Calls Tryz.prog fid #[sh.val, .int .i64 hand, j.val] (w.alloc (.cells #[.int .i64 j.kind, .int .i64 j.a, .int .i64 j.b, .int .i64 j.c, .int .u64 j.h] 52)) fun e w' => ∃ v er, e = .returned (.tuple #[v, .int .i64 er]) ∧ R (.tuple #[v, .int .i64 er]) w') :
    Calls Tryz.prog 76 #[.int .i64 hand, j.val, .pointer (some ⟨tb, 0, none⟩), .pointer (some ⟨sb, 0, none⟩)] w fun e w' => ∃ v er, e = .returned (.tuple #[v, .int .i64 er]) ∧ R (.tuple #[v, .int .i64 er]) w' := by
  obtain ⟨kind, a, b, c, hh⟩ := j
  obtain ⟨s0, s1, s2, s3, s4, s5⟩ := sh
  obtain ⟨ht, r0, r1, r2, r3, r4, r5⟩ := H
  simp only at r0 r1 r2 r3 r4 r5
  have lt := World.block_lt_of_cell? _ _ ht
  have ls := World.block_lt_of_cell? _ _ r0
  simp only at lt ls
  simp only [Shp.val, Jb.val] at hT ⊢
  have HT := hide hT
  clear hT
  go_enter Tryz.func76, Tryz.ntmps76
  go_wp2_with fail
  refine HT.out.mono ?_
  rintro e w1 ⟨v, er, rfl, hR⟩
  have HR := hide hR
  clear hR
  go_wp2_with fail
  go_ret2
  exact ⟨v, er, rfl, HR.out⟩
theorem maker_okB (hcf : ∀ (args : Array Value) (w : World), (callFunc fid args).run Tryz.prog w = .ok (.enter fid args) w) (H : Boxes w tb sb fid sh) {tid : TypeId} {t : TypeId} {n : Nat} {C : Nat → Nat → Value}
    (hT : ∀ w1 : World, Calls Tryz.prog fid #[sh.val, .int .i64 hand, j.val] w1 fun e w' => ∃ b, e = .returned (.tuple #[.iface tid (.pointer (some ⟨b, 0, none⟩)), .int .i64 0]) ∧ w'.rowIs b t n (C b) ∧ w1.heap.size ≤ b ∧ w1.grownBy w' none) :
    Calls Tryz.prog 99 #[mkOf tb sb, .int .i64 hand, j.val] w fun e w' => ∃ b, e = .returned (.tuple #[.iface tid (.pointer (some ⟨b, 0, none⟩)), .int .i64 0]) ∧ w'.rowIs b t n (C b) ∧ w.heap.size ≤ b ∧ w.grownBy w' none := by
  obtain ⟨kind, a, b, c, hh⟩ := j
  have lt := World.block_lt_of_cell? _ _ H.t
  have ls := World.block_lt_of_cell? _ _ H.a
  have hn := mkOf_nil tb sb
  have hi := iface_nil tid
  have H1 : Boxes (w.alloc (.cells #[.int .i64 kind, .int .i64 a, .int .i64 b, .int .i64 c, .int .u64 hh] 52)) tb sb fid sh := H.below ((Below.refl w.heap.size w).alloc (Nat.le_refl _) _) lt ls
  have CL := hide (closure_any (R := fun v w' => ∃ b, v = .tuple #[.iface tid (.pointer (some ⟨b, 0, none⟩)), .int .i64 0] ∧ w'.rowIs b t n (C b) ∧ w.heap.size ≤ b ∧ w.grownBy w' none) hcf H1 ((hT _).mono (by
    rintro e w' ⟨b, rfl, h1, h2, h3⟩
    simp only [World.size_alloc] at h2
    exact ⟨_, _, rfl, b, rfl, h1, by omega, grown_trans (grown_alloc (grown_alloc (grown_refl _ _) _) _) h3⟩)))
  unfold mkOf
  simp only [Jb.val] at CL ⊢
  clear H H1 hT
  go_enter Tryz.func99, Tryz.ntmps99
  go_wp2_with fail
  refine CL.out.mono ?_
  rintro e w1 ⟨v, er, rfl, bb, he, hr, hb, hg⟩
  obtain ⟨rfl, rfl⟩ : v = .iface tid (.pointer (some ⟨bb, 0, none⟩)) ∧ er = 0 := by simpa using he
  have HR := hide (And.intro hr (And.intro hb hg))
  clear he hr hb hg
  go_wp2_with fail
  go_ret2
  exact ⟨bb, rfl, HR.out.1, HR.out.2.1, HR.out.2.2⟩
theorem maker_err (hcf : ∀ (args : Array Value) (w : World), (callFunc fid args).run Tryz.prog w = .ok (.enter fid args) w) (H : Boxes w tb sb fid sh) (he : ¬ er = 0)
    (hT : ∀ w1 : World, Calls Tryz.prog fid #[sh.val, .int .i64 hand, j.val] w1 fun e w' => e = .returned (.tuple #[.nilIface, .int .i64 er]) ∧ w1.grownBy w' none) :
    Calls Tryz.prog 99 #[mkOf tb sb, .int .i64 hand, j.val] w fun e w' => e = .returned (.tuple #[.nilIface, .int .i64 er]) ∧ w.grownBy w' none := by
  obtain ⟨kind, a, b, c, hh⟩ := j
  have lt := World.block_lt_of_cell? _ _ H.t
  have ls := World.block_lt_of_cell? _ _ H.a
  have hn := mkOf_nil tb sb
  have H1 : Boxes (w.alloc (.cells #[.int .i64 kind, .int .i64 a, .int .i64 b, .int .i64 c, .int .u64 hh] 52)) tb sb fid sh := H.below ((Below.refl w.heap.size w).alloc (Nat.le_refl _) _) lt ls
  have CL := hide (closure_any (R := fun v w' => v = .tuple #[.nilIface, .int .i64 er] ∧ w.grownBy w' none) hcf H1 ((hT _).mono (by
    rintro e w' ⟨rfl, h3⟩
    exact ⟨_, _, rfl, rfl, grown_trans (grown_alloc (grown_alloc (grown_refl _ _) _) _) h3⟩)))
  unfold mkOf
  simp only [Jb.val] at CL ⊢
  clear H H1 hT
  go_enter Tryz.func99, Tryz.ntmps99
  go_wp2_with fail
  refine CL.out.mono ?_
  rintro e w1 ⟨v, er', rfl, hv, hg⟩
  obtain ⟨rfl, rfl⟩ : v = .nilIface ∧ er' = er := by simpa using hv
  have HR := hide hg
  clear hv hg
  go_wp2_with fail
  go_ret2
  exact ⟨rfl, HR.out⟩
end
section
def tv3 (sa : Option Addr) (k sc : Nat) (wa : Option Addr) (n wc : Nat) (en : Bool) (aa : Option Addr) (m ac : Nat) (er : Int) : Value :=
  .tuple #[.agg #[.slice sa k sc, .slice wa n wc, .bool en], .slice aa m ac, .int .i64 er]
def LErr (K : Kd) (want : Nat) (P : Par) (most er : Int) : Prop := (P.n ≠ want ∧ er = 121) ∨ (P.n = want ∧ ErrOf K P most er)
def LAll (K : Kd) (want : Nat) (w : World) (P : Par) (f : Nat → Int) (most : Int) (e : Ending) (w' : World) : Prop :=
  Below w.heap.size w w' ∧ ((∃ er, LErr K want P most er ∧ e = .returned (errVal er)) ∨ (P.n = want ∧ Fine P most ∧ AllOk K P ∧ ∃ v, e = .returned v ∧ Told K P (runSt P (st0 K P f) most.toNat) w.heap.size v w'))
theorem told_touch {K : Kd} {P : Par} {st : St K} {base base' b : Nat} {v : Value} {w w' : World} (h : Told K P st base v w) (ht : Touch w w' (fun k => k = b)) (hb : b < base) (hbb : base' ≤ base) : Told K P st base' v w' := by
  obtain ⟨blk, c, g, sv, rfl, H, G, GS, R, hg, hne⟩ := h
  exact ⟨blk, c, g, sv, rfl, ((H.touch ht (fun r x e he => by have := H.new r x e; omega))).base_le hbb, G, GS, R.block (ht.block g R.lt (fun he => by omega)), by omega, hne⟩
theorem told_shape {K : Kd} {P : Par} {st : St K} {base : Nat} {v : Value} {w : World} (h : Told K P st base v w) : ∃ sa k sc wa n wc en aa m ac, v = tv3 sa k sc wa n wc en aa m ac 0 := by
  obtain ⟨blk, c, g, sv, rfl, H, G, GS, R, hg, hne⟩ := h
  obtain ⟨sa, sc, rfl⟩ := GS.isSlice
  exact ⟨_, _, _, _, _, _, _, _, _, _, rfl⟩
theorem LAll.up {K : Kd} {want : Nat} {w0 w w' w2 : World} {P : Par} {f : Nat → Int} {most : Int} {e : Ending} {b : Nat} (h : LAll K want w P f most e w') (h0 : Below w0.heap.size w0 w) (ht : Touch w' w2 (fun k => k = b)) (hb0 : w0.heap.size ≤ b) (hb : b < w.heap.size) : LAll K want w0 P f most e w2 := by
  obtain ⟨hB, hc⟩ := h
  refine ⟨(h0.trans (hB.mono h0.size)).trans (ht.below (fun k hk => by omega) (Nat.le_trans h0.size hB.size)), ?_⟩
  rcases hc with h | ⟨h1, h2, h3, v, he, hT⟩
  · exact .inl h
  · exact .inr ⟨h1, h2, h3, v, he, told_touch hT ht hb h0.size⟩
theorem LAll.shape {K : Kd} {want : Nat} {w w' : World} {P : Par} {f : Nat → Int} {most : Int} {e : Ending} (h : LAll K want w P f most e w') : ∃ sa k sc wa n wc en aa m ac er, e = .returned (tv3 sa k sc wa n wc en aa m ac er) := by
  rcases h.2 with ⟨er, _, rfl⟩ | ⟨_, _, _, v, rfl, hT⟩
  · exact ⟨none, 0, 0, none, 0, 0, false, none, 0, 0, er, rfl⟩
  · obtain ⟨sa, k, sc, wa, n, wc, en, aa, m, ac, rfl⟩ := told_shape hT
    exact ⟨_, _, _, _, _, _, _, _, _, _, _, rfl⟩
theorem makerOf_any (w : World) (ft : FuncId) (sh : Shp) : Calls Tryz.prog 44 #[.func (.func ft) #[] #[], sh.val] w fun e w' => e = .returned (mkOf w.heap.size (w.heap.size + 1)) ∧
    w' = (w.alloc (.cells #[.func (.func ft) #[] #[]] 115)).alloc (.cells #[.int .i64 sh.a, .int .i64 sh.b, .int .i64 sh.c, .int .i64 sh.d, .int .i64 sh.e, .int .i64 sh.f] 23) := by
  obtain ⟨s0, s1, s2, s3, s4, s5⟩ := sh
  simp only [Shp.val, mkOf]
  go_enter Tryz.func44, Tryz.ntmps44
  go_wp2
  go_ret
  exact ⟨rfl, rfl⟩
variable {K : Kd} {w : World} {ao aoh aos : Option Addr} {cap caph caps : Nat} {P : Par} {f : Nat → Int} {most : Int} {fsz ft : FuncId} {sh : Shp} {want : Nat}
theorem SeesH.up {w : World} {B C : Nat} {aoh : Option Addr} {nh : Nat} {jn : Nat → Nat} {jb : Nat → Nat → Jb} (h : SeesH w B aoh nh jn jb) (hl : B ≤ C) : SeesH w C aoh nh jn jb := fun i hi => by
  obtain ⟨b, off, ao', cap, e, hb, hc, hj⟩ := h i hi
  exact ⟨b, off, ao', cap, e, by omega, hc, fun q hq => by obtain ⟨b', off', e', hb', hc'⟩ := hj q hq; exact ⟨b', off', e', by omega, hc'⟩⟩
theorem SeesI.up {w : World} {B C : Nat} {ao : Option Addr} {n : Nat} {s : Nat → Int} (h : SeesI w B ao n s) (hl : B ≤ C) : SeesI w C ao n s := fun i hi => by
  obtain ⟨b, off, e, hb, hc⟩ := h i hi
  exact ⟨b, off, e, by omega, hc⟩
theorem lay_size_err {er : Int} (her : ¬ er = 0) (hcs : ∀ (args : Array Value) (w : World), (callFunc fsz args).run Tryz.prog w = .ok (.enter fsz args) w)
    (hS : ∀ w : World, Calls Tryz.prog fsz #[sh.val] w fun e w' => e = .returned (.tuple #[.int .i64 0, .int .i64 er]) ∧ w.grownBy w' none) :
    Calls Tryz.prog 21 #[.func (.func fsz) #[] #[], .func (.func ft) #[] #[], sh.val, .slice ao P.n cap, .slice aoh P.nh caph, .slice aos P.ns caps, .int .i64 most] w fun e w' => e = .returned (errVal er) ∧ Below w.heap.size w w' := by
  obtain ⟨s0, s1, s2, s3, s4, s5⟩ := sh
  simp only [Shp.val] at hS ⊢
  have HS := hide hS
  clear hS
  unfold errVal
  go_enter Tryz.func21, Tryz.ntmps21
  go_wp2_with fail
  refine (HS.out _).mono ?_
  rintro e w1 ⟨rfl, hg⟩
  have HB := hide ((((Below.refl w.heap.size w).alloc (Nat.le_refl _) (.cells #[.int .i64 s0, .int .i64 s1, .int .i64 s2, .int .i64 s3, .int .i64 s4, .int .i64 s5] 23)).alloc (by simp) (.cells #[.slice none 0 0, .slice none 0 0, .bool false] 32)).trans (below_of_grown_none hg w.heap.size (by simp; omega)))
  have hb := below_of_grown_none hg (w.heap.size + 2) (by simp)
  have z0 := hb.cell (p := ⟨w.heap.size + 1, 0, none⟩) (by simp)
  have z1 := hb.cell (p := ⟨w.heap.size + 1, 1, none⟩) (by simp)
  have z2 := hb.cell (p := ⟨w.heap.size + 1, 2, none⟩) (by simp)
  have y0 := hb.frozen (p := ⟨w.heap.size + 1, 0, none⟩) (by simp)
  have y1 := hb.frozen (p := ⟨w.heap.size + 1, 1, none⟩) (by simp)
  have y2 := hb.frozen (p := ⟨w.heap.size + 1, 2, none⟩) (by simp)
  simp at z0 z1 z2 y0 y1 y2
  clear hb hg
  go_wp2_with fail
  go_light
  refine bodyPost_ret (v := errVal er) ?_ rfl ⟨rfl, ((HB.out.setCell (by simp) _).setCell (by simp) _).setCell (by simp) _⟩
  simp [results, Tryz.results21, go_sem, errVal, *]
theorem lay_any (hcs : ∀ (args : Array Value) (w : World), (callFunc fsz args).run Tryz.prog w = .ok (.enter fsz args) w)
    (hS : ∀ w : World, Calls Tryz.prog fsz #[sh.val] w fun e w' => e = .returned (.tuple #[.int .i64 want, .int .i64 0]) ∧ w.grownBy w' none) (IK : IsKind K) (MK : ∀ w' tb sb, Boxes w' tb sb ft sh → MakesAt K (mkOf tb sb) w')
    (S : Sees w w.heap.size ao P.n f) (hf : ∀ i, i < P.n → 0 ≤ f i ∧ f i ≤ 18446744073709551615) (SH : SeesH w w.heap.size aoh P.nh P.jn P.jb) (hn63 : P.nh ≤ 9223372036854775807) (SI : SeesI w w.heap.size aos P.ns P.sched) (hjw : ∀ h, h < P.nh → ∀ j, j < P.jn h → (P.jb h j).wf) :
    Calls Tryz.prog 21 #[.func (.func fsz) #[] #[], .func (.func ft) #[] #[], sh.val, .slice ao P.n cap, .slice aoh P.nh caph, .slice aos P.ns caps, .int .i64 most] w (LAll K want w P f most) := by
  have MO := fun w' => makerOf_any w' ft sh
  obtain ⟨s0, s1, s2, s3, s4, s5⟩ := sh
  simp only [Shp.val] at hS MO ⊢
  have HS := hide hS
  have HMO := hide MO
  have HSW := hide S
  have HF := hide hf
  have HSH := hide SH
  have HSI := hide SI
  have HJW := hide hjw
  have HIK := hide IK
  have HMK := hide MK
  clear hS MO S hf SH SI hjw IK MK
  go_enter Tryz.func21, Tryz.ntmps21
  go_wp2_with fail
  refine (HS.out _).mono ?_
  rintro e w1 ⟨rfl, hg⟩
  have HB := hide ((((Below.refl w.heap.size w).alloc (Nat.le_refl _) (.cells #[.int .i64 s0, .int .i64 s1, .int .i64 s2, .int .i64 s3, .int .i64 s4, .int .i64 s5] 23)).alloc (by simp) (.cells #[.slice none 0 0, .slice none 0 0, .bool false] 32)).trans (below_of_grown_none hg w.heap.size (by simp; omega)))
  have hb := below_of_grown_none hg (w.heap.size + 2) (by simp)
  have sz1 := hg.size
  simp only [World.size_alloc] at sz1
  have c0 := hb.cell (p := ⟨w.heap.size, 0, none⟩) (by simp)
  have c1 := hb.cell (p := ⟨w.heap.size, 1, none⟩) (by simp)
  have c2 := hb.cell (p := ⟨w.heap.size, 2, none⟩) (by simp)
  have c3 := hb.cell (p := ⟨w.heap.size, 3, none⟩) (by simp)
  have c4 := hb.cell (p := ⟨w.heap.size, 4, none⟩) (by simp)
  have c5 := hb.cell (p := ⟨w.heap.size, 5, none⟩) (by simp)
  have z0 := hb.cell (p := ⟨w.heap.size + 1, 0, none⟩) (by simp)
  have z1 := hb.cell (p := ⟨w.heap.size + 1, 1, none⟩) (by simp)
  have z2 := hb.cell (p := ⟨w.heap.size + 1, 2, none⟩) (by simp)
  have y0 := hb.frozen (p := ⟨w.heap.size + 1, 0, none⟩) (by simp)
  have y1 := hb.frozen (p := ⟨w.heap.size + 1, 1, none⟩) (by simp)
  have y2 := hb.frozen (p := ⟨w.heap.size + 1, 2, none⟩) (by simp)
  simp at c0 c1 c2 c3 c4 c5 z0 z1 z2 y0 y1 y2
  clear hb hg
  by_cases hne : P.n = want
  · subst hne
    go_wp2_with fail
    refine (HMO.out _).mono ?_
    rintro e w2 ⟨rfl, hw2⟩
    have B2 : Below w1.heap.size w1 w2 := by rw [hw2]; exact ((Below.refl _ w1).alloc (Nat.le_refl _) _).alloc (by simp) _
    have BX : Boxes w2 w1.heap.size (w1.heap.size + 1) ft ⟨s0, s1, s2, s3, s4, s5⟩ := by rw [hw2]; constructor <;> simp
    have sz2 : w2.heap.size = w1.heap.size + 2 := by rw [hw2]; simp
    have BW2 := HB.out.trans (B2.mono (by omega))
    have HBX := hide BX
    have HBW2 := hide BW2
    have HB2 := hide B2
    clear hw2 B2 BX BW2
    go_wp2_with fail
    refine (OfAny.play_all ((HSW.out.below HBW2.out (Nat.le_refl _)).mono (by omega)) HF.out ((HSH.out.below HBW2.out (Nat.le_refl _)).up (by omega)) hn63 ((HSI.out.below HBW2.out (Nat.le_refl _)).up (by omega)) HJW.out HIK.out (fun w' hb => HMK.out w' _ _ (HBX.out.below hb (by omega) (by omega)))).mono ?_
    rintro e w3 ⟨hb3, hc3⟩
    have sz3 := hb3.size
    have LA : LAll K P.n w2 P f most e w3 := ⟨hb3, by
      rcases hc3 with ⟨er, h1, h2⟩ | ⟨h1, h2, v, h3, h4⟩
      · exact .inl ⟨er, .inr ⟨rfl, h1⟩, h2⟩
      · exact .inr ⟨rfl, h1, h2, v, h3, told_touch h4 ((Touch.refl w3 (fun k => k = 0))) (by omega) (by omega)⟩⟩
    obtain ⟨sa, k, sc, wa, n, wc, en, aa, m, ac, er, rfl⟩ := LA.shape
    have hb13 := HB2.out.trans (hb3.mono (by omega))
    have u0 := (hb13.cell (p := ⟨w.heap.size + 1, 0, none⟩) (by show w.heap.size + 1 < _; omega)).trans z0
    have u1 := (hb13.cell (p := ⟨w.heap.size + 1, 1, none⟩) (by show w.heap.size + 1 < _; omega)).trans z1
    have u2 := (hb13.cell (p := ⟨w.heap.size + 1, 2, none⟩) (by show w.heap.size + 1 < _; omega)).trans z2
    have v0 := (hb13.frozen (p := ⟨w.heap.size + 1, 0, none⟩) (by show w.heap.size + 1 < _; omega)).trans y0
    have v1 := (hb13.frozen (p := ⟨w.heap.size + 1, 1, none⟩) (by show w.heap.size + 1 < _; omega)).trans y1
    have v2 := (hb13.frozen (p := ⟨w.heap.size + 1, 2, none⟩) (by show w.heap.size + 1 < _; omega)).trans y2
    have FIN := hide (LA.up HBW2.out (touch3 w3 (w.heap.size + 1) (.slice sa k sc) (.slice wa n wc) (.bool en)) (by omega) (by omega))
    clear hb3 hc3 LA hb13 c0 c1 c2 c3 c4 c5 z0 z1 z2 y0 y1 y2
    unfold tv3
    go_wp2_with fail
    go_light
    refine bodyPost_ret (v := tv3 sa k sc wa n wc en aa m ac er) ?_ rfl FIN.out
    simp [results, Tryz.results21, go_sem, tv3, *]
  · have hne' : ¬ (P.n : Int) = (want : Int) := by omega
    go_wp2_with fail
    go_light
    refine bodyPost_ret (v := errVal 121) ?_ rfl ⟨((HB.out.setCell (by simp) _).setCell (by simp) _).setCell (by simp) _, .inl ⟨121, .inl ⟨hne, rfl⟩, rfl⟩⟩
    simp [results, Tryz.results21, go_sem, errVal, *]
end
section
open Beg
def RTold (K : Kd) (rep : List Value → K.σ → Prop) (P : Par) (st : St K) (base : Nat) (v : Value) (w' : World) : Prop :=
  ∃ blk c un capw sv, v = .tuple #[.agg #[sv, .slice (some ⟨blk .words, 0, none⟩) P.n capw, .bool (decide (cnt (st.going P) P.nh = 0))], sl (blk .answers) P.nh, .int .i64 0] ∧ Has w' base blk c ∧ RGood K rep P blk c st un capw sv
theorem begin_good {P : Par} {blk : Rl → Nat} {c : Rl → Option Row} {capw : Nat} {F : Nat → Value} {f : Nat → Int} {K : Kd} {rep : List Value → K.σ → Prop}
    (h1 : ∀ r k d x, mkr P.nh r = some (k, d, x) → c r = some x) (h2 : c .steps = none ∧ ∀ h, c (.arow h) = none) (h3 : c .words = some ⟨50, capw, F⟩) (h4 : P.n ≤ capw) (h5 : capw ≤ maxLen) (h6 : ∀ i, i < P.n → F i = .int .u64 (f i))
    (hf : ∀ i, i < P.n → 0 ≤ f i ∧ f i ≤ 18446744073709551615) (hj : ∀ h, h < P.nh → P.jn h ≤ 256) (hn : P.nh ≤ 8) (hw : ∀ h, h < P.nh → ∀ j, j < P.jn h → (P.jb h j).wf) :
    RGood K rep P blk c (st0 K P f) (fun _ => false) capw (.slice none 0 0) := by
  have m1 : ∀ (v : Value) (i : Nat), #[v][i % #[v].size]! = v := fun v i => by rw [show i % #[v].size = 0 from Nat.mod_one i]; rfl
  refine ⟨⟨F, h3, h4, h5, h6⟩, hf, ⟨_, h1 .tasks _ _ _ rfl, fun h _ hu => (by cases hu)⟩, ⟨fun i => #[Value.bool false][i % #[Value.bool false].size]!, (h1 .going _ _ _ rfl).trans (by rw [Nat.mul_one]), fun h _ => m1 (.bool false) h⟩, ⟨fun i => #[Value.int .i64 0][i % #[Value.int .i64 0].size]!, (h1 .run _ _ _ rfl).trans (by rw [Nat.mul_one]), fun h _ => m1 (.int .i64 0) h⟩, ⟨_, h1 .mem _ _ _ rfl, fun i _ => ?_⟩, ⟨fun i => #[Value.slice none 0 0][i % #[Value.slice none 0 0].size]!, (h1 .answers _ _ _ rfl).trans (by rw [Nat.mul_one]), fun h _ => .inl ⟨rfl, m1 (.slice none 0 0) h, h2.2 h⟩⟩, .inl ⟨rfl, rfl, h2.1⟩, fun h _ => Nat.zero_le _, fun h _ hu => (by cases hu), fun h _ _ _ => rfl, hj, hn, hw, ?_⟩
  · have : i % zKept.size < 4 := Nat.mod_lt _ (by decide)
    generalize i % zKept.size = q at this
    match q, this with
    | 0, _ | 1, _ | 2, _ | 3, _ => rfl
  · simp only [st0]; omega
def rvL (sh : Shp) (P : Par) (blk : Rl → Nat) (capw : Nat) (vh sv : Value) (la : Int) : List Value := runCells sh (.slice (some ⟨blk .words, 0, none⟩) P.n capw) vh (sl (blk .tasks) P.nh) (sl (blk .going) P.nh) (sl (blk .run) P.nh) (sl (blk .mem) P.nh) sv (sl (blk .answers) P.nh) la
theorem rvL_val (sh : Shp) (P : Par) (blk : Rl → Nat) (capw : Nat) (vh sv : Value) (la : Int) : rv sh P blk capw vh sv la = .agg (rvL sh P blk capw vh sv la).toArray := rfl
theorem rvL_len (sh : Shp) (P : Par) (blk : Rl → Nat) (capw : Nat) (vh sv : Value) (la : Int) : (rvL sh P blk capw vh sv la).length = 15 := rfl
theorem rvL_one {sh : Shp} {P : Par} {blk : Rl → Nat} {capw : Nat} {vh sv : Value} {la : Int} (h1 : vh.oneCell' = true) (h2 : sv.oneCell' = true) : ∀ v ∈ rvL sh P blk capw vh sv la, v.oneCell' = true := by
  simp [rvL, runCells, sl, Value.oneCell'] at *
  exact ⟨h1, h2⟩
structure AInv (sh : Shp) (K : Kd) (rep : List Value → K.σ → Prop) (w : World) (P : Par) (f : Nat → Int) (vh : Value) (bR capw j : Nat) (wr : World) (blk : Rl → Nat) (c : Rl → Option Row) (un : Nat → Bool) (sv : Value) : Prop where
  has : Has wr w.heap.size blk c
  good : RGood K rep P blk c (runSt P (st0 K P f) j) un capw sv
  k : (runSt P (st0 K P f) j).k = j
  ty : ∀ r x, c r = some x → x.t ≠ 105 ∧ x.t ≠ 32 ∧ x.t ≠ 23
  rrow : wr.rowIs bR 105 15 (lrow (rvL sh P blk capw vh sv (runSt P (st0 K P f) j).last))
  trow : wr.rowIs w.heap.size 32 3 (lrow [.slice none 0 0, .slice none 0 0, .bool false])
  bel : Below w.heap.size w wr
  ge : w.heap.size ≤ bR
theorem AInv.below {sh : Shp} {K : Kd} {rep : List Value → K.σ → Prop} {w : World} {P : Par} {f : Nat → Int} {vh : Value} {bR capw j : Nat} {wr w' : World} {blk : Rl → Nat} {c : Rl → Option Row} {un : Nat → Bool} {sv : Value} (I : AInv sh K rep w P f vh bR capw j wr blk c un sv) (hb : Below wr.heap.size wr w') : AInv sh K rep w P f vh bR capw j w' blk c un sv :=
  ⟨I.has.below hb, I.good, I.k, I.ty, I.rrow.of_block (hb.block _ I.rrow.lt), I.trow.of_block (hb.block _ I.trow.lt), I.bel.trans (hb.mono I.bel.size), I.ge⟩
theorem AInv.touchR {sh : Shp} {K : Kd} {rep : List Value → K.σ → Prop} {w : World} {P : Par} {f : Nat → Int} {vh : Value} {bR capw j : Nat} {wr w' : World} {blk : Rl → Nat} {c : Rl → Option Row} {un : Nat → Bool} {sv : Value} (I : AInv sh K rep w P f vh bR capw j wr blk c un sv) (ht : Touch wr w' (fun k => k = bR))
    (hr : w'.rowIs bR 105 15 (lrow (rvL sh P blk capw vh sv (runSt P (st0 K P f) j).last))) : AInv sh K rep w P f vh bR capw j w' blk c un sv :=
  ⟨I.has.touch ht (fun r x e => rowIs.ne (I.has.row r x e) I.rrow (I.ty r x e).1), I.good, I.k, I.ty, hr, I.trow.of_block (ht.block _ I.trow.lt (rowIs.ne I.trow I.rrow (by decide))), I.bel.trans (ht.below (fun k hk => by rw [hk]; exact I.ge) I.bel.size), I.ge⟩
theorem AInv.step6 {sh : Shp} {K : Kd} {rep : List Value → K.σ → Prop} {w : World} {P : Par} {f : Nat → Int} {vh : Value} {bR capw j : Nat} {wr w' : World} {blk : Rl → Nat} {c c' : Rl → Option Row} {un un' : Nat → Bool} {sv : Value} (I : AInv sh K rep w P f vh bR capw j wr blk c un sv) (H : Has w' w.heap.size blk c') (G : RGood K rep P blk c' (runSt P (st0 K P f) j) un' capw sv) (ht : Touch wr w' (Own blk c)) :
    AInv sh K rep w P f vh bR capw j w' blk (cln P.nh c') un' sv := by
  have h1 : ¬ Own blk c bR := fun ⟨r, x, e, he⟩ => rowIs.ne (I.has.row r x e) I.rrow (I.ty r x e).1 he
  have h2 : ¬ Own blk c w.heap.size := fun ⟨r, x, e, he⟩ => rowIs.ne (I.has.row r x e) I.trow (I.ty r x e).2.1 he
  exact ⟨H.clean P.nh, G.clean, I.k, G.types, I.rrow.of_block (ht.block _ I.rrow.lt h1), I.trow.of_block (ht.block _ I.trow.lt h2), I.bel.trans (ht.below (fun k ⟨r, x, e, he⟩ => by rw [← he]; exact I.has.new r x e) I.bel.size), I.ge⟩
theorem AInv.again {sh : Shp} {K : Kd} {rep : List Value → K.σ → Prop} {w : World} {P : Par} {f : Nat → Int} {vh : Value} {bR capw j : Nat} {wr : World} {blk : Rl → Nat} {c : Rl → Option Row} {un : Nat → Bool} {sv : Value} (I : AInv sh K rep w P f vh bR capw j wr blk c un sv) :
    AInv sh K rep w P f vh bR capw j (wr.setCells bR 0 (rvL sh P blk capw vh sv (runSt P (st0 K P f) j).last)) blk c un sv :=
  I.touchR (touch_setCells _ _ _ _) ((rowIs.setCells _ 0 _ _ I.rrow).congr (fun i hi => by rw [if_pos (by rw [rvL_len]; omega)]; rfl))
theorem RGood.withWords {K : Kd} {rep : List Value → K.σ → Prop} {P : Par} {blk : Rl → Nat} {c : Rl → Option Row} {st : St K} {un : Nat → Bool} {capw : Nat} {sv : Value} (G : RGood K rep P blk c st un capw sv) {F' : Nat → Value} {f' : Nat → Int} (hF : ∀ i, i < P.n → F' i = .int .u64 (f' i)) (hw : ∀ i, i < P.n → 0 ≤ f' i ∧ f' i ≤ 18446744073709551615) :
    RGood K rep P blk (upd c .words (some ⟨50, capw, F'⟩)) (st.with f') un capw sv := by
  obtain ⟨F, _, h1, h2, _⟩ := G.words
  refine ⟨⟨F', upd_same _ _ _, h1, h2, hF⟩, hw, ?_, ?_, ?_, ?_, ?_, ?_, G.doneLe, G.unLt, G.fresh, G.jobs, G.hands, G.jwf, G.lastOk⟩
  · rw [upd_other _ _ (by simp)]; exact G.tasks
  · rw [upd_other _ _ (by simp)]; exact G.under
  · rw [upd_other _ _ (by simp)]; exact G.begun
  · rw [upd_other _ _ (by simp)]; exact G.kept
  · obtain ⟨A, eA, hA⟩ := G.answers
    exact ⟨A, by rw [upd_other _ _ (by simp)]; exact eA, fun h hh => (hA h hh).upd' (by simp) _⟩
  · exact G.steps.upd' (by simp) _
theorem AInv.next {sh : Shp} {K : Kd} {rep : List Value → K.σ → Prop} {w : World} {P : Par} {f : Nat → Int} {vh : Value} {bR capw j : Nat} {wc wx w7 : World} {blk blk' : Rl → Nat} {c c' : Rl → Option Row} {un un' : Nat → Bool} {sv sv' : Value} {y : Row} {L : List Value} (I : AInv sh K rep w P f vh bR capw j wc blk c un sv)
    (eW : ∃ z, c .words = some z) (ttW : Touch wc wx (fun k => k = blk .words)) (rr : wx.rowIs bR 105 15 (lrow L)) (H7 : Has w7 w.heap.size blk' c') (G7 : RGood K rep P blk' c' (runSt P (st0 K P f) (j + 1)) un' capw sv') (tt7 : Touch wx w7 (Own blk (upd c .words (some y)))) (hk : (runSt P (st0 K P f) (j + 1)).k = j + 1) :
    AInv sh K rep w P f vh bR capw (j + 1) (w7.setCells bR 0 (rvL sh P blk' capw vh sv' (runSt P (st0 K P f) (j + 1)).last)) blk' (cln P.nh c') un' sv' := by
  obtain ⟨z, eW⟩ := eW
  have own : ∀ k, Own blk (upd c .words (some y)) k → Own blk c k := fun k ⟨r, x, e, he⟩ => by
    by_cases hr : r = .words
    · subst hr; exact ⟨_, _, eW, he⟩
    · rw [upd_other _ _ hr] at e; exact ⟨r, x, e, he⟩
  have nR : ¬ Own blk c bR := fun ⟨r, x, e, he⟩ => rowIs.ne (I.has.row r x e) I.rrow (I.ty r x e).1 he
  have nT : ¬ Own blk c w.heap.size := fun ⟨r, x, e, he⟩ => rowIs.ne (I.has.row r x e) I.trow (I.ty r x e).2.1 he
  have rr7 := rr.of_block (tt7.block _ rr.lt (fun h => nR (own _ h)))
  have tr := (I.trow.of_block (ttW.block _ I.trow.lt (fun h => nT ⟨_, _, eW, h.symm⟩)))
  have tr7 := tr.of_block (tt7.block _ tr.lt (fun h => nT (own _ h)))
  have ts := touch_setCells bR (rvL sh P blk' capw vh sv' (runSt P (st0 K P f) (j + 1)).last) 0 w7
  have b1 := I.bel.trans (ttW.below (fun k hk => by rw [hk]; exact I.has.new _ _ eW) I.bel.size)
  have b2 := b1.trans (tt7.below (fun k hk => by obtain ⟨r, x, e, he⟩ := own k hk; rw [← he]; exact I.has.new r x e) b1.size)
  refine ⟨(H7.clean P.nh).touch ts (fun r x e => rowIs.ne (H7.row r x (clean_sub e)) rr7 (G7.types r x e).1), G7.clean, hk, G7.types, (rowIs.setCells _ 0 _ _ rr7).congr (fun i hi => ?_), tr7.of_block (ts.block _ tr7.lt (rowIs.ne tr7 rr7 (by simp))), b2.trans (ts.below (fun k hk => by rw [hk]; exact I.ge) b2.size), I.ge⟩
  rw [if_pos (by rw [rvL_len]; omega)]; rfl
end
section
theorem same_step (w : World) (s : Stp) :
    Calls Tryz.prog 24 #[s.val, s.val] w fun e w' => e = .returned (.bool true) ∧ Below w.heap.size w w' := by
  obtain ⟨a, b, c, d, e, f⟩ := s
  simp only [Stp.val]
  go_enter Tryz.func24, Tryz.ntmps24
  go_wp2_with fail
  go_light
  refine bodyPost_ret (v := .bool true) ?_ rfl ⟨rfl, ((Below.refl _ w).alloc (Nat.le_refl _) _).alloc (by simp) _⟩
  simp [results, Tryz.results24, go_sem]
theorem ex_not {ev : Operand → Value} {o : Oper} {w : World} {x : Operand} (ho : o.op = .unOp .not 4 x) (hx : ev x = .bool true) : (execOp ev o).run Tryz.prog w = .ok (.value (.bool false)) w := by
  simp [execOp, ho, hx, go_sem]
theorem field28 (w : World) (b : Nat) : (Instr.fieldAt 32 (.pointer (some ⟨b, 0, none⟩)) 0).run Tryz.prog w = .ok (.pointer (some ⟨b, 0, none⟩)) w := by simp [go_sem]
theorem agg26 (w : World) : (isAgg 30).run Tryz.prog w = .ok false w := by simp [go_sem]
theorem sz46 : (Tryz.prog.info? 75).map (·.size) = some 6 := by kernel_rfl
theorem callSame (args : Array Value) (w : World) : (callFunc 24 args).run Tryz.prog w = .ok (.enter 24 args) w := by
  simp [go_sem]
theorem same_trace {w : World} {ao ao' aw aw' : Option Addr} {k n cap cap' capw capw' : Nat} {s : Nat → Stp} {f : Nat → Int} {en : Bool} (hs : SeesS w w.heap.size ao k s) (hs' : SeesS w w.heap.size ao' k s) (hw : Sees w w.heap.size aw n f) (hw' : Sees w w.heap.size aw' n f) (hn : n ≤ 4096) (hk : k ≤ 65536) :
    Calls Tryz.prog 9 #[.agg #[.slice ao k cap, .slice aw n capw, .bool en], .agg #[.slice ao' k cap', .slice aw' n capw', .bool en]] w fun e w' => e = .returned (.bool true) ∧ Below w.heap.size w w' := by
  have HS := hide hs
  have HS' := hide hs'
  have HW := hide hw
  have HW' := hide hw'
  clear hs hs' hw hw'
  obtain ⟨W2, hW2⟩ : ∃ W2, (w.alloc (.cells #[.slice ao k cap, .slice aw n capw, .bool en] 32)).alloc (.cells #[.slice ao' k cap', .slice aw' n capw', .bool en] 32) = W2 := ⟨_, rfl⟩
  have b2 : Below w.heap.size w W2 := by rw [← hW2]; exact ((Below.refl _ w).alloc (Nat.le_refl _) _).alloc (by simp) _
  have sz2 : W2.heap.size = w.heap.size + 2 := by rw [← hW2]; simp
  have R1 := hide (show W2.rowIs w.heap.size 32 3 (lrow [.slice ao k cap, .slice aw n capw, .bool en]) from by rw [← hW2]; exact (rowL_alloc w [.slice ao k cap, .slice aw n capw, .bool en] _ rfl).alloc _)
  have R2 := hide (show W2.rowIs (w.heap.size + 1) 32 3 (lrow [.slice ao' k cap', .slice aw' n capw', .bool en]) from by rw [← hW2]; have := rowL_alloc (w.alloc (.cells #[.slice ao k cap, .slice aw n capw, .bool en] 32)) [.slice ao' k cap', .slice aw' n capw', .bool en] 32 (n := 3) rfl; rwa [World.size_alloc] at this)
  have BW := hide b2
  have s1 : w.heap.size < W2.heap.size := by omega
  have s2 : w.heap.size + 1 < W2.heap.size := by omega
  have c0 : W2.cell? ⟨w.heap.size, 0, none⟩ = some (.slice ao k cap) := R1.out.cell (i := 0) (by omega)
  have c1 : W2.cell? ⟨w.heap.size, 1, none⟩ = some (.slice aw n capw) := R1.out.cell (i := 1) (by omega)
  have c2 : W2.cell? ⟨w.heap.size, 2, none⟩ = some (.bool en) := R1.out.cell (i := 2) (by omega)
  have d0 : W2.cell? ⟨w.heap.size + 1, 0, none⟩ = some (.slice ao' k cap') := R2.out.cell (i := 0) (by omega)
  have d1 : W2.cell? ⟨w.heap.size + 1, 1, none⟩ = some (.slice aw' n capw') := R2.out.cell (i := 1) (by omega)
  have d2 : W2.cell? ⟨w.heap.size + 1, 2, none⟩ = some (.bool en) := R2.out.cell (i := 2) (by omega)
  clear b2
  go_enter Tryz.func9, Tryz.ntmps9
  go_wp2_with (go_at_call 17; refine (same_words (HW.out.below BW.out (Nat.le_refl _)) (HW'.out.below BW.out (Nat.le_refl _)) (fun _ _ => rfl) (by omega)).mono ?_; rintro e w' ⟨rfl, m, hw'⟩; subst hw')
  go_loopw [5] (fun i wr => ∃ q : Nat, q ≤ k ∧ i = .int .i64 q ∧ Below W2.heap.size W2 wr) (fun i _ => k - (intOf i).toNat)
  case atStart => exact ⟨0, Nat.zero_le _, rfl, below_drewN (Below.refl _ _) _⟩
  case round =>
    obtain ⟨q, hq, rfl, hb⟩ := hrel
    have HB := hide hb
    have e0 := (hb.cell (p := ⟨w.heap.size, 0, none⟩) s1).trans c0
    have g0 := (hb.cell (p := ⟨w.heap.size + 1, 0, none⟩) s2).trans d0
    by_cases hlt : q < k
    · have hqk : (q : Int) < (k : Int) := by omega
      obtain ⟨b, off, hao, hbl, hc⟩ := HS.out q hlt
      obtain ⟨b', off', hao', hbl', hc'⟩ := HS'.out q hlt
      subst hao hao'
      have old : ∀ (x o : Nat), x < w.heap.size → wr.cell? ⟨x, o, none⟩ = w.cell? ⟨x, o, none⟩ := fun x o hx => (hb.cell (p := ⟨x, o, none⟩) (by show x < _; omega)).trans (BW.out.cell (p := ⟨x, o, none⟩) hx)
      have ST := hide (fun w' => same_step w' (s q))
      obtain ⟨sq, hsq⟩ : ∃ sq, s q = sq := ⟨_, rfl⟩
      rw [hsq] at hc hc' ST
      obtain ⟨v0, v1, v2, v3, v4, v5⟩ := sq
      have W0 : Below wr.heap.size wr wr.drew ∧ wr.cell? ⟨w.heap.size, 0, none⟩ = some (.slice (some ⟨b, off, none⟩) k cap) ∧ wr.cell? ⟨w.heap.size + 1, 0, none⟩ = some (.slice (some ⟨b', off', none⟩) k cap') ∧ wr.rangeAt b (off + q * 6) [.int .i64 v0, .int .i64 v1, .int .i64 v2, .int .u64 v3, .int .u64 v4, .bool v5] ∧ wr.rangeAt b' (off' + q * 6) [.int .i64 v0, .int .i64 v1, .int .i64 v2, .int .u64 v3, .int .u64 v4, .bool v5] := by
        refine ⟨(Below.refl _ _).drew, e0, g0, fun j v hv => ?_, fun j v hv => ?_⟩
        · have hj : j < 6 := (List.getElem?_eq_some_iff.1 hv).1
          rw [old _ _ hbl, hc j hj]
          match j, hj with
          | 0, _ | 1, _ | 2, _ | 3, _ | 4, _ | 5, _ => exact congrArg some (Option.some.inj hv)
        · have hj : j < 6 := (List.getElem?_eq_some_iff.1 hv).1
          rw [old _ _ hbl', hc' j hj]
          match j, hj with
          | 0, _ | 1, _ | 2, _ | 3, _ | 4, _ | 5, _ => exact congrArg some (Option.some.inj hv)
      have HW0 := hide W0
      obtain ⟨dS, hdS⟩ := row46
      have DS := hide hdS
      simp only [Stp.val] at ST
      have m1 : w.heap.size < wr.heap.size := by have := hb.size; omega
      have m2 : w.heap.size + 1 < wr.heap.size := by have := hb.size; omega
      have m3 : b < wr.heap.size := by omega
      have m4 : b' < wr.heap.size := by omega
      clear old hc hc' hb hsq W0 hdS c0 c1 c2 d0 d1 d2
      go_wp2_with fail
      go_cut [46] from 35 to 45 (fun s46 wx => s46 = .bool false ∧ Below wr.heap.size wr wx)
      case first =>
        rename_i K1 J1 hJ1 hK1
        refine Reg.region (t := (⟨[(0, 35), (1, 36), (2, 37), (3, 38), (4, 39), (5, 40), (6, 41), (7, 42), (8, 43), (9, 44), (11, 46)],
            fun i => match i with
              | 0 => .pointer (some ⟨w.heap.size, 0, none⟩)
              | 1 => .slice (some ⟨b, off, none⟩) k cap
              | 3 => .pointer (some ⟨b, off + q * 6, none⟩)
              | 4 => .agg #[.int .i64 v0, .int .i64 v1, .int .i64 v2, .int .u64 v3, .int .u64 v4, .bool v5]
              | 5 => .pointer (some ⟨w.heap.size + 1, 0, none⟩)
              | 6 => .slice (some ⟨b', off', none⟩) k cap'
              | 8 => .pointer (some ⟨b', off' + q * 6, none⟩)
              | 9 => .agg #[.int .i64 v0, .int .i64 v1, .int .i64 v2, .int .u64 v3, .int .u64 v4, .bool v5]
              | 11 => .bool false
              | _ => .int .i64 (q : Int),
            10, 45, .bool true, [], fun _ => (3, []), [], fun _ => []⟩ : Reg.TabL).tab)
          (WI := fun _ w' => Below wr.heap.size wr w' ∧ w'.cell? ⟨w.heap.size, 0, none⟩ = some (.slice (some ⟨b, off, none⟩) k cap) ∧ w'.cell? ⟨w.heap.size + 1, 0, none⟩ = some (.slice (some ⟨b', off', none⟩) k cap') ∧ w'.rangeAt b (off + q * 6) [.int .i64 v0, .int .i64 v1, .int .i64 v2, .int .u64 v3, .int .u64 v4, .bool v5] ∧ w'.rangeAt b' (off' + q * 6) [.int .i64 v0, .int .i64 v1, .int .i64 v2, .int .u64 v3, .int .u64 v4, .bool v5])
          (gw := w.heap.size + 1) (by kernel_rfl) (Reg.TabL.ok _ rfl (fun i j hm => by simp at hm)) ?g6 ?b6 m2 ?alo ?sto ?dd HW0.out ?kinds ?fin
        case g6 =>
          intro i o ho
          have hi : i < 12 := by have := (Array.getElem?_eq_some_iff.1 ho).1; simpa using this
          match i, hi with
          | 0, _ | 1, _ | 2, _ | 3, _ | 4, _ | 5, _ | 6, _ | 7, _ | 8, _ | 9, _ | 10, _ | 11, _ => injection ho with ho; subst ho; rfl
        case b6 =>
          intro i o ho
          have hi : i < 12 := by have := (Array.getElem?_eq_some_iff.1 ho).1; simpa using this
          match i, hi with
          | 0, _ | 1, _ | 2, _ | 3, _ | 4, _ | 5, _ | 6, _ | 7, _ | 8, _ | 9, _ | 10, _ | 11, _ => injection ho with ho; subst ho; simp [Region.binds]
        case alo =>
          rintro _ w' o ⟨h0, h1, h2, h3, h4⟩
          exact ⟨h0.alloc h0.size _, (World.cell?_alloc_lt _ _ _ (World.block_lt_of_cell? _ _ h1)).trans h1, (World.cell?_alloc_lt _ _ _ (World.block_lt_of_cell? _ _ h2)).trans h2, World.rangeAt_alloc h3 o, World.rangeAt_alloc h4 o⟩
        case sto =>
          rintro _ w' x vs ⟨h0, h1, h2, h3, h4⟩ hk
          have tt := touch_setCells x vs 0 w'
          exact ⟨h0.trans (tt.below (fun y hy => by omega) h0.size), (World.cell?_of_block (a := ⟨w.heap.size, 0, none⟩) (tt.block _ (World.block_lt_of_cell? _ _ h1) (by show w.heap.size ≠ x; omega))).trans h1, (World.cell?_of_block (a := ⟨w.heap.size + 1, 0, none⟩) (tt.block _ (World.block_lt_of_cell? _ _ h2) (by show w.heap.size + 1 ≠ x; omega))).trans h2, rangeAt_block h3 (tt.block _ (World.block_lt_of_cell? _ _ (h3 0 _ rfl)) (by show b ≠ x; omega)), rangeAt_block h4 (tt.block _ (World.block_lt_of_cell? _ _ (h4 0 _ rfl)) (by show b' ≠ x; omega))⟩
        case dd =>
          intro x hx
          have hx' : x < 47 := by
            simp [Reg.TabL.tab] at hx
            omega
          simpa using hx'
        case kinds =>
          have hWb : ∀ w1 w2 : World, (Below wr.heap.size wr w1 ∧ w1.cell? ⟨w.heap.size, 0, none⟩ = some (.slice (some ⟨b, off, none⟩) k cap) ∧ w1.cell? ⟨w.heap.size + 1, 0, none⟩ = some (.slice (some ⟨b', off', none⟩) k cap') ∧ w1.rangeAt b (off + q * 6) [.int .i64 v0, .int .i64 v1, .int .i64 v2, .int .u64 v3, .int .u64 v4, .bool v5] ∧ w1.rangeAt b' (off' + q * 6) [.int .i64 v0, .int .i64 v1, .int .i64 v2, .int .u64 v3, .int .u64 v4, .bool v5]) → Below w1.heap.size w1 w2 → (Below wr.heap.size wr w2 ∧ w2.cell? ⟨w.heap.size, 0, none⟩ = some (.slice (some ⟨b, off, none⟩) k cap) ∧ w2.cell? ⟨w.heap.size + 1, 0, none⟩ = some (.slice (some ⟨b', off', none⟩) k cap') ∧ w2.rangeAt b (off + q * 6) [.int .i64 v0, .int .i64 v1, .int .i64 v2, .int .u64 v3, .int .u64 v4, .bool v5] ∧ w2.rangeAt b' (off' + q * 6) [.int .i64 v0, .int .i64 v1, .int .i64 v2, .int .u64 v3, .int .u64 v4, .bool v5]) := by
            rintro w1 w2 ⟨h0, h1, h2, h3, h4⟩ hb
            exact ⟨h0.trans (hb.mono h0.size), (hb.cell (p := ⟨w.heap.size, 0, none⟩) (World.block_lt_of_cell? _ _ h1)).trans h1, (hb.cell (p := ⟨w.heap.size + 1, 0, none⟩) (World.block_lt_of_cell? _ _ h2)).trans h2, rangeAt_block h3 (hb.block _ (World.block_lt_of_cell? _ _ (h3 0 _ rfl))), rangeAt_block h4 (hb.block _ (World.block_lt_of_cell? _ _ (h4 0 _ rfl)))⟩
          intro i o ho
          have hi : i < 12 := by have := (Array.getElem?_eq_some_iff.1 ho).1; simpa using this
          match i, hi with
            | 0, _ => injection ho with ho; subst ho; exact .inl ⟨35, _, rfl, rfl, fun L a w' bk hI hd => ex_field rfl (hI.fix 2 (Reg.notD rfl)) (field28 w' _)⟩
            | 1, _ => injection ho with ho; subst ho; exact .inl ⟨36, _, rfl, rfl, fun L a w' bk hI hd => ex_load rfl (hI.pure 0 _ _ rfl (hd ⟨0, .data⟩ (by simp) rfl)) (agg26 w') hI.world.2.1⟩
            | 2, _ => injection ho with ho; subst ho; exact .inl ⟨37, _, rfl, rfl, fun L a w' bk hI hd => ex_move rfl (hI.fix 5 (Reg.notD rfl))⟩
            | 3, _ => injection ho with ho; subst ho; exact .inl ⟨38, _, rfl, rfl, fun L a w' bk hI hd => ex_index rfl (hI.pure 1 _ _ rfl (hd ⟨1, .data⟩ (by simp) rfl)) (hI.pure 2 _ _ rfl (hd ⟨2, .data⟩ (by simp) rfl)) hlt Tryz.underlying30 sz46⟩
            | 4, _ => injection ho with ho; subst ho; exact .inl ⟨39, _, rfl, rfl, fun L a w' bk hI hd => ex_load_row rfl (hI.pure 3 _ _ rfl (hd ⟨3, .data⟩ (by simp) rfl)) hI.world.2.2.2.1 DS.out.1 DS.out.2 sz46⟩
            | 5, _ => injection ho with ho; subst ho; exact .inl ⟨40, _, rfl, rfl, fun L a w' bk hI hd => ex_field rfl (hI.fix 3 (Reg.notD rfl)) (field28 w' _)⟩
            | 6, _ => injection ho with ho; subst ho; exact .inl ⟨41, _, rfl, rfl, fun L a w' bk hI hd => ex_load rfl (hI.pure 5 _ _ rfl (hd ⟨5, .data⟩ (by simp) rfl)) (agg26 w') hI.world.2.2.1⟩
            | 7, _ => injection ho with ho; subst ho; exact .inl ⟨42, _, rfl, rfl, fun L a w' bk hI hd => ex_move rfl (hI.fix 5 (Reg.notD rfl))⟩
            | 8, _ => injection ho with ho; subst ho; exact .inl ⟨43, _, rfl, rfl, fun L a w' bk hI hd => ex_index rfl (hI.pure 6 _ _ rfl (hd ⟨6, .data⟩ (by simp) rfl)) (hI.pure 7 _ _ rfl (hd ⟨7, .data⟩ (by simp) rfl)) hlt Tryz.underlying30 sz46⟩
            | 9, _ => injection ho with ho; subst ho; exact .inl ⟨44, _, rfl, rfl, fun L a w' bk hI hd => ex_load_row rfl (hI.pure 8 _ _ rfl (hd ⟨8, .data⟩ (by simp) rfl)) hI.world.2.2.2.2 DS.out.1 DS.out.2 sz46⟩
            | 10, _ => injection ho with ho; subst ho; exact .inr (.inl ⟨rfl, rfl, fun L a w' bk K hI hL hd hk => wp_call (f := 24) (call2 rfl (hI.pure 4 _ _ rfl (hd ⟨4, .data⟩ (by simp) rfl)) (hI.pure 9 _ _ rfl (hd ⟨9, .data⟩ (by simp) rfl)) rfl (callSame _ _)) ((ST.out w').mono (fun e w'' ⟨he, hb⟩ => ⟨_, he, hk w'' (hWb w' w'' hI.world hb) (Touch.of_below hb _)⟩))⟩)
            | 11, _ => injection ho with ho; subst ho; exact .inl ⟨46, _, rfl, rfl, fun L a w' bk hI hd => ex_not rfl (hI.call (hd ⟨10, .data⟩ (by simp) rfl))⟩
        case fin =>
          intro L a' w' bk hI hall
          refine hK1 _ _ (Met.intro (hJ1 _ _ ?_))
          have ea := act_all a' 47 (by rw [hI.sz]; rfl) hI.df
          simp only [List.range, List.range.loop, List.map] at ea
          rw [hI.fix 0 (Reg.notD rfl), hI.fix 1 (Reg.notD rfl), hI.fix 2 (Reg.notD rfl), hI.fix 3 (Reg.notD rfl), hI.fix 4 (Reg.notD rfl), hI.fix 5 (Reg.notD rfl), hI.fix 6 (Reg.notD rfl), hI.fix 7 (Reg.notD rfl), hI.fix 8 (Reg.notD rfl), hI.fix 9 (Reg.notD rfl), hI.fix 10 (Reg.notD rfl), hI.fix 11 (Reg.notD rfl), hI.fix 12 (Reg.notD rfl), hI.fix 13 (Reg.notD rfl), hI.fix 14 (Reg.notD rfl), hI.fix 15 (Reg.notD rfl), hI.fix 16 (Reg.notD rfl), hI.fix 17 (Reg.notD rfl), hI.fix 18 (Reg.notD rfl), hI.fix 19 (Reg.notD rfl), hI.fix 20 (Reg.notD rfl), hI.fix 21 (Reg.notD rfl), hI.fix 22 (Reg.notD rfl), hI.fix 23 (Reg.notD rfl), hI.fix 24 (Reg.notD rfl), hI.fix 25 (Reg.notD rfl), hI.fix 26 (Reg.notD rfl), hI.fix 27 (Reg.notD rfl), hI.fix 28 (Reg.notD rfl), hI.fix 29 (Reg.notD rfl), hI.fix 30 (Reg.notD rfl), hI.fix 31 (Reg.notD rfl), hI.fix 32 (Reg.notD rfl), hI.fix 33 (Reg.notD rfl), hI.fix 34 (Reg.notD rfl)] at ea
          have p46 := hI.pure 11 46 _ rfl (hall 11 (by decide))
          (repeat apply Exists.intro)
          refine ⟨?rel, ?eq⟩
          case eq => exact ea
          case rel => exact ⟨p46, hI.world.1⟩
      case rest =>
        obtain ⟨rfl, hbx⟩ := hcut
        go_wp2_with fail
        go_roundw
        case rel => exact ⟨q + 1, by omega, by go_num, HB.out.trans (hbx.mono HB.out.size)⟩
        case measure => simp [intOf]; omega
    · have hqk : ¬ (q : Int) < (k : Int) := by omega
      clear hb c0 c1 c2 d0 d1 d2
      go_wp2_with fail
      go_light
      refine bodyPost_ret (v := .bool true) ?_ rfl ⟨rfl, BW.out.trans (HB.out.mono (by omega))⟩
      simp [results, Tryz.results9, go_sem]
end
section
theorem grows_cell {blk : Rl → Nat} {c : Rl → Option Row} {r : Rl} {e : TypeId} {sz k : Nat} {xs : List Value} {v : Value} {w : World} {base : Nat} (h : Grows blk c r e sz k xs v) (H : Has w base blk c) (hl : xs.length = k * sz) (hk : 0 < k) :
    ∃ b cap, v = .slice (some ⟨b, 0, none⟩) k cap ∧ b < w.heap.size ∧ base ≤ b ∧ ∀ i u, xs[i]? = some u → w.cell? ⟨b, i, none⟩ = some u := by
  rcases h with ⟨rfl, _⟩ | ⟨cap, F, rfl, hc, hkc, hcm, hp⟩
  · omega
  · refine ⟨blk r, cap, rfl, H.lt hc, H.new _ _ hc, fun i u hu => ?_⟩
    have hi : i < xs.length := by rcases Nat.lt_or_ge i xs.length with l | l; exact l; rw [List.getElem?_eq_none l] at hu; cases hu
    have hlt : i < cap * sz := by have := Nat.mul_le_mul_right sz hkc; omega
    rw [H.cell hc hlt]
    show some (F i) = _
    rw [hp i u hu]
theorem stepCells_get (s : Nat → Stp) (k j i : Nat) (hj : j < k) (hi : i < 6) : (stepCells s k)[j * 6 + i]? = some ((s j).cell i) := by
  induction k with
  | zero => omega
  | succ k ih =>
    simp only [stepCells]
    by_cases e : j = k
    · subst e
      rw [List.getElem?_append_right (by rw [stepCells_length]; omega), stepCells_length, show j * 6 + i - j * 6 = i by omega]
      match i, hi with
      | 0, _ | 1, _ | 2, _ | 3, _ | 4, _ | 5, _ => rfl
    · rw [List.getElem?_append_left (by rw [stepCells_length]; omega)]
      exact ih (by omega)
def Ans.cell (x : Ans) (i : Nat) : Value := match i with | 0 => .bool x.ok | _ => .int .u64 x.val
theorem ansCells_get (a : Nat → Ans) (k j i : Nat) (hj : j < k) (hi : i < 2) : (ansCells a k)[j * 2 + i]? = some (Ans.cell (a j) i) := by
  induction k with
  | zero => omega
  | succ k ih =>
    simp only [ansCells]
    by_cases e : j = k
    · subst e
      rw [List.getElem?_append_right (by rw [ansCells_length]; omega), ansCells_length, show j * 2 + i - j * 2 = i by omega]
      match i, hi with
      | 0, _ | 1, _ => rfl
    · rw [List.getElem?_append_left (by rw [ansCells_length]; omega)]
      exact ih (by omega)
theorem row_arr (w : World) (arr : Array Value) (t : TypeId) : (w.alloc (.cells arr t)).rowIs w.heap.size t arr.size (fun i => arr.getD i undef) :=
  World.rowIs_alloc w arr t _ (fun i hi => by simp [Array.getD, hi])
end
section
def SeesA (w : World) (B : Nat) (ao : Option Addr) (nh : Nat) (dn : Nat → Nat) (an : Nat → Nat → Ans) : Prop :=
  ∀ h, h < nh → ∃ b off av cap, ao = some ⟨b, off, none⟩ ∧ b < B ∧ w.cell? ⟨b, off + h, none⟩ = some (.slice av (dn h) cap) ∧ ∀ j, j < dn h → ∃ b' off', av = some ⟨b', off', none⟩ ∧ b' < B ∧ ∀ i, i < 2 → w.cell? ⟨b', off' + j * 2 + i, none⟩ = some (Ans.cell (an h j) i)
theorem SeesA.below {w w' : World} {B C : Nat} {ao : Option Addr} {nh : Nat} {dn : Nat → Nat} {an : Nat → Nat → Ans} (S : SeesA w B ao nh dn an) (hb : Below C w w') (hBC : B ≤ C) : SeesA w' B ao nh dn an := fun h hh => by
  obtain ⟨b, off, av, cap, e, hl, hc, hj⟩ := S h hh
  refine ⟨b, off, av, cap, e, hl, (hb.cell (p := ⟨b, off + h, none⟩) (by show b < C; omega)).trans hc, fun j hjj => ?_⟩
  obtain ⟨b', off', e', hl', hc'⟩ := hj j hjj
  exact ⟨b', off', e', hl', fun i hi => (hb.cell (p := ⟨b', off' + j * 2 + i, none⟩) (by show b' < C; omega)).trans (hc' i hi)⟩
theorem SeesA.mono {w : World} {B C : Nat} {ao : Option Addr} {nh : Nat} {dn : Nat → Nat} {an : Nat → Nat → Ans} (S : SeesA w B ao nh dn an) (hBC : B ≤ C) : SeesA w C ao nh dn an := fun h hh => by
  obtain ⟨b, off, av, cap, e, hl, hc, hj⟩ := S h hh
  exact ⟨b, off, av, cap, e, by omega, hc, fun j hjj => by obtain ⟨b', off', e', hl', hc'⟩ := hj j hjj; exact ⟨b', off', e', by omega, hc'⟩⟩
theorem same_answers {w : World} {B : Nat} {ao ao' : Option Addr} {nh cap cap' : Nat} {dn : Nat → Nat} {an : Nat → Nat → Ans} (hs : SeesA w B ao nh dn an) (hs' : SeesA w B ao' nh dn an) (hn : nh ≤ 8) (hd : ∀ h, h < nh → dn h ≤ 256) :
    Calls Tryz.prog 10 #[.slice ao nh cap, .slice ao' nh cap'] w fun e w' => e = .returned (.bool true) ∧ ∃ m, w' = w.drewN m := by
  have H := hide hs
  have H' := hide hs'
  have HD := hide hd
  clear hs hs' hd
  go_enter Tryz.func10, Tryz.ntmps10
  go_wp2_with fail
  go_loopw [5] (fun i wr => ∃ k m : Nat, k ≤ nh ∧ i = .int .i64 k ∧ wr = w.drewN m) (fun i _ => nh - (intOf i).toNat)
  case atStart => exact ⟨0, 0, Nat.zero_le _, rfl, rfl⟩
  case round =>
    obtain ⟨k, m, hk, rfl, rfl⟩ := hrel
    by_cases hlt : k < nh
    · obtain ⟨b, off, av, cv, rfl, hbl, hcc, hj⟩ := H.out k hlt
      obtain ⟨b', off', av', cv', rfl, hbl', hcc', hj'⟩ := H'.out k hlt
      have hkn : (k : Int) < (nh : Int) := by omega
      have hdk := HD.out k hlt
      have HJ := hide hj
      have HJ' := hide hj'
      clear hj hj'
      obtain ⟨dk, hdk'⟩ : ∃ dk, dn k = dk := ⟨_, rfl⟩
      rw [hdk'] at hcc hcc' hdk HJ HJ'
      obtain ⟨ak, hak'⟩ : ∃ ak, an k = ak := ⟨_, rfl⟩
      rw [hak'] at HJ HJ'
      clear hdk' hak'
      go_wp2_with fail
      go_quiet (fail)
      go_wp2_with fail
      go_loopw [6] (fun i wr => ∃ q m : Nat, q ≤ dk ∧ i = .int .i64 q ∧ wr = w.drewN m) (fun i _ => dk - (intOf i).toNat)
      case atStart => exact ⟨0, _, Nat.zero_le _, rfl, World.drewN_drewN ..⟩
      case round =>
        obtain ⟨q, m', hq, rfl, rfl⟩ := hrel
        by_cases hlq : q < dk
        · obtain ⟨bj, oj, rfl, hlj, hcj⟩ := HJ.out q hlq
          obtain ⟨bj', oj', rfl, hlj', hcj'⟩ := HJ'.out q hlq
          have hqn : (q : Int) < (dk : Int) := by omega
          have p0 := hcj 0 (by omega)
          have p1 := hcj 1 (by omega)
          have r0 := hcj' 0 (by omega)
          have r1 := hcj' 1 (by omega)
          simp only [Ans.cell, Nat.add_zero] at p0 p1 r0 r1
          clear hcj hcj'
          go_wp2_with fail
          go_quiet (fail)
          go_wp2_with fail
          go_roundw
          case rel => exact ⟨q + 1, _, by omega, by go_num, rfl⟩
          case measure => simp [intOf]; omega
        · have hqn : ¬ (q : Int) < (dk : Int) := by omega
          go_wp2_with fail
          go_roundw
          case rel => exact ⟨k + 1, _, by omega, by go_num, rfl⟩
          case measure => simp [intOf]; omega
    · have hkn : ¬ (k : Int) < (nh : Int) := by omega
      go_wp2_with fail
      go_ret
      exact ⟨rfl, _, rfl⟩
theorem Grows.seesS {blk : Rl → Nat} {c : Rl → Option Row} {k : Nat} {s : Nat → Stp} {w : World} {base : Nat} {sa : Option Addr} {sc : Nat} (h : Grows blk c .steps 75 6 k (stepCells s k) (.slice sa k sc)) (H : Has w base blk c) : SeesS w w.heap.size sa k s := fun j hj => by
  obtain ⟨b, cap, e, hl, _, hc⟩ := grows_cell h H (stepCells_length _ _) (by omega)
  injection e with e1 _ _
  refine ⟨b, 0, e1, hl, fun i hi => ?_⟩
  rw [Nat.zero_add]
  exact hc _ _ (stepCells_get s k j i hj hi)
theorem seesA_of {blk : Rl → Nat} {c : Rl → Option Row} {K : Kd} {st : St K} {P : Par} {w : World} {base : Nat} (h : ∃ A, c .answers = some ⟨69, P.nh, A⟩ ∧ ∀ h, h < P.nh → Grows blk c (.arow h) 56 2 (st.done h) (ansCells (st.ans h) (st.done h)) (A h)) (H : Has w base blk c) :
    SeesA w w.heap.size (some ⟨blk .answers, 0, none⟩) P.nh st.done st.ans := fun h' hh => by
  obtain ⟨A, eA, hA⟩ := h
  obtain ⟨av, cv, ev⟩ := (hA h' hh).isSlice
  refine ⟨_, 0, av, cv, rfl, H.lt eA, ?_, fun j hj => ?_⟩
  · rw [Nat.zero_add, ← ev]; exact H.cell eA (i := h') hh
  · obtain ⟨b, cap, e, hl, _, hc⟩ := grows_cell (hA h' hh) H (ansCells_length _ _) (by omega)
    rw [ev] at e
    injection e with e1 _ _
    refine ⟨b, 0, e1, hl, fun i hi => ?_⟩
    rw [Nat.zero_add]
    exact hc _ _ (ansCells_get (st.ans h') (st.done h') j i hj hi)
theorem RGood.seesW {K : Kd} {rep : List Value → K.σ → Prop} {P : Par} {blk : Rl → Nat} {c : Rl → Option Row} {st : St K} {un : Nat → Bool} {capw : Nat} {sv : Value} {w : World} {base : Nat} (G : RGood K rep P blk c st un capw sv) (H : Has w base blk c) : Sees w w.heap.size (some ⟨blk .words, 0, none⟩) P.n st.f := fun j hj => by
  obtain ⟨F, e, h1, _, h2⟩ := G.words
  refine ⟨_, 0, rfl, H.lt e, ?_⟩
  rw [Nat.zero_add, H.cell e (i := j) (by show j < capw; omega)]
  exact congrArg some (h2 j hj)
theorem first_not (p : Nat → Prop) : ∀ n, (∀ i, i < n → p i) ∨ ∃ i, i < n ∧ ¬ p i ∧ ∀ j, j < i → p j
  | 0 => .inl (fun i hi => absurd hi (Nat.not_lt_zero i))
  | n + 1 => by
    rcases first_not p n with h | ⟨i, hi, h1, h2⟩
    · by_cases hp : p n
      · exact .inl (fun i hi => by rcases Nat.lt_or_ge i n with l | l; exact h i l; obtain rfl : i = n := (by omega); exact hp)
      · exact .inr ⟨n, by omega, hp, h⟩
    · exact .inr ⟨i, by omega, h1, h2⟩
theorem allOk_or (K : Kd) (P : Par) : AllOk K P ∨ ∃ e, FirstErr K P e := by
  rcases first_not (fun h => ∀ j, j < P.jn h → K.err h (P.jb h j) = 0) P.nh with h | ⟨H, hH, h1, h2⟩
  · exact .inl h
  · rcases first_not (fun j => K.err H (P.jb H j) = 0) (P.jn H) with h | ⟨J, hJ, h3, h4⟩
    · exact absurd h h1
    · exact .inr ⟨_, H, J, hH, hJ, rfl, h3, h2, h4⟩
theorem ErrOf.one {K : Kd} {P : Par} {most e e' : Int} (h : ErrOf K P most e) (h' : ErrOf K P most e') : e = e' := by
  have neg : ¬ (LongHands P.nh P.jn ∨ 65536 < P.ns ∨ 65536 < most) ∨ (LongHands P.nh P.jn ∨ 65536 < P.ns ∨ 65536 < most) := (Classical.em _).symm
  rcases h with ⟨a1, rfl⟩ | ⟨a1, a2, rfl⟩ | ⟨a1, a2, a3, a4, rfl⟩ | ⟨⟨a1, a2, a3, a4, a5⟩, a6⟩ <;> rcases h' with ⟨b1, rfl⟩ | ⟨b1, b2, rfl⟩ | ⟨b1, b2, b3, b4, rfl⟩ | ⟨⟨b1, b2, b3, b4, b5⟩, b6⟩
  all_goals first
    | rfl
    | (exfalso; omega)
    | (exfalso; rcases a2 with a2 | a2 | a2; exact b2 a2; omega; omega)
    | (exfalso; rcases b2 with b2 | b2 | b2; exact a2 b2; omega; omega)
    | exact a6.one b6
theorem ErrOf.not {K : Kd} {P : Par} {most e : Int} (h : ErrOf K P most e) : ¬ (Fine P most ∧ AllOk K P) := by
  rintro ⟨⟨b1, b2, b3, b4, b5⟩, b6⟩
  rcases h with ⟨a1, _⟩ | ⟨a1, a2, _⟩ | ⟨a1, a2, a3, a4, _⟩ | ⟨_, a6⟩
  · omega
  · rcases a2 with a2 | a2 | a2
    · exact b2 a2
    · omega
    · omega
  · omega
  · exact a6.not b6
end
end Go.Proofs.YtmikhglnomgbfaaGreat
