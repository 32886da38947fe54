/-
  Lemmas: LayP, RAInv, RSame, Cells0, RSameG, Lift.
-/
import Derived.Test.YtnodkeoikamonaaTw16
import Derived.Test.YtnodkeoikamonaaTw17
import Derived.Deep.CutRange
import Derived.Test.YtnodkeoikamonaaTw07
import Derived.Test.YtnodkeoikamonaaRows
import Derived.WalkKit
import Derived.ProofKit
import Derived.OpenShut
import Derived.ChangeOld
import Derived.Below
import Derived.JoinedCond
import Derived.Leaving
import Derived.Conc.LeavingOf
/-
  layer.Play, whatever the layer: a wrong number of words, or turn's Play over the layer's maker.
-/
namespace Go.Proofs.Ytnodkeoikamonaa
open Go.RowKit
set_option linter.unusedVariables false
set_option linter.unusedSimpArgs false
set_option maxRecDepth 20000
def tv3 (sa : Option Addr) (k sc : Nat) (wa : Option Addr) (n wc : Nat) (en : Bool) (aa : Option Addr) (m ac : Nat) (er : Int) : Value :=
  .tuple #[.agg #[.slice sa k sc, .slice wa n wc, .bool en], .slice aa m ac, .int .i64 er]
def LErr (K : Kd) (want : Nat) (P : Par) (most er : Int) : Prop := (P.n ≠ want ∧ er = 121) ∨ (P.n = want ∧ ErrOf K P most er)
def LAll (K : Kd) (want : Nat) (w : World) (P : Par) (f : Nat → Int) (most : Int) (e : Ending) (w' : World) : Prop :=
  Below w.heap.size w w' ∧ ((∃ er, LErr K want P most er ∧ e = .returned (errVal er)) ∨ (P.n = want ∧ Fine P most ∧ AllOk K P ∧ ∃ v, e = .returned v ∧ Told K P (runSt P (st0 K P f) most.toNat) w.heap.size v w'))
theorem told_touch {K : Kd} {P : Par} {st : St K} {base base' b : Nat} {v : Value} {w w' : World} (h : Told K P st base v w) (ht : Touch w w' (fun k => k = b)) (hb : b < base) (hbb : base' ≤ base) : Told K P st base' v w' := by
  obtain ⟨blk, c, g, sv, rfl, H, G, GS, R, hg, hne⟩ := h
  exact ⟨blk, c, g, sv, rfl, ((H.touch ht (fun r x e he => by have := H.new r x e; omega))).base_le hbb, G, GS, R.block (ht.block g R.lt (fun he => by omega)), by omega, hne⟩
theorem told_shape {K : Kd} {P : Par} {st : St K} {base : Nat} {v : Value} {w : World} (h : Told K P st base v w) : ∃ sa k sc wa n wc en aa m ac, v = tv3 sa k sc wa n wc en aa m ac 0 := by
  obtain ⟨blk, c, g, sv, rfl, H, G, GS, R, hg, hne⟩ := h
  obtain ⟨sa, sc, rfl⟩ := GS.isSlice
  exact ⟨_, _, _, _, _, _, _, _, _, _, rfl⟩
theorem LAll.up {K : Kd} {want : Nat} {w0 w w' w2 : World} {P : Par} {f : Nat → Int} {most : Int} {e : Ending} {b : Nat} (h : LAll K want w P f most e w') (h0 : Below w0.heap.size w0 w) (ht : Touch w' w2 (fun k => k = b)) (hb0 : w0.heap.size ≤ b) (hb : b < w.heap.size) : LAll K want w0 P f most e w2 := by
  obtain ⟨hB, hc⟩ := h
  refine ⟨(h0.trans (hB.mono h0.size)).trans (ht.below (fun k hk => by omega) (Nat.le_trans h0.size hB.size)), ?_⟩
  rcases hc with h | ⟨h1, h2, h3, v, he, hT⟩
  · exact .inl h
  · exact .inr ⟨h1, h2, h3, v, he, told_touch hT ht hb h0.size⟩
theorem LAll.shape {K : Kd} {want : Nat} {w w' : World} {P : Par} {f : Nat → Int} {most : Int} {e : Ending} (h : LAll K want w P f most e w') : ∃ sa k sc wa n wc en aa m ac er, e = .returned (tv3 sa k sc wa n wc en aa m ac er) := by
  rcases h.2 with ⟨er, _, rfl⟩ | ⟨_, _, _, v, rfl, hT⟩
  · exact ⟨none, 0, 0, none, 0, 0, false, none, 0, 0, er, rfl⟩
  · obtain ⟨sa, k, sc, wa, n, wc, en, aa, m, ac, rfl⟩ := told_shape hT
    exact ⟨_, _, _, _, _, _, _, _, _, _, _, rfl⟩
theorem makerOf_any (w : World) (ft : FuncId) (sh : Shp) : Calls Try.prog 52 #[.func (.func ft) #[] #[], sh.val] w fun e w' => e = .returned (mkOf w.heap.size (w.heap.size + 1)) ∧
    w' = (w.alloc (.cells #[.func (.func ft) #[] #[]] 111)).alloc (.cells #[.int .i64 sh.a, .int .i64 sh.b, .int .i64 sh.c, .int .i64 sh.d, .int .i64 sh.e, .int .i64 sh.f] 23) := by
  obtain ⟨s0, s1, s2, s3, s4, s5⟩ := sh
  simp only [Shp.val, mkOf]
  go_enter Try.func52, Try.ntmps52
  go_wp2
  go_ret
  exact ⟨rfl, rfl⟩
variable {K : Kd} {w : World} {ao aoh aos : Option Addr} {cap caph caps : Nat} {P : Par} {f : Nat → Int} {most : Int} {fsz ft : FuncId} {sh : Shp} {want : Nat}
theorem SeesH.up {w : World} {B C : Nat} {aoh : Option Addr} {nh : Nat} {jn : Nat → Nat} {jb : Nat → Nat → Jb} (h : SeesH w B aoh nh jn jb) (hl : B ≤ C) : SeesH w C aoh nh jn jb := fun i hi => by
  obtain ⟨b, off, ao', cap, e, hb, hc, hj⟩ := h i hi
  exact ⟨b, off, ao', cap, e, by omega, hc, fun q hq => by obtain ⟨b', off', e', hb', hc'⟩ := hj q hq; exact ⟨b', off', e', by omega, hc'⟩⟩
theorem SeesI.up {w : World} {B C : Nat} {ao : Option Addr} {n : Nat} {s : Nat → Int} (h : SeesI w B ao n s) (hl : B ≤ C) : SeesI w C ao n s := fun i hi => by
  obtain ⟨b, off, e, hb, hc⟩ := h i hi
  exact ⟨b, off, e, by omega, hc⟩
set_option maxHeartbeats 8000000 in
theorem lay_any (hcs : ∀ (args : Array Value) (w : World), (callFunc fsz args).run Try.prog w = .ok (.enter fsz args) w)
    (hS : ∀ w : World, Calls Try.prog fsz #[sh.val] w fun e w' => e = .returned (.tuple #[.int .i64 want, .int .i64 0]) ∧ w.grownBy w' none) (IK : IsKind K) (MK : ∀ w' tb sb, Boxes w' tb sb ft sh → MakesAt K (mkOf tb sb) w')
    (S : Sees w w.heap.size ao P.n f) (hf : ∀ i, i < P.n → 0 ≤ f i ∧ f i ≤ 18446744073709551615) (SH : SeesH w w.heap.size aoh P.nh P.jn P.jb) (hn63 : P.nh ≤ 9223372036854775807) (SI : SeesI w w.heap.size aos P.ns P.sched) (hjw : ∀ h, h < P.nh → ∀ j, j < P.jn h → (P.jb h j).wf) :
    Calls Try.prog 33 #[.func (.func fsz) #[] #[], .func (.func ft) #[] #[], sh.val, .slice ao P.n cap, .slice aoh P.nh caph, .slice aos P.ns caps, .int .i64 most] w (LAll K want w P f most) := by
  have MO := fun w' => makerOf_any w' ft sh
  obtain ⟨s0, s1, s2, s3, s4, s5⟩ := sh
  simp only [Shp.val] at hS MO ⊢
  have HS := hide hS
  have HMO := hide MO
  have HSW := hide S
  have HF := hide hf
  have HSH := hide SH
  have HSI := hide SI
  have HJW := hide hjw
  have HIK := hide IK
  have HMK := hide MK
  clear hS MO S hf SH SI hjw IK MK
  go_enter Try.func33, Try.ntmps33
  go_wp2_with fail
  refine (HS.out _).mono ?_
  rintro e w1 ⟨rfl, hg⟩
  have HB := hide ((((Below.refl w.heap.size w).alloc (Nat.le_refl _) (.cells #[.int .i64 s0, .int .i64 s1, .int .i64 s2, .int .i64 s3, .int .i64 s4, .int .i64 s5] 23)).alloc (by simp) (.cells #[.slice none 0 0, .slice none 0 0, .bool false] 44)).trans (below_of_grown_none hg w.heap.size (by simp; omega)))
  have hb := below_of_grown_none hg (w.heap.size + 2) (by simp)
  have sz1 := hg.size
  simp only [World.size_alloc] at sz1
  have c0 := hb.cell (p := ⟨w.heap.size, 0, none⟩) (by simp)
  have c1 := hb.cell (p := ⟨w.heap.size, 1, none⟩) (by simp)
  have c2 := hb.cell (p := ⟨w.heap.size, 2, none⟩) (by simp)
  have c3 := hb.cell (p := ⟨w.heap.size, 3, none⟩) (by simp)
  have c4 := hb.cell (p := ⟨w.heap.size, 4, none⟩) (by simp)
  have c5 := hb.cell (p := ⟨w.heap.size, 5, none⟩) (by simp)
  have z0 := hb.cell (p := ⟨w.heap.size + 1, 0, none⟩) (by simp)
  have z1 := hb.cell (p := ⟨w.heap.size + 1, 1, none⟩) (by simp)
  have z2 := hb.cell (p := ⟨w.heap.size + 1, 2, none⟩) (by simp)
  have y0 := hb.frozen (p := ⟨w.heap.size + 1, 0, none⟩) (by simp)
  have y1 := hb.frozen (p := ⟨w.heap.size + 1, 1, none⟩) (by simp)
  have y2 := hb.frozen (p := ⟨w.heap.size + 1, 2, none⟩) (by simp)
  simp at c0 c1 c2 c3 c4 c5 z0 z1 z2 y0 y1 y2
  clear hb hg
  by_cases hne : P.n = want
  · subst hne
    go_wp2_with fail
    refine (HMO.out _).mono ?_
    rintro e w2 ⟨rfl, hw2⟩
    have B2 : Below w1.heap.size w1 w2 := by rw [hw2]; exact ((Below.refl _ w1).alloc (Nat.le_refl _) _).alloc (by simp) _
    have BX : Boxes w2 w1.heap.size (w1.heap.size + 1) ft ⟨s0, s1, s2, s3, s4, s5⟩ := by rw [hw2]; constructor <;> simp
    have sz2 : w2.heap.size = w1.heap.size + 2 := by rw [hw2]; simp
    have BW2 := HB.out.trans (B2.mono (by omega))
    have HBX := hide BX
    have HBW2 := hide BW2
    have HB2 := hide B2
    clear hw2 B2 BX BW2
    go_wp2_with fail
    refine (OfAny.play_all ((HSW.out.below HBW2.out (Nat.le_refl _)).mono (by omega)) HF.out ((HSH.out.below HBW2.out (Nat.le_refl _)).up (by omega)) hn63 ((HSI.out.below HBW2.out (Nat.le_refl _)).up (by omega)) HJW.out HIK.out (fun w' hb => HMK.out w' _ _ (HBX.out.below hb (by omega) (by omega)))).mono ?_
    rintro e w3 ⟨hb3, hc3⟩
    have sz3 := hb3.size
    have LA : LAll K P.n w2 P f most e w3 := ⟨hb3, by
      rcases hc3 with ⟨er, h1, h2⟩ | ⟨h1, h2, v, h3, h4⟩
      · exact .inl ⟨er, .inr ⟨rfl, h1⟩, h2⟩
      · exact .inr ⟨rfl, h1, h2, v, h3, told_touch h4 ((Touch.refl w3 (fun k => k = 0))) (by omega) (by omega)⟩⟩
    obtain ⟨sa, k, sc, wa, n, wc, en, aa, m, ac, er, rfl⟩ := LA.shape
    have hb13 := HB2.out.trans (hb3.mono (by omega))
    have u0 := (hb13.cell (p := ⟨w.heap.size + 1, 0, none⟩) (by show w.heap.size + 1 < _; omega)).trans z0
    have u1 := (hb13.cell (p := ⟨w.heap.size + 1, 1, none⟩) (by show w.heap.size + 1 < _; omega)).trans z1
    have u2 := (hb13.cell (p := ⟨w.heap.size + 1, 2, none⟩) (by show w.heap.size + 1 < _; omega)).trans z2
    have v0 := (hb13.frozen (p := ⟨w.heap.size + 1, 0, none⟩) (by show w.heap.size + 1 < _; omega)).trans y0
    have v1 := (hb13.frozen (p := ⟨w.heap.size + 1, 1, none⟩) (by show w.heap.size + 1 < _; omega)).trans y1
    have v2 := (hb13.frozen (p := ⟨w.heap.size + 1, 2, none⟩) (by show w.heap.size + 1 < _; omega)).trans y2
    have FIN := hide (LA.up HBW2.out (touch3 w3 (w.heap.size + 1) (.slice sa k sc) (.slice wa n wc) (.bool en)) (by omega) (by omega))
    clear hb3 hc3 LA hb13 c0 c1 c2 c3 c4 c5 z0 z1 z2 y0 y1 y2
    unfold tv3
    go_wp2_with fail
    go_light
    refine bodyPost_ret (v := tv3 sa k sc wa n wc en aa m ac er) ?_ rfl FIN.out
    simp [results, Try.results33, go_sem, tv3, *]
  · have hne' : ¬ (P.n : Int) = (want : Int) := by omega
    go_wp2_with fail
    go_light
    refine bodyPost_ret (v := errVal 121) ?_ rfl ⟨((HB.out.setCell (by simp) _).setCell (by simp) _).setCell (by simp) _, .inl ⟨121, .inl ⟨hne, rfl⟩, rfl⟩⟩
    simp [results, Try.results33, go_sem, errVal, *]
end Go.Proofs.Ytnodkeoikamonaa
/-
  The reference's run between two steps.
-/
namespace Go.Proofs.Ytnodkeoikamonaa
open Go.RowKit
set_option linter.unusedVariables false
set_option linter.unusedSimpArgs false
set_option linter.unnecessarySimpa false
set_option maxRecDepth 20000
open Beg
def rvL (sh : Shp) (P : Par) (blk : Rl → Nat) (capw : Nat) (vh sv : Value) (la : Int) : List Value := runCells sh (.slice (some ⟨blk .words, 0, none⟩) P.n capw) vh (sl (blk .tasks) P.nh) (sl (blk .going) P.nh) (sl (blk .run) P.nh) (sl (blk .mem) P.nh) sv (sl (blk .answers) P.nh) la
end Go.Proofs.Ytnodkeoikamonaa
/-
  The reference's comparisons: of steps, of traces.
-/
namespace Go.Proofs.Ytnodkeoikamonaa
open Go.RowKit
set_option linter.unusedVariables false
set_option linter.unusedSimpArgs false
set_option linter.unnecessarySimpa false
set_option maxRecDepth 20000
end Go.Proofs.Ytnodkeoikamonaa
/-
  Single cells of rows that grow.
-/
namespace Go.Proofs.Ytnodkeoikamonaa
open Go.RowKit
set_option linter.unusedVariables false
set_option linter.unusedSimpArgs false
set_option maxRecDepth 20000
theorem grows_cell {blk : Rl → Nat} {c : Rl → Option Row} {r : Rl} {e : TypeId} {sz k : Nat} {xs : List Value} {v : Value} {w : World} {base : Nat} (h : Grows blk c r e sz k xs v) (H : Has w base blk c) (hl : xs.length = k * sz) (hk : 0 < k) :
    ∃ b cap, v = .slice (some ⟨b, 0, none⟩) k cap ∧ b < w.heap.size ∧ base ≤ b ∧ ∀ i u, xs[i]? = some u → w.cell? ⟨b, i, none⟩ = some u := by
  rcases h with ⟨rfl, _⟩ | ⟨cap, F, rfl, hc, hkc, hcm, hp⟩
  · omega
  · refine ⟨blk r, cap, rfl, H.lt hc, H.new _ _ hc, fun i u hu => ?_⟩
    have hi : i < xs.length := by rcases Nat.lt_or_ge i xs.length with l | l; exact l; rw [List.getElem?_eq_none l] at hu; cases hu
    have hlt : i < cap * sz := by have := Nat.mul_le_mul_right sz hkc; omega
    rw [H.cell hc hlt]
    show some (F i) = _
    rw [hp i u hu]
theorem stepCells_get (s : Nat → Stp) (k j i : Nat) (hj : j < k) (hi : i < 6) : (stepCells s k)[j * 6 + i]? = some ((s j).cell i) := by
  induction k with
  | zero => omega
  | succ k ih =>
    simp only [stepCells]
    by_cases e : j = k
    · subst e
      rw [List.getElem?_append_right (by rw [stepCells_length]; omega), stepCells_length, show j * 6 + i - j * 6 = i by omega]
      match i, hi with
      | 0, _ | 1, _ | 2, _ | 3, _ | 4, _ | 5, _ => rfl
    · rw [List.getElem?_append_left (by rw [stepCells_length]; omega)]
      exact ih (by omega)
def Ans.cell (x : Ans) (i : Nat) : Value := match i with | 0 => .bool x.ok | _ => .int .u64 x.val
theorem ansCells_get (a : Nat → Ans) (k j i : Nat) (hj : j < k) (hi : i < 2) : (ansCells a k)[j * 2 + i]? = some (Ans.cell (a j) i) := by
  induction k with
  | zero => omega
  | succ k ih =>
    simp only [ansCells]
    by_cases e : j = k
    · subst e
      rw [List.getElem?_append_right (by rw [ansCells_length]; omega), ansCells_length, show j * 2 + i - j * 2 = i by omega]
      match i, hi with
      | 0, _ | 1, _ => rfl
    · rw [List.getElem?_append_left (by rw [ansCells_length]; omega)]
      exact ih (by omega)
theorem row_arr (w : World) (arr : Array Value) (t : TypeId) : (w.alloc (.cells arr t)).rowIs w.heap.size t arr.size (fun i => arr.getD i undef) :=
  World.rowIs_alloc w arr t _ (fun i hi => by simp [Array.getD, hi])
end Go.Proofs.Ytnodkeoikamonaa
/-
  The reference's comparison of answers; a told run as it is seen.
-/
namespace Go.Proofs.Ytnodkeoikamonaa
open Go.RowKit
set_option linter.unusedVariables false
set_option linter.unusedSimpArgs false
set_option linter.unnecessarySimpa false
set_option maxRecDepth 20000
def SeesA (w : World) (B : Nat) (ao : Option Addr) (nh : Nat) (dn : Nat → Nat) (an : Nat → Nat → Ans) : Prop :=
  ∀ h, h < nh → ∃ b off av cap, ao = some ⟨b, off, none⟩ ∧ b < B ∧ w.cell? ⟨b, off + h, none⟩ = some (.slice av (dn h) cap) ∧ ∀ j, j < dn h → ∃ b' off', av = some ⟨b', off', none⟩ ∧ b' < B ∧ ∀ i, i < 2 → w.cell? ⟨b', off' + j * 2 + i, none⟩ = some (Ans.cell (an h j) i)
theorem SeesA.below {w w' : World} {B C : Nat} {ao : Option Addr} {nh : Nat} {dn : Nat → Nat} {an : Nat → Nat → Ans} (S : SeesA w B ao nh dn an) (hb : Below C w w') (hBC : B ≤ C) : SeesA w' B ao nh dn an := fun h hh => by
  obtain ⟨b, off, av, cap, e, hl, hc, hj⟩ := S h hh
  refine ⟨b, off, av, cap, e, hl, (hb.cell (p := ⟨b, off + h, none⟩) (by show b < C; omega)).trans hc, fun j hjj => ?_⟩
  obtain ⟨b', off', e', hl', hc'⟩ := hj j hjj
  exact ⟨b', off', e', hl', fun i hi => (hb.cell (p := ⟨b', off' + j * 2 + i, none⟩) (by show b' < C; omega)).trans (hc' i hi)⟩
theorem SeesA.mono {w : World} {B C : Nat} {ao : Option Addr} {nh : Nat} {dn : Nat → Nat} {an : Nat → Nat → Ans} (S : SeesA w B ao nh dn an) (hBC : B ≤ C) : SeesA w C ao nh dn an := fun h hh => by
  obtain ⟨b, off, av, cap, e, hl, hc, hj⟩ := S h hh
  exact ⟨b, off, av, cap, e, by omega, hc, fun j hjj => by obtain ⟨b', off', e', hl', hc'⟩ := hj j hjj; exact ⟨b', off', e', by omega, hc'⟩⟩
theorem Grows.seesS {blk : Rl → Nat} {c : Rl → Option Row} {k : Nat} {s : Nat → Stp} {w : World} {base : Nat} {sa : Option Addr} {sc : Nat} (h : Grows blk c .steps 63 6 k (stepCells s k) (.slice sa k sc)) (H : Has w base blk c) : SeesS w w.heap.size sa k s := fun j hj => by
  obtain ⟨b, cap, e, hl, _, hc⟩ := grows_cell h H (stepCells_length _ _) (by omega)
  injection e with e1 _ _
  refine ⟨b, 0, e1, hl, fun i hi => ?_⟩
  rw [Nat.zero_add]
  exact hc _ _ (stepCells_get s k j i hj hi)
theorem first_not (p : Nat → Prop) : ∀ n, (∀ i, i < n → p i) ∨ ∃ i, i < n ∧ ¬ p i ∧ ∀ j, j < i → p j
  | 0 => .inl (fun i hi => absurd hi (Nat.not_lt_zero i))
  | n + 1 => by
    rcases first_not p n with h | ⟨i, hi, h1, h2⟩
    · by_cases hp : p n
      · exact .inl (fun i hi => by rcases Nat.lt_or_ge i n with l | l; exact h i l; obtain rfl : i = n := (by omega); exact hp)
      · exact .inr ⟨n, by omega, hp, h⟩
    · exact .inr ⟨i, by omega, h1, h2⟩
theorem ErrOf.one {K : Kd} {P : Par} {most e e' : Int} (h : ErrOf K P most e) (h' : ErrOf K P most e') : e = e' := by
  have neg : ¬ (LongHands P.nh P.jn ∨ 65536 < P.ns ∨ 65536 < most) ∨ (LongHands P.nh P.jn ∨ 65536 < P.ns ∨ 65536 < most) := (Classical.em _).symm
  rcases h with ⟨a1, rfl⟩ | ⟨a1, a2, rfl⟩ | ⟨a1, a2, a3, a4, rfl⟩ | ⟨⟨a1, a2, a3, a4, a5⟩, a6⟩ <;> rcases h' with ⟨b1, rfl⟩ | ⟨b1, b2, rfl⟩ | ⟨b1, b2, b3, b4, rfl⟩ | ⟨⟨b1, b2, b3, b4, b5⟩, b6⟩
  all_goals first
    | rfl
    | (exfalso; omega)
    | (exfalso; rcases a2 with a2 | a2 | a2; exact b2 a2; omega; omega)
    | (exfalso; rcases b2 with b2 | b2 | b2; exact a2 b2; omega; omega)
    | exact a6.one b6
theorem ErrOf.not {K : Kd} {P : Par} {most e : Int} (h : ErrOf K P most e) : ¬ (Fine P most ∧ AllOk K P) := by
  rintro ⟨⟨b1, b2, b3, b4, b5⟩, b6⟩
  rcases h with ⟨a1, _⟩ | ⟨a1, a2, _⟩ | ⟨a1, a2, a3, a4, _⟩ | ⟨_, a6⟩
  · omega
  · rcases a2 with a2 | a2 | a2
    · exact b2 a2
    · omega
    · omega
  · omega
  · exact a6.not b6
end Go.Proofs.Ytnodkeoikamonaa
/-
  From a walk to a law's statement, whatever the law's arguments: where the call answers true and turns nothing below the heap's old size, the arguments read as they did, and the row's step holds.
-/
namespace Go.Proofs.Ytnodkeoikamonaa
namespace Lift
open Go.ChangeShapes Go.WideShapes Go.ChangeAt Go.RowKit
set_option linter.unusedVariables false
theorem own : ownKnob Try.prog.godebug = none := by kernel_rfl
theorem laidOut : laidOutB Try.prog = true := by kernel_rfl
theorem trodAll_below {H : Type} {enc : TypeId × Value → H} {P : Program} (hl : laidOutB P = true) {W W' : World} (hb : Below W.heap.size W W') :
    ∀ (ts : List TypeId) (vs : List Value) (ds : List (DataW H)) (p : List MemPlace), (ts.all fun t => P.readableRec t && decide (t < P.types.size)) = true →
      DataW.TrodAll enc P W 0 (fun _ => true) true ts vs ds p → DataW.TrodAll enc P W' 0 (fun b => decide (b < W.heap.size)) true ts vs ds p := by
  intro ts
  induction ts with
  | nil =>
    intro vs ds p _ h
    obtain ⟨rfl, rfl, rfl⟩ := trodAll_nil h
    exact trodAll_mk0
  | cons t ts ih =>
    intro vs ds p hr h
    obtain ⟨v, vs', d, ds', p1, q1, rfl, rfl, rfl, h1, h2⟩ := trodAll_cons h
    simp only [List.all_cons, Bool.and_eq_true, decide_eq_true_eq] at hr
    have lt : ∀ x ∈ p1, x.block < W.heap.size := by obtain ⟨m, hm⟩ := h1; exact DataW.trod_lt m _ _ _ hm
    exact trodAll_cons_mk (Below.trod hl hr.1.1 hr.1.2 h1 hb lt) (ih vs' ds' q1 hr.2 h2)
structure IsLaw (s : ChangeSpec) (n : Nat) : Prop where
  vars : s.vars = []
  fn : ∀ (H : Type) (ds : List (DataW H)), ds.length = n → s.fn H (ds ++ []) = { results := [.lit (.bool true)], args := ds }
theorem trodAll_length {H : Type} {enc : TypeId × Value → H} {P : Program} {w : World} {base : Nat} {spare : Nat → Bool} {held : Bool} :
    ∀ (ts : List TypeId) (vs : List Value) (ds : List (DataW H)) (p : List MemPlace), DataW.TrodAll enc P w base spare held ts vs ds p → ds.length = ts.length := by
  intro ts
  induction ts with
  | nil => intro vs ds p h; obtain ⟨rfl, rfl, rfl⟩ := trodAll_nil h; rfl
  | cons t ts ih =>
    intro vs ds p h
    obtain ⟨v, vs', d, ds', p1, q1, rfl, rfl, rfl, h1, h2⟩ := trodAll_cons h
    simp [ih vs' ds' q1 h2]
theorem contract {H : Type} (enc : TypeId × Value → H) {f : FuncId} {fn : Func} {s : ChangeSpec} {tb : TypeId} (hs : IsLaw s fn.params.size)
    (hr : (fn.params.toList.all fun t => Try.prog.readableRec t && decide (t < Try.prog.types.size)) = true) (hres : fn.resultTypes = #[tb]) (htb : Try.prog.underlying tb = some .bool)
    (W : World) (args : Array Value) (ds gs : List (DataW H)) (before : List MemPlace)
    (hW : DataW.Whole enc Try.prog fn.params.toList s.vars false W args.toList ds gs before)
    (walk : ∀ p, DataW.TrodAll enc Try.prog W 0 (fun _ => true) true fn.params.toList args.toList ds p → Calls Try.prog f args W fun e W' => e = .returned (.bool true) ∧ Below W.heap.size W W') :
    Calls Try.prog f args W fun e W' => ∃ v, e = .returned v ∧ s.post enc Try.prog fn false true false false W args v W' := by
  have hW' := hW
  obtain ⟨p, q, hA, hV, rfl, hfz, hnd⟩ := hW
  have hn := trodAll_length _ _ _ _ hA
  rw [hs.vars] at hV
  obtain ⟨rfl, rfl⟩ := trodVars_none hV
  have he := hs.fn H ds (by simpa using hn)
  refine (walk p hA).mono fun e W' ⟨hee, bel⟩ => ?_
  subst hee
  refine ⟨_, rfl, ds, [], _, [], p, [], hW', ?_, ?_, ?_, bel.frame _, fun h => by cases h⟩
  · rw [he, hres]
    exact trodAll_mk1 (shut_bool htb _)
  · rw [he]
    exact trodAll_below laidOut bel _ _ _ _ hr hA
  · rw [he, hs.vars]
    rfl
theorem leaving {a : Assume} {C : Checked} {os : Os} {f : FuncId} {r : Reach} {Pre : World → Array Value → Prop} {Post : World → Array Value → Value → World → Prop} (h : ReturnsInHanded a C os f r Pre Post) : ReturnsInLeavingWide a C os f r Pre Post := fun enter => by
  obtain ⟨h1, h2, h3, h4, h5⟩ := h enter
  refine ⟨h1, h2, h3, h4, fun w tape i hf => ?_⟩
  obtain ⟨n, v, w', e1, e2, e3, e4, ⟨j, last, e5, e6, q, ho, eh⟩, e8⟩ := h5 w tape i hf
  exact ⟨n, v, w', e1, e2, e3, e4, ⟨j, last, e5, e6, ho, onlyLeaving_of_quiet q, eh⟩, e8⟩
end Lift
end Go.Proofs.Ytnodkeoikamonaa
