/-
  Lemmas: ListK.
-/
import Derived.Test.YtidihnnmdmlgfaaGreatTq28
import Derived.Test.YtidihnnmdmlgfaaGreatTq30
namespace Go.Proofs.YtidihnnmdmlgfaaGreat
set_option maxHeartbeats 8000000
open Go.RowKit
set_option linter.unusedVariables false
set_option linter.unusedSimpArgs false
set_option maxRecDepth 20000
section
namespace Ls
open Hp
structure O where
  lay : Bool
  sh : Shp
  hand : Int
  lst : Int
  g : Int
  ix : Int
  bl : Int
inductive A where
  | meet | tie | lay | find | peek | take
def act : A → FuncId
  | .meet => 99
  | .tie => 105
  | .lay => 107
  | .find => 54
  | .peek => 66
  | .take => 77
def own (o : O) (k : Nat) : Value := if o.lay = true then lC o.hand .nilFunc .nilFunc .nilFunc ⟨false, 0⟩ o.lst o.g o.ix (behAt o.sh o.lst o.ix) (k + 6) else dC o.sh o.hand .nilFunc .nilFunc .nilFunc ⟨false, 0⟩ o.lst o.g o.bl (k + 6)
def req (a : A) (o : O) : Stp :=
  match a with
  | .meet => ⟨o.hand, 1, o.lst, 0, 0, true⟩
  | .tie => ⟨o.hand, 2, behAt o.sh o.lst o.ix, 0, idx o.g, true⟩
  | .lay => ⟨o.hand, 5, o.lst, o.g, bmp o.g o.ix, true⟩
  | .find => ⟨o.hand, 1, o.lst, 0, 0, true⟩
  | .peek => ⟨o.hand, 1, behAt o.sh o.lst (idx o.g), 0, 0, true⟩
  | .take => ⟨o.hand, 5, o.lst, o.g, bmp o.g o.bl, true⟩
noncomputable def out (a : A) (o : O) (x : Stp) : O × Goes A Unit Empty :=
  open Classical in
  match a with
  | .meet => ({ o with g := x.had }, .on .tie)
  | .tie => (o, .on .lay)
  | .lay => (o, if x.ok = true then .done ⟨true, 0⟩ else .on .meet)
  | .find => ({ o with g := x.had }, if there o.sh (idx x.had) then .on .peek else .stop)
  | .peek => ({ o with bl := idx x.had }, .on .take)
  | .take => (o, if x.ok = true then .done ⟨true, idx o.g⟩ else .on .find)
noncomputable def W : Wk kNone where
  τ := O
  A := A
  β := Empty
  T := fun o => if o.lay = true then 161 else 134
  n := fun o => if o.lay = true then 10 else 15
  c := 0
  hand := fun o => o.hand
  own := own
  act := act
  fb := fun b => b.elim
  first := fun b => b.elim
  caps := fun b => b.elim
  box := fun b => b.elim
  req := req
  out := out
  beh := fun b => b.elim
def wfA (sh : Shp) (a : A) (o : O) : Prop :=
  o.sh = sh ∧ (0 ≤ o.g ∧ o.g ≤ 18446744073709551615) ∧ match a with
    | .meet | .tie | .lay => o.lay = true
    | _ => o.lay = false
theorem row_lay {o : O} (h : o.lay = true) (v1 v2 v3 : Value) (t : Ans) : W.mrow o v1 v2 v3 t = lC o.hand v1 v2 v3 t o.lst o.g o.ix (behAt o.sh o.lst o.ix) := by
  funext k
  match k with
  | 0 | 1 | 2 | 3 | 4 | 5 => rfl
  | k + 6 =>
    show own o k = _
    unfold own
    rw [if_pos h]
    match k with
    | 0 | 1 | 2 => rfl
    | k + 3 => rfl
theorem row_draw {o : O} (h : o.lay = false) (v1 v2 v3 : Value) (t : Ans) : W.mrow o v1 v2 v3 t = dC o.sh o.hand v1 v2 v3 t o.lst o.g o.bl := by
  funext k
  match k with
  | 0 | 1 | 2 | 3 | 4 | 5 => rfl
  | k + 6 =>
    show own o k = _
    unfold own
    rw [if_neg (by rw [h]; decide)]
    match k with
    | 0 | 1 | 2 | 3 | 4 | 5 | 6 | 7 => rfl
    | k + 8 => rfl
theorem up_lay {w : World} {b : Nat} {o o1 : O} (h1 : o1.lay = true) (h : o.lay = true) {v1 v2 v3 : Value} {t : Ans} (hr : w.rowIs b 161 10 (lC o.hand v1 v2 v3 t o.lst o.g o.ix (behAt o.sh o.lst o.ix))) : w.rowIs b (W.T o1) (W.n o1) (W.mrow o v1 v2 v3 t) := by
  rw [row_lay h]
  have e1 : W.T o1 = 161 := by show (if o1.lay = true then _ else _) = _; rw [if_pos h1]
  have e2 : W.n o1 = 10 := by show (if o1.lay = true then _ else _) = _; rw [if_pos h1]
  rw [e1, e2]
  exact hr
theorem up_draw {w : World} {b : Nat} {o o1 : O} (h1 : o1.lay = false) (h : o.lay = false) {v1 v2 v3 : Value} {t : Ans} (hr : w.rowIs b 134 15 (dC o.sh o.hand v1 v2 v3 t o.lst o.g o.bl)) : w.rowIs b (W.T o1) (W.n o1) (W.mrow o v1 v2 v3 t) := by
  rw [row_draw h]
  have e1 : W.T o1 = 134 := by show (if o1.lay = true then _ else _) = _; rw [if_neg (by rw [h1]; decide)]
  have e2 : W.n o1 = 15 := by show (if o1.lay = true then _ else _) = _; rw [if_neg (by rw [h1]; decide)]
  rw [e1, e2]
  exact hr
theorem flat_meet {sh : Shp} {hand lst g ix bl : Int} (hg : 0 ≤ g ∧ g ≤ 18446744073709551615) : W.FlatOk .meet ⟨true, sh, hand, lst, g, ix, bl⟩ := by
  intro w b bm bw n f v2 v3 t hr hm h1 h2
  have hxh := had_bounds hm.word (req .meet ⟨true, sh, hand, lst, g, ix, bl⟩)
  have hr' : w.rowIs b 161 10 (lC hand (.func (.func (act .meet)) #[Wk.ptr b] #[]) v2 v3 t lst g ix (behAt sh lst ix)) := by
    have h := hr
    rw [show W.mrow ⟨true, sh, hand, lst, g, ix, bl⟩ (.func (.func (W.act .meet)) #[Wk.ptr b] #[]) v2 v3 t = _ from row_lay (o := ⟨true, sh, hand, lst, g, ix, bl⟩) rfl _ _ _ _] at h
    exact h
  refine ⟨rfl, rfl, (meet_any hr' hm h1 h2  rfl rfl).mono ?_⟩
  rintro e w' ⟨rfl, r, m, tt⟩
  exact ⟨rfl, ⟨_, rfl, up_lay (o := (W.out .meet ⟨true, sh, hand, lst, g, ix, bl⟩ (stepOf n f (req .meet ⟨true, sh, hand, lst, g, ix, bl⟩))).1) rfl rfl r⟩, m, tt⟩
theorem flat_tie {sh : Shp} {hand lst g ix bl : Int} (hg : 0 ≤ g ∧ g ≤ 18446744073709551615) : W.FlatOk .tie ⟨true, sh, hand, lst, g, ix, bl⟩ := by
  intro w b bm bw n f v2 v3 t hr hm h1 h2
  have hxh := had_bounds hm.word (req .tie ⟨true, sh, hand, lst, g, ix, bl⟩)
  have hr' : w.rowIs b 161 10 (lC hand (.func (.func (act .tie)) #[Wk.ptr b] #[]) v2 v3 t lst g ix (behAt sh lst ix)) := by
    have h := hr
    rw [show W.mrow ⟨true, sh, hand, lst, g, ix, bl⟩ (.func (.func (W.act .tie)) #[Wk.ptr b] #[]) v2 v3 t = _ from row_lay (o := ⟨true, sh, hand, lst, g, ix, bl⟩) rfl _ _ _ _] at h
    exact h
  refine ⟨rfl, rfl, (tie_any hr' hm h1 h2 hg rfl rfl).mono ?_⟩
  rintro e w' ⟨rfl, r, m, tt⟩
  exact ⟨rfl, ⟨_, rfl, up_lay (o := (W.out .tie ⟨true, sh, hand, lst, g, ix, bl⟩ (stepOf n f (req .tie ⟨true, sh, hand, lst, g, ix, bl⟩))).1) rfl rfl r⟩, m, tt⟩
theorem flat_lay {sh : Shp} {hand lst g ix bl : Int} (hg : 0 ≤ g ∧ g ≤ 18446744073709551615) : W.FlatOk .lay ⟨true, sh, hand, lst, g, ix, bl⟩ := by
  intro w b bm bw n f v2 v3 t hr hm h1 h2
  have hxh := had_bounds hm.word (req .lay ⟨true, sh, hand, lst, g, ix, bl⟩)
  have hr' : w.rowIs b 161 10 (lC hand (.func (.func (act .lay)) #[Wk.ptr b] #[]) v2 v3 t lst g ix (behAt sh lst ix)) := by
    have h := hr
    rw [show W.mrow ⟨true, sh, hand, lst, g, ix, bl⟩ (.func (.func (W.act .lay)) #[Wk.ptr b] #[]) v2 v3 t = _ from row_lay (o := ⟨true, sh, hand, lst, g, ix, bl⟩) rfl _ _ _ _] at h
    exact h
  by_cases hc : (stepOf n f (req .lay ⟨true, sh, hand, lst, g, ix, bl⟩)).ok = true
  · have eo : W.out .lay ⟨true, sh, hand, lst, g, ix, bl⟩ (stepOf n f (W.req .lay ⟨true, sh, hand, lst, g, ix, bl⟩)) = ((⟨true, sh, hand, lst, g, ix, bl⟩ : O), .done ⟨true, 0⟩) := by show out .lay ⟨true, sh, hand, lst, g, ix, bl⟩ (stepOf n f (req .lay ⟨true, sh, hand, lst, g, ix, bl⟩)) = _; unfold out; dsimp only; rw [if_pos hc]; rfl
    rw [eo]
    refine ⟨rfl, rfl, (lay_yes hr' hm h1 h2 hg hc rfl rfl).mono ?_⟩
    rintro e w' ⟨rfl, r, m, tt⟩
    exact ⟨rfl, ⟨_, trivial, up_lay (o := (⟨true, sh, hand, lst, g, ix, bl⟩ : O)) rfl rfl r⟩, m, tt⟩
  · have eo : W.out .lay ⟨true, sh, hand, lst, g, ix, bl⟩ (stepOf n f (W.req .lay ⟨true, sh, hand, lst, g, ix, bl⟩)) = ((⟨true, sh, hand, lst, g, ix, bl⟩ : O), .on .meet) := by show out .lay ⟨true, sh, hand, lst, g, ix, bl⟩ (stepOf n f (req .lay ⟨true, sh, hand, lst, g, ix, bl⟩)) = _; unfold out; dsimp only; rw [if_neg hc]; rfl
    rw [eo]
    refine ⟨rfl, rfl, (lay_no hr' hm h1 h2 hg ((Bool.not_eq_true _).mp hc) rfl rfl).mono ?_⟩
    rintro e w' ⟨rfl, r, m, tt⟩
    exact ⟨rfl, ⟨_, rfl, up_lay (o := (⟨true, sh, hand, lst, g, ix, bl⟩ : O)) rfl rfl r⟩, m, tt⟩
theorem flat_find {sh : Shp} {hand lst g ix bl : Int} (hg : 0 ≤ g ∧ g ≤ 18446744073709551615) : W.FlatOk .find ⟨false, sh, hand, lst, g, ix, bl⟩ := by
  intro w b bm bw n f v2 v3 t hr hm h1 h2
  have hxh := had_bounds hm.word (req .find ⟨false, sh, hand, lst, g, ix, bl⟩)
  have hr' : w.rowIs b 134 15 (dC sh hand (.func (.func (act .find)) #[Wk.ptr b] #[]) v2 v3 t lst g bl) := by
    have h := hr
    rw [show W.mrow ⟨false, sh, hand, lst, g, ix, bl⟩ (.func (.func (W.act .find)) #[Wk.ptr b] #[]) v2 v3 t = _ from row_draw (o := ⟨false, sh, hand, lst, g, ix, bl⟩) rfl _ _ _ _] at h
    exact h
  by_cases hc : there sh (idx (stepOf n f (req .find ⟨false, sh, hand, lst, g, ix, bl⟩)).had)
  · have eo : W.out .find ⟨false, sh, hand, lst, g, ix, bl⟩ (stepOf n f (W.req .find ⟨false, sh, hand, lst, g, ix, bl⟩)) = ((⟨false, sh, hand, lst, (stepOf n f (req .find ⟨false, sh, hand, lst, g, ix, bl⟩)).had, ix, bl⟩ : O), .on .peek) := by show out .find ⟨false, sh, hand, lst, g, ix, bl⟩ (stepOf n f (req .find ⟨false, sh, hand, lst, g, ix, bl⟩)) = _; unfold out; dsimp only; rw [if_pos hc]; rfl
    rw [eo]
    refine ⟨rfl, rfl, (find_yes hr' hm h1 h2 hxh hc rfl rfl).mono ?_⟩
    rintro e w' ⟨rfl, r, m, tt⟩
    exact ⟨rfl, ⟨_, rfl, up_draw (o := (⟨false, sh, hand, lst, (stepOf n f (req .find ⟨false, sh, hand, lst, g, ix, bl⟩)).had, ix, bl⟩ : O)) rfl rfl r⟩, m, tt⟩
  · have eo : W.out .find ⟨false, sh, hand, lst, g, ix, bl⟩ (stepOf n f (W.req .find ⟨false, sh, hand, lst, g, ix, bl⟩)) = ((⟨false, sh, hand, lst, (stepOf n f (req .find ⟨false, sh, hand, lst, g, ix, bl⟩)).had, ix, bl⟩ : O), .stop) := by show out .find ⟨false, sh, hand, lst, g, ix, bl⟩ (stepOf n f (req .find ⟨false, sh, hand, lst, g, ix, bl⟩)) = _; unfold out; dsimp only; rw [if_neg hc]; rfl
    rw [eo]
    refine ⟨rfl, rfl, (find_no hr' hm h1 h2 hxh hc rfl rfl).mono ?_⟩
    rintro e w' ⟨rfl, r, m, tt⟩
    exact ⟨rfl, ⟨_, trivial, up_draw (o := (⟨false, sh, hand, lst, (stepOf n f (req .find ⟨false, sh, hand, lst, g, ix, bl⟩)).had, ix, bl⟩ : O)) rfl rfl r⟩, m, tt⟩
theorem flat_peek {sh : Shp} (h5 : Shape.R5 sh.a sh.b sh.c sh.d sh.e) {hand lst g ix bl : Int} (hg : 0 ≤ g ∧ g ≤ 18446744073709551615) : W.FlatOk .peek ⟨false, sh, hand, lst, g, ix, bl⟩ := by
  intro w b bm bw n f v2 v3 t hr hm h1 h2
  have hxh := had_bounds hm.word (req .peek ⟨false, sh, hand, lst, g, ix, bl⟩)
  have hr' : w.rowIs b 134 15 (dC sh hand (.func (.func (act .peek)) #[Wk.ptr b] #[]) v2 v3 t lst g bl) := by
    have h := hr
    rw [show W.mrow ⟨false, sh, hand, lst, g, ix, bl⟩ (.func (.func (W.act .peek)) #[Wk.ptr b] #[]) v2 v3 t = _ from row_draw (o := ⟨false, sh, hand, lst, g, ix, bl⟩) rfl _ _ _ _] at h
    exact h
  refine ⟨rfl, rfl, (peek_any hr' hm h1 h2 h5 hg hxh rfl rfl).mono ?_⟩
  rintro e w' ⟨rfl, r, m, tt⟩
  exact ⟨rfl, ⟨_, rfl, up_draw (o := (W.out .peek ⟨false, sh, hand, lst, g, ix, bl⟩ (stepOf n f (req .peek ⟨false, sh, hand, lst, g, ix, bl⟩))).1) rfl rfl r⟩, m, tt⟩
theorem flat_take {sh : Shp} {hand lst g ix bl : Int} (hg : 0 ≤ g ∧ g ≤ 18446744073709551615) : W.FlatOk .take ⟨false, sh, hand, lst, g, ix, bl⟩ := by
  intro w b bm bw n f v2 v3 t hr hm h1 h2
  have hxh := had_bounds hm.word (req .take ⟨false, sh, hand, lst, g, ix, bl⟩)
  have hr' : w.rowIs b 134 15 (dC sh hand (.func (.func (act .take)) #[Wk.ptr b] #[]) v2 v3 t lst g bl) := by
    have h := hr
    rw [show W.mrow ⟨false, sh, hand, lst, g, ix, bl⟩ (.func (.func (W.act .take)) #[Wk.ptr b] #[]) v2 v3 t = _ from row_draw (o := ⟨false, sh, hand, lst, g, ix, bl⟩) rfl _ _ _ _] at h
    exact h
  by_cases hc : (stepOf n f (req .take ⟨false, sh, hand, lst, g, ix, bl⟩)).ok = true
  · have eo : W.out .take ⟨false, sh, hand, lst, g, ix, bl⟩ (stepOf n f (W.req .take ⟨false, sh, hand, lst, g, ix, bl⟩)) = ((⟨false, sh, hand, lst, g, ix, bl⟩ : O), .done ⟨true, idx g⟩) := by show out .take ⟨false, sh, hand, lst, g, ix, bl⟩ (stepOf n f (req .take ⟨false, sh, hand, lst, g, ix, bl⟩)) = _; unfold out; dsimp only; rw [if_pos hc]; rfl
    rw [eo]
    refine ⟨rfl, rfl, (take_yes hr' hm h1 h2 hg hc rfl rfl).mono ?_⟩
    rintro e w' ⟨rfl, r, m, tt⟩
    exact ⟨rfl, ⟨_, trivial, up_draw (o := (⟨false, sh, hand, lst, g, ix, bl⟩ : O)) rfl rfl r⟩, m, tt⟩
  · have eo : W.out .take ⟨false, sh, hand, lst, g, ix, bl⟩ (stepOf n f (W.req .take ⟨false, sh, hand, lst, g, ix, bl⟩)) = ((⟨false, sh, hand, lst, g, ix, bl⟩ : O), .on .find) := by show out .take ⟨false, sh, hand, lst, g, ix, bl⟩ (stepOf n f (req .take ⟨false, sh, hand, lst, g, ix, bl⟩)) = _; unfold out; dsimp only; rw [if_neg hc]; rfl
    rw [eo]
    refine ⟨rfl, rfl, (take_no hr' hm h1 h2 hg ((Bool.not_eq_true _).mp hc) rfl rfl).mono ?_⟩
    rintro e w' ⟨rfl, r, m, tt⟩
    exact ⟨rfl, ⟨_, rfl, up_draw (o := (⟨false, sh, hand, lst, g, ix, bl⟩ : O)) rfl rfl r⟩, m, tt⟩
theorem flat {sh : Shp} (h5 : Shape.R5 sh.a sh.b sh.c sh.d sh.e) {a : A} {o : O} (h : wfA sh a o) : W.FlatOk a o := by
  obtain ⟨e, hg, hl⟩ := h
  obtain ⟨lay, sh', hand, lst, g, ix, bl⟩ := o
  obtain rfl : sh' = sh := e
  cases a with
  | meet => obtain rfl : lay = true := hl; exact flat_meet hg
  | tie => obtain rfl : lay = true := hl; exact flat_tie hg
  | lay => obtain rfl : lay = true := hl; exact flat_lay hg
  | find => obtain rfl : lay = false := hl; exact flat_find hg
  | peek => obtain rfl : lay = false := hl; exact flat_peek h5 hg
  | take => obtain rfl : lay = false := hl; exact flat_take hg
def init (sh : Shp) (h : Int) (j : Jb) : WS W :=
  if j.kind = 1 then ⟨⟨true, sh, h, j.a, 0, j.b, 0⟩, .on .meet, ⟨false, 0⟩⟩ else ⟨⟨false, sh, h, j.a, 0, 0, 0⟩, .on .find, ⟨false, 0⟩⟩
def tid (j : Jb) : TypeId := if j.kind = 1 then 159 else 130
def wf (sh : Shp) (j : Jb) (s : WS W) : Prop := (j.kind = 1 ↔ s.own.lay = true) ∧ match s.md with
  | .on a => wfA sh a s.own
  | _ => False
noncomputable def kList (sh : Shp) : Kd := W.kd (fun _ _ => 0) (init sh) tid (wf sh)
theorem ms1 (b : Nat) (w : World) : (method 283 159 (Wk.ptr b) "Step").run Tryz.prog w = .ok (125, Wk.ptr b) w := by kernel_rfl
theorem ma1 (b : Nat) (w : World) : (method 283 159 (Wk.ptr b) "Answer").run Tryz.prog w = .ok (124, Wk.ptr b) w := by kernel_rfl
theorem ms2 (b : Nat) (w : World) : (method 283 130 (Wk.ptr b) "Step").run Tryz.prog w = .ok (125, Wk.ptr b) w := by kernel_rfl
theorem ma2 (b : Nat) (w : World) : (method 283 130 (Wk.ptr b) "Answer").run Tryz.prog w = .ok (124, Wk.ptr b) w := by kernel_rfl
theorem fits {sh : Shp} (h5 : Shape.R5 sh.a sh.b sh.c sh.d sh.e) : W.Fits (fun _ _ => 0) (init sh) tid (wf sh) where
  loc := {
    first := fun b => b.elim
    caps := fun b => b.elim
    box := fun b => b.elim
    six := fun o => by show 6 ≤ (if o.lay = true then 10 else 15); split <;> omega
    actF := fun a args w => by cases a <;> simp [W, act, go_sem]
    behF := fun b => b.elim }
  part := isKindNone
  start := fun h j _ => by
    unfold init wf
    by_cases hk : j.kind = 1
    · rw [if_pos hk]; exact ⟨⟨fun _ => rfl, fun _ => hk⟩, rfl, ⟨by show (0 : Int) ≤ 0; omega, by show (0 : Int) ≤ 18446744073709551615; omega⟩, rfl⟩
    · rw [if_neg hk]; exact ⟨⟨fun e => absurd e hk, fun e => by cases e⟩, rfl, ⟨by show (0 : Int) ≤ 0; omega, by show (0 : Int) ≤ 18446744073709551615; omega⟩, rfl⟩
  keep := fun j s n f hf hw hn => by
    obtain ⟨o, md, t⟩ := s
    cases md with
    | along pj ps b => exact b.elim
    | ended => exact absurd hw.2 id
    | on a =>
      obtain ⟨hk, e, hg, hl⟩ := hw
      have hx := had_bounds hf (W.req' ⟨o, .on a, t⟩)
      generalize stepOf n f (W.req' ⟨o, .on a, t⟩) = x at hn hx ⊢
      simp only at hk e hg hl
      cases a with
      | meet => exact ⟨hk, e, hx, hl⟩
      | tie => exact ⟨hk, e, hg, hl⟩
      | peek => exact ⟨hk, e, hg, hl⟩
      | lay =>
        by_cases hc : x.ok = true
        · have eo : W.next' ⟨o, .on .lay, t⟩ x = ⟨o, .ended, ⟨true, 0⟩⟩ := by show W.apply t (out .lay o x) = _; unfold out; dsimp only; rw [if_pos hc]; rfl
          rw [eo] at hn ⊢
          exact absurd rfl hn
        · have eo : W.next' ⟨o, .on .lay, t⟩ x = ⟨o, .on .meet, t⟩ := by show W.apply t (out .lay o x) = _; unfold out; dsimp only; rw [if_neg hc]; rfl
          rw [eo] at hn ⊢
          exact ⟨hk, e, hg, hl⟩
      | find =>
        by_cases hc : there o.sh (idx x.had)
        · have eo : W.next' ⟨o, .on .find, t⟩ x = ⟨{ o with g := x.had }, .on .peek, t⟩ := by show W.apply t (out .find o x) = _; unfold out; dsimp only; rw [if_pos hc]; rfl
          rw [eo] at hn ⊢
          exact ⟨hk, e, hx, hl⟩
        · have eo : W.next' ⟨o, .on .find, t⟩ x = ⟨{ o with g := x.had }, .ended, t⟩ := by show W.apply t (out .find o x) = _; unfold out; dsimp only; rw [if_neg hc]; rfl
          rw [eo] at hn ⊢
          exact absurd rfl hn
      | take =>
        by_cases hc : x.ok = true
        · have eo : W.next' ⟨o, .on .take, t⟩ x = ⟨o, .ended, ⟨true, idx o.g⟩⟩ := by show W.apply t (out .take o x) = _; unfold out; dsimp only; rw [if_pos hc]; rfl
          rw [eo] at hn ⊢
          exact absurd rfl hn
        · have eo : W.next' ⟨o, .on .take, t⟩ x = ⟨o, .on .find, t⟩ := by show W.apply t (out .take o x) = _; unfold out; dsimp only; rw [if_neg hc]; rfl
          rw [eo] at hn ⊢
          exact ⟨hk, e, hg, hl⟩
  act := fun j a o t hj hw => Wk.FlatOk.act W (flat h5 hw.2)
  beh := fun j pj ps b => b.elim
  mate := fun j pj ps b => b.elim
  live := fun j o t hw => hw.2
  meth := fun j _ b w => by
    unfold tid
    by_cases hk : j.kind = 1
    · rw [if_pos hk]; exact ⟨ms1 b w, ma1 b w⟩
    · rw [if_neg hk]; exact ⟨ms2 b w, ma2 b w⟩
theorem isKind {sh : Shp} (h5 : Shape.R5 sh.a sh.b sh.c sh.d sh.e) : IsKind (kList sh) := W.isKind (fits h5)
end Ls
end
end Go.Proofs.YtidihnnmdmlgfaaGreat
