/-
  Lemmas: ListK, RoomC, HistG.
-/
import Derived.Test.YtppgbndoijppnaaGreatTp26
import Derived.Test.YtppgbndoijppnaaGreatTp28
import Derived.Test.YtppgbndoijppnaaGreatTp06
import Derived.Test.YtppgbndoijppnaaGreatTp12
namespace Go.Proofs.YtppgbndoijppnaaGreat
set_option maxHeartbeats 8000000
open Go.RowKit
set_option linter.unusedVariables false
set_option linter.unusedSimpArgs false
set_option maxRecDepth 20000
section
namespace Ls
open Hp
structure O where
 lay : Bool
 sh : Shp
 hand : Int
 lst : Int
 g : Int
 ix : Int
 bl : Int
inductive A where
 | meet | tie | lay | find | peek | take
def act : A → FuncId
 | .meet => 138
 | .tie => 144
 | .lay => 146
 | .find => 63
 | .peek => 96
 | .take => 115
def own (o : O) (k : Nat) : Value := if o.lay = true then lC o.hand .nilFunc .nilFunc .nilFunc ⟨false, 0⟩ o.lst o.g o.ix (behAt o.sh o.lst o.ix) (k + 6) else dC o.sh o.hand .nilFunc .nilFunc .nilFunc ⟨false, 0⟩ o.lst o.g o.bl (k + 6)
def req (a : A) (o : O) : Stp :=
 match a with
 | .meet => ⟨o.hand, 1, o.lst, 0, 0, true⟩
 | .tie => ⟨o.hand, 2, behAt o.sh o.lst o.ix, 0, idx o.g, true⟩
 | .lay => ⟨o.hand, 5, o.lst, o.g, bmp o.g o.ix, true⟩
 | .find => ⟨o.hand, 1, o.lst, 0, 0, true⟩
 | .peek => ⟨o.hand, 1, behAt o.sh o.lst (idx o.g), 0, 0, true⟩
 | .take => ⟨o.hand, 5, o.lst, o.g, bmp o.g o.bl, true⟩
noncomputable def out (a : A) (o : O) (x : Stp) : O × Goes A Unit Empty :=
 open Classical in
 match a with
 | .meet => ({ o with g := x.had }, .on .tie)
 | .tie => (o, .on .lay)
 | .lay => (o, if x.ok = true then .done ⟨true, 0⟩ else .on .meet)
 | .find => ({ o with g := x.had }, if there o.sh (idx x.had) then .on .peek else .stop)
 | .peek => ({ o with bl := idx x.had }, .on .take)
 | .take => (o, if x.ok = true then .done ⟨true, idx o.g⟩ else .on .find)
noncomputable def W : Wk kNone where
 τ := O
 A := A
 β := Empty
 T := fun o => if o.lay = true then 200 else 150
 n := fun o => if o.lay = true then 10 else 15
 c := 0
 hand := fun o => o.hand
 own := own
 act := act
 fb := fun b => b.elim
 first := fun b => b.elim
 caps := fun b => b.elim
 box := fun b => b.elim
 req := req
 out := out
 beh := fun b => b.elim
def wfA (sh : Shp) (a : A) (o : O) : Prop :=
 o.sh = sh ∧ (0 ≤ o.g ∧ o.g ≤ 18446744073709551615) ∧ match a with
  | .meet | .tie | .lay => o.lay = true
  | _ => o.lay = false
theorem row_lay {o : O} (h : o.lay = true) (v1 v2 v3 : Value) (t : Ans) : W.mrow o v1 v2 v3 t = lC o.hand v1 v2 v3 t o.lst o.g o.ix (behAt o.sh o.lst o.ix) := by
 funext k
 match k with
 | 0 | 1 | 2 | 3 | 4 | 5 => rfl
 | k + 6 =>
  show own o k = _
  unfold own
  rw [if_pos h]
  match k with
  | 0 | 1 | 2 => rfl
  | k + 3 => rfl
theorem row_draw {o : O} (h : o.lay = false) (v1 v2 v3 : Value) (t : Ans) : W.mrow o v1 v2 v3 t = dC o.sh o.hand v1 v2 v3 t o.lst o.g o.bl := by
 funext k
 match k with
 | 0 | 1 | 2 | 3 | 4 | 5 => rfl
 | k + 6 =>
  show own o k = _
  unfold own
  rw [if_neg (by rw [h]; decide)]
  match k with
  | 0 | 1 | 2 | 3 | 4 | 5 | 6 | 7 => rfl
  | k + 8 => rfl
theorem up_lay {w : World} {b : Nat} {o o1 : O} (h1 : o1.lay = true) (h : o.lay = true) {v1 v2 v3 : Value} {t : Ans} (hr : w.rowIs b 200 10 (lC o.hand v1 v2 v3 t o.lst o.g o.ix (behAt o.sh o.lst o.ix))) : w.rowIs b (W.T o1) (W.n o1) (W.mrow o v1 v2 v3 t) := by
 rw [row_lay h]
 have e1 : W.T o1 = 200 := by show (if o1.lay = true then _ else _) = _; rw [if_pos h1]
 have e2 : W.n o1 = 10 := by show (if o1.lay = true then _ else _) = _; rw [if_pos h1]
 rw [e1, e2]
 exact hr
theorem up_draw {w : World} {b : Nat} {o o1 : O} (h1 : o1.lay = false) (h : o.lay = false) {v1 v2 v3 : Value} {t : Ans} (hr : w.rowIs b 150 15 (dC o.sh o.hand v1 v2 v3 t o.lst o.g o.bl)) : w.rowIs b (W.T o1) (W.n o1) (W.mrow o v1 v2 v3 t) := by
 rw [row_draw h]
 have e1 : W.T o1 = 150 := by show (if o1.lay = true then _ else _) = _; rw [if_neg (by rw [h1]; decide)]
 have e2 : W.n o1 = 15 := by show (if o1.lay = true then _ else _) = _; rw [if_neg (by rw [h1]; decide)]
 rw [e1, e2]
 exact hr
theorem flat_meet {sh : Shp} {hand lst g ix bl : Int} (hg : 0 ≤ g ∧ g ≤ 18446744073709551615) : W.FlatOk .meet ⟨true, sh, hand, lst, g, ix, bl⟩ := by
 intro w b bm bw n f v2 v3 t hr hm h1 h2
 have hxh := had_bounds hm.word (req .meet ⟨true, sh, hand, lst, g, ix, bl⟩)
 have hr' : w.rowIs b 200 10 (lC hand (.func (.func (act .meet)) #[Wk.ptr b] #[]) v2 v3 t lst g ix (behAt sh lst ix)) := by
  have h := hr
  rw [show W.mrow ⟨true, sh, hand, lst, g, ix, bl⟩ (.func (.func (W.act .meet)) #[Wk.ptr b] #[]) v2 v3 t = _ from row_lay (o := ⟨true, sh, hand, lst, g, ix, bl⟩) rfl _ _ _ _] at h
  exact h
 refine ⟨rfl, rfl, (meet_any hr' hm h1 h2  rfl rfl).mono ?_⟩
 rintro e w' ⟨rfl, r, m, tt⟩
 exact ⟨rfl, ⟨_, rfl, up_lay (o := (W.out .meet ⟨true, sh, hand, lst, g, ix, bl⟩ (stepOf n f (req .meet ⟨true, sh, hand, lst, g, ix, bl⟩))).1) rfl rfl r⟩, m, tt⟩
theorem flat_tie {sh : Shp} {hand lst g ix bl : Int} (hg : 0 ≤ g ∧ g ≤ 18446744073709551615) : W.FlatOk .tie ⟨true, sh, hand, lst, g, ix, bl⟩ := by
 intro w b bm bw n f v2 v3 t hr hm h1 h2
 have hxh := had_bounds hm.word (req .tie ⟨true, sh, hand, lst, g, ix, bl⟩)
 have hr' : w.rowIs b 200 10 (lC hand (.func (.func (act .tie)) #[Wk.ptr b] #[]) v2 v3 t lst g ix (behAt sh lst ix)) := by
  have h := hr
  rw [show W.mrow ⟨true, sh, hand, lst, g, ix, bl⟩ (.func (.func (W.act .tie)) #[Wk.ptr b] #[]) v2 v3 t = _ from row_lay (o := ⟨true, sh, hand, lst, g, ix, bl⟩) rfl _ _ _ _] at h
  exact h
 refine ⟨rfl, rfl, (tie_any hr' hm h1 h2 hg rfl rfl).mono ?_⟩
 rintro e w' ⟨rfl, r, m, tt⟩
 exact ⟨rfl, ⟨_, rfl, up_lay (o := (W.out .tie ⟨true, sh, hand, lst, g, ix, bl⟩ (stepOf n f (req .tie ⟨true, sh, hand, lst, g, ix, bl⟩))).1) rfl rfl r⟩, m, tt⟩
theorem flat_lay {sh : Shp} {hand lst g ix bl : Int} (hg : 0 ≤ g ∧ g ≤ 18446744073709551615) : W.FlatOk .lay ⟨true, sh, hand, lst, g, ix, bl⟩ := by
 intro w b bm bw n f v2 v3 t hr hm h1 h2
 have hxh := had_bounds hm.word (req .lay ⟨true, sh, hand, lst, g, ix, bl⟩)
 have hr' : w.rowIs b 200 10 (lC hand (.func (.func (act .lay)) #[Wk.ptr b] #[]) v2 v3 t lst g ix (behAt sh lst ix)) := by
  have h := hr
  rw [show W.mrow ⟨true, sh, hand, lst, g, ix, bl⟩ (.func (.func (W.act .lay)) #[Wk.ptr b] #[]) v2 v3 t = _ from row_lay (o := ⟨true, sh, hand, lst, g, ix, bl⟩) rfl _ _ _ _] at h
  exact h
 by_cases hc : (stepOf n f (req .lay ⟨true, sh, hand, lst, g, ix, bl⟩)).ok = true
 ·have eo : W.out .lay ⟨true, sh, hand, lst, g, ix, bl⟩ (stepOf n f (W.req .lay ⟨true, sh, hand, lst, g, ix, bl⟩)) = ((⟨true, sh, hand, lst, g, ix, bl⟩ : O), .done ⟨true, 0⟩) := by show out .lay ⟨true, sh, hand, lst, g, ix, bl⟩ (stepOf n f (req .lay ⟨true, sh, hand, lst, g, ix, bl⟩)) = _; unfold out; dsimp only; rw [if_pos hc]; rfl
  rw [eo]
  refine ⟨rfl, rfl, (lay_yes hr' hm h1 h2 hg hc rfl rfl).mono ?_⟩
  rintro e w' ⟨rfl, r, m, tt⟩
  exact ⟨rfl, ⟨_, trivial, up_lay (o := (⟨true, sh, hand, lst, g, ix, bl⟩ : O)) rfl rfl r⟩, m, tt⟩
 ·have eo : W.out .lay ⟨true, sh, hand, lst, g, ix, bl⟩ (stepOf n f (W.req .lay ⟨true, sh, hand, lst, g, ix, bl⟩)) = ((⟨true, sh, hand, lst, g, ix, bl⟩ : O), .on .meet) := by show out .lay ⟨true, sh, hand, lst, g, ix, bl⟩ (stepOf n f (req .lay ⟨true, sh, hand, lst, g, ix, bl⟩)) = _; unfold out; dsimp only; rw [if_neg hc]; rfl
  rw [eo]
  refine ⟨rfl, rfl, (lay_no hr' hm h1 h2 hg ((Bool.not_eq_true _).mp hc) rfl rfl).mono ?_⟩
  rintro e w' ⟨rfl, r, m, tt⟩
  exact ⟨rfl, ⟨_, rfl, up_lay (o := (⟨true, sh, hand, lst, g, ix, bl⟩ : O)) rfl rfl r⟩, m, tt⟩
theorem flat_find {sh : Shp} {hand lst g ix bl : Int} (hg : 0 ≤ g ∧ g ≤ 18446744073709551615) : W.FlatOk .find ⟨false, sh, hand, lst, g, ix, bl⟩ := by
 intro w b bm bw n f v2 v3 t hr hm h1 h2
 have hxh := had_bounds hm.word (req .find ⟨false, sh, hand, lst, g, ix, bl⟩)
 have hr' : w.rowIs b 150 15 (dC sh hand (.func (.func (act .find)) #[Wk.ptr b] #[]) v2 v3 t lst g bl) := by
  have h := hr
  rw [show W.mrow ⟨false, sh, hand, lst, g, ix, bl⟩ (.func (.func (W.act .find)) #[Wk.ptr b] #[]) v2 v3 t = _ from row_draw (o := ⟨false, sh, hand, lst, g, ix, bl⟩) rfl _ _ _ _] at h
  exact h
 by_cases hc : there sh (idx (stepOf n f (req .find ⟨false, sh, hand, lst, g, ix, bl⟩)).had)
 ·have eo : W.out .find ⟨false, sh, hand, lst, g, ix, bl⟩ (stepOf n f (W.req .find ⟨false, sh, hand, lst, g, ix, bl⟩)) = ((⟨false, sh, hand, lst, (stepOf n f (req .find ⟨false, sh, hand, lst, g, ix, bl⟩)).had, ix, bl⟩ : O), .on .peek) := by show out .find ⟨false, sh, hand, lst, g, ix, bl⟩ (stepOf n f (req .find ⟨false, sh, hand, lst, g, ix, bl⟩)) = _; unfold out; dsimp only; rw [if_pos hc]; rfl
  rw [eo]
  refine ⟨rfl, rfl, (find_yes hr' hm h1 h2 hxh hc rfl rfl).mono ?_⟩
  rintro e w' ⟨rfl, r, m, tt⟩
  exact ⟨rfl, ⟨_, rfl, up_draw (o := (⟨false, sh, hand, lst, (stepOf n f (req .find ⟨false, sh, hand, lst, g, ix, bl⟩)).had, ix, bl⟩ : O)) rfl rfl r⟩, m, tt⟩
 ·have eo : W.out .find ⟨false, sh, hand, lst, g, ix, bl⟩ (stepOf n f (W.req .find ⟨false, sh, hand, lst, g, ix, bl⟩)) = ((⟨false, sh, hand, lst, (stepOf n f (req .find ⟨false, sh, hand, lst, g, ix, bl⟩)).had, ix, bl⟩ : O), .stop) := by show out .find ⟨false, sh, hand, lst, g, ix, bl⟩ (stepOf n f (req .find ⟨false, sh, hand, lst, g, ix, bl⟩)) = _; unfold out; dsimp only; rw [if_neg hc]; rfl
  rw [eo]
  refine ⟨rfl, rfl, (find_no hr' hm h1 h2 hxh hc rfl rfl).mono ?_⟩
  rintro e w' ⟨rfl, r, m, tt⟩
  exact ⟨rfl, ⟨_, trivial, up_draw (o := (⟨false, sh, hand, lst, (stepOf n f (req .find ⟨false, sh, hand, lst, g, ix, bl⟩)).had, ix, bl⟩ : O)) rfl rfl r⟩, m, tt⟩
theorem flat_peek {sh : Shp} (h5 : Shape.R5 sh.a sh.b sh.c sh.d sh.e) {hand lst g ix bl : Int} (hg : 0 ≤ g ∧ g ≤ 18446744073709551615) : W.FlatOk .peek ⟨false, sh, hand, lst, g, ix, bl⟩ := by
 intro w b bm bw n f v2 v3 t hr hm h1 h2
 have hxh := had_bounds hm.word (req .peek ⟨false, sh, hand, lst, g, ix, bl⟩)
 have hr' : w.rowIs b 150 15 (dC sh hand (.func (.func (act .peek)) #[Wk.ptr b] #[]) v2 v3 t lst g bl) := by
  have h := hr
  rw [show W.mrow ⟨false, sh, hand, lst, g, ix, bl⟩ (.func (.func (W.act .peek)) #[Wk.ptr b] #[]) v2 v3 t = _ from row_draw (o := ⟨false, sh, hand, lst, g, ix, bl⟩) rfl _ _ _ _] at h
  exact h
 refine ⟨rfl, rfl, (peek_any hr' hm h1 h2 h5 hg hxh rfl rfl).mono ?_⟩
 rintro e w' ⟨rfl, r, m, tt⟩
 exact ⟨rfl, ⟨_, rfl, up_draw (o := (W.out .peek ⟨false, sh, hand, lst, g, ix, bl⟩ (stepOf n f (req .peek ⟨false, sh, hand, lst, g, ix, bl⟩))).1) rfl rfl r⟩, m, tt⟩
theorem flat_take {sh : Shp} {hand lst g ix bl : Int} (hg : 0 ≤ g ∧ g ≤ 18446744073709551615) : W.FlatOk .take ⟨false, sh, hand, lst, g, ix, bl⟩ := by
 intro w b bm bw n f v2 v3 t hr hm h1 h2
 have hxh := had_bounds hm.word (req .take ⟨false, sh, hand, lst, g, ix, bl⟩)
 have hr' : w.rowIs b 150 15 (dC sh hand (.func (.func (act .take)) #[Wk.ptr b] #[]) v2 v3 t lst g bl) := by
  have h := hr
  rw [show W.mrow ⟨false, sh, hand, lst, g, ix, bl⟩ (.func (.func (W.act .take)) #[Wk.ptr b] #[]) v2 v3 t = _ from row_draw (o := ⟨false, sh, hand, lst, g, ix, bl⟩) rfl _ _ _ _] at h
  exact h
 by_cases hc : (stepOf n f (req .take ⟨false, sh, hand, lst, g, ix, bl⟩)).ok = true
 ·have eo : W.out .take ⟨false, sh, hand, lst, g, ix, bl⟩ (stepOf n f (W.req .take ⟨false, sh, hand, lst, g, ix, bl⟩)) = ((⟨false, sh, hand, lst, g, ix, bl⟩ : O), .done ⟨true, idx g⟩) := by show out .take ⟨false, sh, hand, lst, g, ix, bl⟩ (stepOf n f (req .take ⟨false, sh, hand, lst, g, ix, bl⟩)) = _; unfold out; dsimp only; rw [if_pos hc]; rfl
  rw [eo]
  refine ⟨rfl, rfl, (take_yes hr' hm h1 h2 hg hc rfl rfl).mono ?_⟩
  rintro e w' ⟨rfl, r, m, tt⟩
  exact ⟨rfl, ⟨_, trivial, up_draw (o := (⟨false, sh, hand, lst, g, ix, bl⟩ : O)) rfl rfl r⟩, m, tt⟩
 ·have eo : W.out .take ⟨false, sh, hand, lst, g, ix, bl⟩ (stepOf n f (W.req .take ⟨false, sh, hand, lst, g, ix, bl⟩)) = ((⟨false, sh, hand, lst, g, ix, bl⟩ : O), .on .find) := by show out .take ⟨false, sh, hand, lst, g, ix, bl⟩ (stepOf n f (req .take ⟨false, sh, hand, lst, g, ix, bl⟩)) = _; unfold out; dsimp only; rw [if_neg hc]; rfl
  rw [eo]
  refine ⟨rfl, rfl, (take_no hr' hm h1 h2 hg ((Bool.not_eq_true _).mp hc) rfl rfl).mono ?_⟩
  rintro e w' ⟨rfl, r, m, tt⟩
  exact ⟨rfl, ⟨_, rfl, up_draw (o := (⟨false, sh, hand, lst, g, ix, bl⟩ : O)) rfl rfl r⟩, m, tt⟩
theorem flat {sh : Shp} (h5 : Shape.R5 sh.a sh.b sh.c sh.d sh.e) {a : A} {o : O} (h : wfA sh a o) : W.FlatOk a o := by
 obtain ⟨e, hg, hl⟩ := h
 obtain ⟨lay, sh', hand, lst, g, ix, bl⟩ := o
 obtain rfl : sh' = sh := e
 cases a with
 | meet => obtain rfl : lay = true := hl; exact flat_meet hg
 | tie => obtain rfl : lay = true := hl; exact flat_tie hg
 | lay => obtain rfl : lay = true := hl; exact flat_lay hg
 | find => obtain rfl : lay = false := hl; exact flat_find hg
 | peek => obtain rfl : lay = false := hl; exact flat_peek h5 hg
 | take => obtain rfl : lay = false := hl; exact flat_take hg
def init (sh : Shp) (h : Int) (j : Jb) : WS W :=
 if j.kind = 1 then ⟨⟨true, sh, h, j.a, 0, j.b, 0⟩, .on .meet, ⟨false, 0⟩⟩ else ⟨⟨false, sh, h, j.a, 0, 0, 0⟩, .on .find, ⟨false, 0⟩⟩
def tid (j : Jb) : TypeId := if j.kind = 1 then 198 else 146
def wf (sh : Shp) (j : Jb) (s : WS W) : Prop := (j.kind = 1 ↔ s.own.lay = true) ∧ match s.md with
 | .on a => wfA sh a s.own
 | _ => False
noncomputable def kList (sh : Shp) : Kd := W.kd (fun _ _ => 0) (init sh) tid (wf sh)
theorem ms1 (b : Nat) (w : World) : (method 321 198 (Wk.ptr b) "Step").run Tryz.prog w = .ok (164, Wk.ptr b) w := by kernel_rfl
theorem ma1 (b : Nat) (w : World) : (method 321 198 (Wk.ptr b) "Answer").run Tryz.prog w = .ok (163, Wk.ptr b) w := by kernel_rfl
theorem ms2 (b : Nat) (w : World) : (method 321 146 (Wk.ptr b) "Step").run Tryz.prog w = .ok (164, Wk.ptr b) w := by kernel_rfl
theorem ma2 (b : Nat) (w : World) : (method 321 146 (Wk.ptr b) "Answer").run Tryz.prog w = .ok (163, Wk.ptr b) w := by kernel_rfl
theorem fits {sh : Shp} (h5 : Shape.R5 sh.a sh.b sh.c sh.d sh.e) : W.Fits (fun _ _ => 0) (init sh) tid (wf sh) where
 loc := {
  first := fun b => b.elim
  caps := fun b => b.elim
  box := fun b => b.elim
  six := fun o => by show 6 ≤ (if o.lay = true then 10 else 15); split <;> omega
  actF := fun a args w => by cases a <;> simp [W, act, go_sem]
  behF := fun b => b.elim }
 part := isKindNone
 start := fun h j _ => by
  unfold init wf
  by_cases hk : j.kind = 1
  ·rw [if_pos hk]; exact ⟨⟨fun _ => rfl, fun _ => hk⟩, rfl, ⟨by show (0 : Int) ≤ 0; omega, by show (0 : Int) ≤ 18446744073709551615; omega⟩, rfl⟩
  ·rw [if_neg hk]; exact ⟨⟨fun e => absurd e hk, fun e => by cases e⟩, rfl, ⟨by show (0 : Int) ≤ 0; omega, by show (0 : Int) ≤ 18446744073709551615; omega⟩, rfl⟩
 keep := fun j s n f hf hw hn => by
  obtain ⟨o, md, t⟩ := s
  cases md with
  | along pj ps b => exact b.elim
  | ended => exact absurd hw.2 id
  | on a =>
   obtain ⟨hk, e, hg, hl⟩ := hw
   have hx := had_bounds hf (W.req' ⟨o, .on a, t⟩)
   generalize stepOf n f (W.req' ⟨o, .on a, t⟩) = x at hn hx ⊢
   simp only at hk e hg hl
   cases a with
   | meet => exact ⟨hk, e, hx, hl⟩
   | tie => exact ⟨hk, e, hg, hl⟩
   | peek => exact ⟨hk, e, hg, hl⟩
   | lay =>
    by_cases hc : x.ok = true
    ·have eo : W.next' ⟨o, .on .lay, t⟩ x = ⟨o, .ended, ⟨true, 0⟩⟩ := by show W.apply t (out .lay o x) = _; unfold out; dsimp only; rw [if_pos hc]; rfl
     rw [eo] at hn ⊢
     exact absurd rfl hn
    ·have eo : W.next' ⟨o, .on .lay, t⟩ x = ⟨o, .on .meet, t⟩ := by show W.apply t (out .lay o x) = _; unfold out; dsimp only; rw [if_neg hc]; rfl
     rw [eo] at hn ⊢
     exact ⟨hk, e, hg, hl⟩
   | find =>
    by_cases hc : there o.sh (idx x.had)
    ·have eo : W.next' ⟨o, .on .find, t⟩ x = ⟨{ o with g := x.had }, .on .peek, t⟩ := by show W.apply t (out .find o x) = _; unfold out; dsimp only; rw [if_pos hc]; rfl
     rw [eo] at hn ⊢
     exact ⟨hk, e, hx, hl⟩
    ·have eo : W.next' ⟨o, .on .find, t⟩ x = ⟨{ o with g := x.had }, .ended, t⟩ := by show W.apply t (out .find o x) = _; unfold out; dsimp only; rw [if_neg hc]; rfl
     rw [eo] at hn ⊢
     exact absurd rfl hn
   | take =>
    by_cases hc : x.ok = true
    ·have eo : W.next' ⟨o, .on .take, t⟩ x = ⟨o, .ended, ⟨true, idx o.g⟩⟩ := by show W.apply t (out .take o x) = _; unfold out; dsimp only; rw [if_pos hc]; rfl
     rw [eo] at hn ⊢
     exact absurd rfl hn
    ·have eo : W.next' ⟨o, .on .take, t⟩ x = ⟨o, .on .find, t⟩ := by show W.apply t (out .take o x) = _; unfold out; dsimp only; rw [if_neg hc]; rfl
     rw [eo] at hn ⊢
     exact ⟨hk, e, hg, hl⟩
 act := fun j a o t hj hw => Wk.FlatOk.act W (flat h5 hw.2)
 beh := fun j pj ps b => b.elim
 mate := fun j pj ps b => b.elim
 live := fun j o t hw => hw.2
 meth := fun j _ b w => by
  unfold tid
  by_cases hk : j.kind = 1
  ·rw [if_pos hk]; exact ⟨ms1 b w, ma1 b w⟩
  ·rw [if_neg hk]; exact ⟨ms2 b w, ma2 b w⟩
theorem isKind {sh : Shp} (h5 : Shape.R5 sh.a sh.b sh.c sh.d sh.e) : IsKind (kList sh) := W.isKind (fits h5)
end Ls
end
section
namespace Rom
open Hp
structure RmS where
  hand : Int
  j : Jb
  st : Int
  g : Int
  xb : Int
  gn : Int
  sl : Int
  told : Ans
def fin (j : Jb) : Bool := j.b == 1
def col (j : Jb) : Int := if j.c = 0 then 0 else 1
def useW (j : Jb) (gn : Int) : Int := packW true (ownB true (col j)) (fin j) false 0 gn
def nxg (gn : Int) : Int := if gn = 4294967295 then gn else gn + 1
def mx0 (a : Int) : Int := if a < 0 then 0 else a
def rerr (any : Bool) (sh : Shp) (hand : Int) (j : Jb) : Int :=
  if any = true then (if j.a ≤ 9223372036854775807 then 0 else 2) else if j.kind = 1 then (if (j.b = 0 ∨ j.b = 1) ∧ (j.c = 0 ∨ j.c = 1) then 0 else 2) else if j.kind = 2 then (if there sh j.a then 0 else 2) else 200
def rreq (sh : Shp) (s : RmS) : Stp :=
  if s.j.kind = 1 then
    (if s.st = 0 then ⟨s.hand, 1, 1, 0, 0, true⟩ else if s.st = 1 then ⟨s.hand, 1, linkAt sh (idx s.g), 0, 0, true⟩ else if s.st = 2 then ⟨s.hand, 5, 1, s.g, bmp s.g s.xb, true⟩
     else if s.st = 3 then ⟨s.hand, 1, headAt sh (idx s.g), 0, 0, true⟩ else if s.st = 4 then ⟨s.hand, 2, headAt sh (idx s.g), 0, useW s.j s.gn, true⟩ else ⟨s.hand, 4, 4, 0, 1, true⟩)
  else
    (if s.st = 0 then ⟨s.hand, 2, slotAt sh s.j.a s.sl, 0, 0, true⟩ else if s.st = 1 then ⟨s.hand, 1, headAt sh s.j.a, 0, 0, true⟩ else if s.st = 2 then ⟨s.hand, 2, headAt sh s.j.a, 0, hd 0 (nxg s.gn), true⟩
     else if s.st = 3 then ⟨s.hand, 1, 1, 0, 0, true⟩ else if s.st = 4 then ⟨s.hand, 2, linkAt sh s.j.a, 0, idx s.g, true⟩ else if s.st = 5 then ⟨s.hand, 5, 1, s.g, bmp s.g s.j.a, true⟩ else ⟨s.hand, 4, 5, 0, 1, true⟩)
def rends (sh : Shp) (s : RmS) (x : Stp) : Bool :=
  if s.j.kind = 1 then (if s.st = 0 then !(decide (there sh (idx x.had))) else decide (s.st = 5))
  else decide (s.st = 6)
def rnext (sh : Shp) (s : RmS) (x : Stp) : RmS :=
  if s.j.kind = 1 then
    (if s.st = 0 then (if there sh (idx x.had) then { s with g := x.had, st := 1 } else { s with g := x.had, st := 9 })
     else if s.st = 1 then { s with xb := idx x.had, st := 2 }
     else if s.st = 2 then (if x.ok = true then { s with st := 3 } else { s with st := 0 })
     else if s.st = 3 then { s with gn := x.had / 4294967296, st := 4 }
     else if s.st = 4 then { s with st := 5 }
     else { s with told := ⟨true, hd (idx s.g) s.gn⟩, st := 9 })
  else
    (if s.st = 0 then (if slotIn sh s.j.a (s.sl + 1) then { s with sl := s.sl + 1 } else { s with sl := s.sl + 1, st := 1 })
     else if s.st = 1 then { s with gn := x.had / 4294967296, st := 2 }
     else if s.st = 2 then (if s.gn = 4294967295 then { s with st := 6 } else { s with st := 3 })
     else if s.st = 3 then { s with g := x.had, st := 4 }
     else if s.st = 4 then { s with st := 5 }
     else if s.st = 5 then (if x.ok = true then { s with st := 6 } else { s with st := 3 })
     else { s with told := ⟨true, mx0 s.j.a⟩, st := 9 })
def mC (sh : Shp) (hand : Int) (fn v2 v3 : Value) (t : Ans) (fl : Bool) (c ix gn : Int) : Nat → Value := fun k => match k with | 0 => .int .i64 hand | 1 => fn | 2 => v2 | 3 => v3 | 4 => .bool t.ok | 5 => .int .u64 t.val | 6 => .int .i64 sh.a | 7 => .int .i64 sh.b | 8 => .int .i64 sh.c | 9 => .int .i64 sh.d | 10 => .int .i64 sh.e | 11 => .int .i64 sh.f | 12 => .bool fl | 13 => .int .i64 c | 14 => .int .i64 ix | _ => .int .u64 gn
def gC (sh : Shp) (hand : Int) (fn v2 v3 : Value) (t : Ans) (ix sl gn : Int) : Nat → Value := fun k => match k with | 0 => .int .i64 hand | 1 => fn | 2 => v2 | 3 => v3 | 4 => .bool t.ok | 5 => .int .u64 t.val | 6 => .int .i64 sh.a | 7 => .int .i64 sh.b | 8 => .int .i64 sh.c | 9 => .int .i64 sh.d | 10 => .int .i64 sh.e | 11 => .int .i64 sh.f | 12 => .int .i64 ix | 13 => .int .i64 sl | _ => .int .u64 gn
def rpick {α : Type} (j : Jb) (x y : α) : α := if j.kind = 1 then x else y
theorem pick1 {α : Type} {j : Jb} (h : j.kind = 1) (x y : α) : rpick j x y = x := by simp [rpick, h]
theorem pick2 {α : Type} {j : Jb} (h : ¬ j.kind = 1) (x y : α) : rpick j x y = y := by simp [rpick, h]
structure Wf (sh : Shp) (s : RmS) : Prop where
  st : (s.j.kind = 1 ∧ (s.st = 0 ∨ s.st = 1 ∨ s.st = 2 ∨ s.st = 3 ∨ s.st = 4 ∨ s.st = 5)) ∨ (¬ s.j.kind = 1 ∧ (s.st = 0 ∨ s.st = 1 ∨ s.st = 2 ∨ s.st = 3 ∨ s.st = 4 ∨ s.st = 5 ∨ s.st = 6))
  h : s.j.wf
  g : 0 ≤ s.g ∧ s.g ≤ 18446744073709551615
  gn : 0 ≤ s.gn ∧ s.gn ≤ 4294967295
  th : s.j.kind = 1 → ¬ s.st = 0 → there sh (idx s.g)
  xb : s.j.kind = 1 → ¬ s.st = 0 → ¬ s.st = 1 → 0 ≤ s.xb ∧ s.xb < 4294967296
  sl : ¬ s.j.kind = 1 → s.st = 0 → slotIn sh s.j.a s.sl
  sl2 : ¬ s.j.kind = 1 → 0 ≤ s.sl ∧ s.sl ≤ 4
  ab : ¬ s.j.kind = 1 → s.j.a ≤ 9223372036854775807
def rinit (sh : Shp) (h : Int) (j : Jb) : RmS := ⟨h, j, if j.kind = 1 then 0 else if slotIn sh j.a 0 then 0 else 1, 0, 0, 0, 0, ⟨false, 0⟩⟩
structure RO where
  mkg : Bool
  sh : Shp
  hand : Int
  fl : Bool
  c : Int
  ix : Int
  sl : Int
  gn : Int
inductive RA where
  | mlook | muse | mcount | wipe | glook | leave | gcount
inductive RB where
  | drawn | laid
def ract : RA → FuncId
  | .mlook => 66
  | .muse => 100
  | .mcount => 118
  | .wipe => 69
  | .glook => 68
  | .leave => 103
  | .gcount => 121
def rown (o : RO) (k : Nat) : Value := if o.mkg = true then mC o.sh o.hand .nilFunc .nilFunc .nilFunc ⟨false, 0⟩ o.fl o.c o.ix o.gn (k + 6) else gC o.sh o.hand .nilFunc .nilFunc .nilFunc ⟨false, 0⟩ o.ix o.sl o.gn (k + 6)
def areq (a : RA) (o : RO) : Stp :=
  match a with
  | .mlook => ⟨o.hand, 1, headAt o.sh o.ix, 0, 0, true⟩
  | .muse => ⟨o.hand, 2, headAt o.sh o.ix, 0, packW true (ownB true o.c) o.fl false 0 o.gn, true⟩
  | .mcount => ⟨o.hand, 4, 4, 0, 1, true⟩
  | .wipe => ⟨o.hand, 2, slotAt o.sh o.ix o.sl, 0, 0, true⟩
  | .glook => ⟨o.hand, 1, headAt o.sh o.ix, 0, 0, true⟩
  | .leave => ⟨o.hand, 2, headAt o.sh o.ix, 0, hd 0 (nxg o.gn), true⟩
  | .gcount => ⟨o.hand, 4, 5, 0, 1, true⟩
def dj : Jb := ⟨2, 1, 0, 0, 0⟩
def lj (ix : Int) : Jb := ⟨1, 1, ix, 0, 0⟩
noncomputable def aout (a : RA) (o : RO) (x : Stp) : RO × Goes RA (WS Ls.W) RB :=
  open Classical in
  match a with
  | .mlook => ({ o with gn := x.had / 4294967296 }, .on .muse)
  | .muse => (o, .on .mcount)
  | .mcount => (o, .done ⟨true, hd o.ix o.gn⟩)
  | .wipe => ({ o with sl := o.sl + 1 }, if slotIn o.sh o.ix (o.sl + 1) then .on .wipe else .on .glook)
  | .glook => ({ o with gn := x.had / 4294967296 }, .on .leave)
  | .leave => (o, if o.gn = 4294967295 then .on .gcount else .along (lj o.ix) (Ls.init o.sh o.hand (lj o.ix)) .laid)
  | .gcount => (o, .done ⟨true, mx0 o.ix⟩)
def abeh (b : RB) (o : RO) (u : Ans) : RO × Goes RA (WS Ls.W) RB :=
  match b with
  | .drawn => if u.ok = true then ({ o with ix := u.val }, .on .mlook) else (o, .stop)
  | .laid => (o, .on .gcount)
noncomputable def RW (sh : Shp) : Wk (Ls.kList sh) where
  τ := RO
  A := RA
  β := RB
  T := fun o => if o.mkg = true then 99 else 103
  n := fun o => if o.mkg = true then 16 else 15
  c := 0
  hand := fun o => o.hand
  own := rown
  act := ract
  fb := fun b => match b with | .drawn => 35 | .laid => 124
  first := fun _ B => #[Wk.ptr (B 0)]
  caps := fun _ _ => #[]
  box := fun _ _ _ _ => none
  req := areq
  out := aout
  beh := abeh
inductive Sim (sh : Shp) : RmS → WS (RW sh) → Prop where
  | find {hand : Int} {j : Jb} {g xb gn sl ix sl' gn' lx lb : Int} {t : Ans} (k : j.kind = 1) : Sim sh ⟨hand, j, 0, g, xb, gn, sl, t⟩ ⟨⟨true, sh, hand, fin j, col j, ix, sl', gn'⟩, .along dj ⟨⟨false, sh, hand, 1, g, lx, lb⟩, .on .find, ⟨false, 0⟩⟩ .drawn, t⟩
  | peek {hand : Int} {j : Jb} {g xb gn sl ix sl' gn' lx lb : Int} {t : Ans} (k : j.kind = 1) : Sim sh ⟨hand, j, 1, g, xb, gn, sl, t⟩ ⟨⟨true, sh, hand, fin j, col j, ix, sl', gn'⟩, .along dj ⟨⟨false, sh, hand, 1, g, lx, lb⟩, .on .peek, ⟨false, 0⟩⟩ .drawn, t⟩
  | take {hand : Int} {j : Jb} {g xb gn sl ix sl' gn' lx : Int} {t : Ans} (k : j.kind = 1) : Sim sh ⟨hand, j, 2, g, xb, gn, sl, t⟩ ⟨⟨true, sh, hand, fin j, col j, ix, sl', gn'⟩, .along dj ⟨⟨false, sh, hand, 1, g, lx, xb⟩, .on .take, ⟨false, 0⟩⟩ .drawn, t⟩
  | mlook {hand : Int} {j : Jb} {g xb gn sl sl' gn' : Int} {t : Ans} (k : j.kind = 1) : Sim sh ⟨hand, j, 3, g, xb, gn, sl, t⟩ ⟨⟨true, sh, hand, fin j, col j, idx g, sl', gn'⟩, .on .mlook, t⟩
  | muse {hand : Int} {j : Jb} {g xb gn sl sl' : Int} {t : Ans} (k : j.kind = 1) : Sim sh ⟨hand, j, 4, g, xb, gn, sl, t⟩ ⟨⟨true, sh, hand, fin j, col j, idx g, sl', gn⟩, .on .muse, t⟩
  | mcount {hand : Int} {j : Jb} {g xb gn sl sl' : Int} {t : Ans} (k : j.kind = 1) : Sim sh ⟨hand, j, 5, g, xb, gn, sl, t⟩ ⟨⟨true, sh, hand, fin j, col j, idx g, sl', gn⟩, .on .mcount, t⟩
  | mend {hand : Int} {j : Jb} {g xb gn sl : Int} {o : RO} {t : Ans} (k : j.kind = 1) : Sim sh ⟨hand, j, 9, g, xb, gn, sl, t⟩ ⟨o, .ended, t⟩
  | wipe {hand : Int} {j : Jb} {g xb gn sl gn' c : Int} {fl : Bool} {t : Ans} (k : ¬ j.kind = 1) : Sim sh ⟨hand, j, 0, g, xb, gn, sl, t⟩ ⟨⟨false, sh, hand, fl, c, j.a, sl, gn'⟩, .on .wipe, t⟩
  | glook {hand : Int} {j : Jb} {g xb gn sl sl' gn' c : Int} {fl : Bool} {t : Ans} (k : ¬ j.kind = 1) : Sim sh ⟨hand, j, 1, g, xb, gn, sl, t⟩ ⟨⟨false, sh, hand, fl, c, j.a, sl', gn'⟩, .on .glook, t⟩
  | leave {hand : Int} {j : Jb} {g xb gn sl sl' c : Int} {fl : Bool} {t : Ans} (k : ¬ j.kind = 1) : Sim sh ⟨hand, j, 2, g, xb, gn, sl, t⟩ ⟨⟨false, sh, hand, fl, c, j.a, sl', gn⟩, .on .leave, t⟩
  | meet {hand : Int} {j : Jb} {g xb gn sl sl' gn' c lg lb : Int} {fl : Bool} {t : Ans} (k : ¬ j.kind = 1) (hlg : 0 ≤ lg ∧ lg ≤ 18446744073709551615) : Sim sh ⟨hand, j, 3, g, xb, gn, sl, t⟩ ⟨⟨false, sh, hand, fl, c, j.a, sl', gn'⟩, .along (lj j.a) ⟨⟨true, sh, hand, 1, lg, j.a, lb⟩, .on .meet, ⟨false, 0⟩⟩ .laid, t⟩
  | tie {hand : Int} {j : Jb} {g xb gn sl sl' gn' c lb : Int} {fl : Bool} {t : Ans} (k : ¬ j.kind = 1) : Sim sh ⟨hand, j, 4, g, xb, gn, sl, t⟩ ⟨⟨false, sh, hand, fl, c, j.a, sl', gn'⟩, .along (lj j.a) ⟨⟨true, sh, hand, 1, g, j.a, lb⟩, .on .tie, ⟨false, 0⟩⟩ .laid, t⟩
  | lay {hand : Int} {j : Jb} {g xb gn sl sl' gn' c lb : Int} {fl : Bool} {t : Ans} (k : ¬ j.kind = 1) : Sim sh ⟨hand, j, 5, g, xb, gn, sl, t⟩ ⟨⟨false, sh, hand, fl, c, j.a, sl', gn'⟩, .along (lj j.a) ⟨⟨true, sh, hand, 1, g, j.a, lb⟩, .on .lay, ⟨false, 0⟩⟩ .laid, t⟩
  | gcount {hand : Int} {j : Jb} {g xb gn sl sl' gn' c : Int} {fl : Bool} {t : Ans} (k : ¬ j.kind = 1) : Sim sh ⟨hand, j, 6, g, xb, gn, sl, t⟩ ⟨⟨false, sh, hand, fl, c, j.a, sl', gn'⟩, .on .gcount, t⟩
  | gend {hand : Int} {j : Jb} {g xb gn sl : Int} {o : RO} {t : Ans} (k : ¬ j.kind = 1) : Sim sh ⟨hand, j, 9, g, xb, gn, sl, t⟩ ⟨o, .ended, t⟩
noncomputable def rinit' (sh : Shp) (h : Int) (j : Jb) : WS (RW sh) :=
  open Classical in
  if j.kind = 1 then ⟨⟨true, sh, h, fin j, col j, 0, 0, 0⟩, .along dj (Ls.init sh h dj) .drawn, ⟨false, 0⟩⟩
  else ⟨⟨false, sh, h, false, 0, j.a, 0, 0⟩, .on (if slotIn sh j.a 0 then .wipe else .glook), ⟨false, 0⟩⟩
theorem sim_init (sh : Shp) (h : Int) (j : Jb) : Sim sh (rinit sh h j) (rinit' sh h j) := by
  unfold rinit rinit'
  by_cases k : j.kind = 1
  · rw [if_pos k, if_pos k]
    have e : Ls.init sh h dj = ⟨⟨false, sh, h, 1, 0, 0, 0⟩, .on .find, ⟨false, 0⟩⟩ := by unfold Ls.init dj; rw [if_neg (by decide)]
    rw [e]
    exact .find k
  · rw [if_neg k, if_neg k]
    by_cases hs : slotIn sh j.a 0
    · simp only [hs, if_true]
      exact .wipe k
    · simp only [hs, if_false]
      exact .glook k
def kRom (any : Bool) (sh : Shp) : Kd where
  σ := RmS
  err := rerr any sh
  init := rinit sh
  req := rreq sh
  next := rnext sh
  ends := rends sh
  tell s := s.told
  tid j := rpick j 91 101
  fs _ := 164
  fa _ := 163
  lies _ B s R := ∃ s' : WS (RW sh), Sim sh s s' ∧ (RW sh).form s' B R
  wf j s := s.j = j ∧ Wf sh s
theorem rnext_j (sh : Shp) (s : RmS) (x : Stp) : (rnext sh s x).j = s.j := by
  unfold rnext
  repeat' split
  all_goals rfl
theorem rnext_wf {sh : Shp} (h4 : 0 ≤ sh.b ∧ sh.b ≤ 4) {s : RmS} {x : Stp} (H : Wf sh s) (hx : 0 ≤ x.had ∧ x.had ≤ 18446744073709551615) (he : ¬ rends sh s x = true) : Wf sh (rnext sh s x) := by
  obtain ⟨hk, hh, hg, hn, ht, hb, hs, hs2, hab⟩ := H
  obtain ⟨hand, j, st, g, xb, gn, sl, told⟩ := s
  simp only at hk hh hg hn ht hb hs hs2 hab
  have ix0 := idx_lo x.had
  have ix1 := idx_hi x.had
  rcases hk with ⟨hk, rfl | rfl | rfl | rfl | rfl | rfl⟩ | ⟨hk, rfl | rfl | rfl | rfl | rfl | rfl | rfl⟩
  · have ht : there sh (idx x.had) := by simpa [rends, hk] using he
    simp only [rnext, hk, ht, if_true]
    exact ⟨.inl ⟨hk, by simp⟩, hh, hx, hn, fun _ _ => ht, fun _ _ h => absurd rfl h, fun h => absurd hk h, fun h => absurd hk h, hab⟩
  · simp only [rnext, hk, if_true, if_neg (show ¬ (1 : Int) = 0 by decide)]
    exact ⟨.inl ⟨hk, by simp⟩, hh, hg, hn, fun _ _ => ht hk (by decide), fun _ _ _ => ⟨ix0, ix1⟩, fun h => absurd hk h, fun h => absurd hk h, hab⟩
  · simp only [rnext, hk, if_true, if_neg (show ¬ (2 : Int) = 0 by decide), if_neg (show ¬ (2 : Int) = 1 by decide)]
    split
    · exact ⟨.inl ⟨hk, by simp⟩, hh, hg, hn, fun _ _ => ht hk (by decide), fun _ _ _ => hb hk (by decide) (by decide), fun h => absurd hk h, fun h => absurd hk h, hab⟩
    · exact ⟨.inl ⟨hk, by simp⟩, hh, hg, hn, fun _ h => absurd rfl h, fun _ h => absurd rfl h, fun h => absurd hk h, fun h => absurd hk h, hab⟩
  · simp only [rnext, hk, if_true, if_neg (show ¬ (3 : Int) = 0 by decide), if_neg (show ¬ (3 : Int) = 1 by decide), if_neg (show ¬ (3 : Int) = 2 by decide)]
    exact ⟨.inl ⟨hk, by simp⟩, hh, hg, (by simp only; omega), fun _ _ => ht hk (by decide), fun _ _ _ => hb hk (by decide) (by decide), fun h => absurd hk h, fun h => absurd hk h, hab⟩
  · simp only [rnext, hk, if_true, if_neg (show ¬ (4 : Int) = 0 by decide), if_neg (show ¬ (4 : Int) = 1 by decide), if_neg (show ¬ (4 : Int) = 2 by decide), if_neg (show ¬ (4 : Int) = 3 by decide)]
    exact ⟨.inl ⟨hk, by simp⟩, hh, hg, hn, fun _ _ => ht hk (by decide), fun _ _ _ => hb hk (by decide) (by decide), fun h => absurd hk h, fun h => absurd hk h, hab⟩
  · exact absurd (by simp [rends, hk]) he
  · simp only [rnext, hk, if_true, if_false]
    have h0 := hs2 hk
    have h1 := (hs hk rfl).2
    split
    · rename_i hin
      exact ⟨.inr ⟨hk, by simp⟩, hh, hg, hn, fun h => absurd h hk, fun h => absurd h hk, fun _ _ => hin, fun _ => (by simp only; omega), hab⟩
    · exact ⟨.inr ⟨hk, by simp⟩, hh, hg, hn, fun h => absurd h hk, fun h => absurd h hk, fun _ h => absurd h (by simp), fun _ => (by simp only; omega), hab⟩
  · simp only [rnext, hk, if_true, if_false, if_neg (show ¬ (1 : Int) = 0 by decide)]
    exact ⟨.inr ⟨hk, by simp⟩, hh, hg, (by simp only; omega), fun h => absurd h hk, fun h => absurd h hk, fun _ h => absurd h (by simp), fun _ => hs2 hk, hab⟩
  · simp only [rnext, hk, if_true, if_false, if_neg (show ¬ (2 : Int) = 0 by decide), if_neg (show ¬ (2 : Int) = 1 by decide)]
    split
    · exact ⟨.inr ⟨hk, by simp⟩, hh, hg, hn, fun h => absurd h hk, fun h => absurd h hk, fun _ h => absurd h (by simp), fun _ => hs2 hk, hab⟩
    · exact ⟨.inr ⟨hk, by simp⟩, hh, hg, hn, fun h => absurd h hk, fun h => absurd h hk, fun _ h => absurd h (by simp), fun _ => hs2 hk, hab⟩
  · simp only [rnext, hk, if_true, if_false, if_neg (show ¬ (3 : Int) = 0 by decide), if_neg (show ¬ (3 : Int) = 1 by decide), if_neg (show ¬ (3 : Int) = 2 by decide)]
    exact ⟨.inr ⟨hk, by simp⟩, hh, hx, hn, fun h => absurd h hk, fun h => absurd h hk, fun _ h => absurd h (by simp), fun _ => hs2 hk, hab⟩
  · simp only [rnext, hk, if_true, if_false, if_neg (show ¬ (4 : Int) = 0 by decide), if_neg (show ¬ (4 : Int) = 1 by decide), if_neg (show ¬ (4 : Int) = 2 by decide), if_neg (show ¬ (4 : Int) = 3 by decide)]
    exact ⟨.inr ⟨hk, by simp⟩, hh, hg, hn, fun h => absurd h hk, fun h => absurd h hk, fun _ h => absurd h (by simp), fun _ => hs2 hk, hab⟩
  · simp only [rnext, hk, if_true, if_false, if_neg (show ¬ (5 : Int) = 0 by decide), if_neg (show ¬ (5 : Int) = 1 by decide), if_neg (show ¬ (5 : Int) = 2 by decide), if_neg (show ¬ (5 : Int) = 3 by decide), if_neg (show ¬ (5 : Int) = 4 by decide)]
    split
    · exact ⟨.inr ⟨hk, by simp⟩, hh, hg, hn, fun h => absurd h hk, fun h => absurd h hk, fun _ h => absurd h (by simp), fun _ => hs2 hk, hab⟩
    · exact ⟨.inr ⟨hk, by simp⟩, hh, hg, hn, fun h => absurd h hk, fun h => absurd h hk, fun _ h => absurd h (by simp), fun _ => hs2 hk, hab⟩
  · exact absurd (by simp [rends, hk]) he
theorem wf_init (sh : Shp) (h : Int) {j : Jb} (hj : j.wf) (hab : ¬ j.kind = 1 → j.a ≤ 9223372036854775807) : Wf sh (rinit sh h j) := by
  refine ⟨?_, hj, by simp [rinit], by simp [rinit], fun hk h => absurd (by simp [rinit] at hk ⊢; intro h'; exact absurd hk h') h, fun hk h => absurd (by simp [rinit] at hk ⊢; intro h'; exact absurd hk h') h, ?_, fun _ => by simp [rinit], hab⟩
  · by_cases hk : j.kind = 1
    · exact .inl ⟨hk, .inl (by simp [rinit, hk])⟩
    · refine .inr ⟨hk, ?_⟩
      by_cases hs : slotIn sh j.a 0
      · exact .inl (by simp [rinit, hk, hs])
      · exact .inr (.inl (by simp [rinit, hk, hs]))
  · intro hk he
    have hk' : ¬ j.kind = 1 := hk
    by_cases hs : slotIn sh j.a 0
    · exact hs
    · simp [rinit, hk', hs] at he
theorem err_ab {any : Bool} {sh : Shp} (ha : sh.a ≤ 64) {h : Int} {j : Jb} (he : rerr any sh h j = 0) (hk : ¬ j.kind = 1) : j.a ≤ 9223372036854775807 := by
  unfold rerr at he
  by_cases ha' : any = true
  · rw [if_pos ha'] at he
    by_cases hc : j.a ≤ 9223372036854775807
    · exact hc
    · rw [if_neg hc] at he
      cases he
  · rw [if_neg ha', if_neg hk] at he
    by_cases h2 : j.kind = 2
    · rw [if_pos h2] at he
      by_cases ht : there sh j.a
      · have := ht.2
        omega
      · rw [if_neg ht] at he
        cases he
    · rw [if_neg h2] at he
      cases he
end Rom
end
section
variable {K : Kd} {P : Par} {f : Nat → Int}
end
end Go.Proofs.YtppgbndoijppnaaGreat
