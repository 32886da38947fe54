/-
  Lemmas: RoomK, ListN, LayM.
-/
import Derived.Test.YtppgbndoijppnaaGreatTp44
import Derived.Test.YtppgbndoijppnaaGreatTp45
import Derived.Laws.Build
import Derived.Test.YtppgbndoijppnaaGreatTp05
import Derived.Test.YtppgbndoijppnaaGreatTp06
namespace Go.Proofs.YtppgbndoijppnaaGreat
set_option maxHeartbeats 8000000
open Go.RowKit
set_option linter.unusedVariables false
set_option linter.unusedSimpArgs false
set_option maxRecDepth 20000
section
namespace Rom
open Hp
def mT : TypeId := 99
def gT : TypeId := 103
theorem row_m (sh : Shp) {o : RO} (h : o.mkg = true) (v1 v2 v3 : Value) (t : Ans) : (RW sh).mrow o v1 v2 v3 t = mC o.sh o.hand v1 v2 v3 t o.fl o.c o.ix o.gn := by
 funext k
 match k with
 | 0 | 1 | 2 | 3 | 4 | 5 => rfl
 | k + 6 =>
  show rown o k = _
  unfold rown
  rw [if_pos h]
  match k with
  | 0 | 1 | 2 | 3 | 4 | 5 | 6 | 7 | 8 => rfl
  | k + 9 => rfl
theorem row_g (sh : Shp) {o : RO} (h : o.mkg = false) (v1 v2 v3 : Value) (t : Ans) : (RW sh).mrow o v1 v2 v3 t = gC o.sh o.hand v1 v2 v3 t o.ix o.sl o.gn := by
 funext k
 match k with
 | 0 | 1 | 2 | 3 | 4 | 5 => rfl
 | k + 6 =>
  show rown o k = _
  unfold rown
  rw [if_neg (by rw [h]; decide)]
  match k with
  | 0 | 1 | 2 | 3 | 4 | 5 | 6 | 7 => rfl
  | k + 8 => rfl
theorem down_m {sh sh' : Shp} {w : World} {b : Nat} {hand c ix sl gn : Int} {fl : Bool} {v1 v2 v3 : Value} {t : Ans} (h : w.rowIs b ((RW sh).T ⟨true, sh', hand, fl, c, ix, sl, gn⟩) ((RW sh).n ⟨true, sh', hand, fl, c, ix, sl, gn⟩) ((RW sh).mrow ⟨true, sh', hand, fl, c, ix, sl, gn⟩ v1 v2 v3 t)) :
  w.rowIs b 99 16 (mC sh' hand v1 v2 v3 t fl c ix gn) := by
 rw [row_m sh (o := ⟨true, sh', hand, fl, c, ix, sl, gn⟩) rfl] at h
 exact h
theorem up_m {sh sh' : Shp} {w : World} {b : Nat} {hand c ix sl gn : Int} {fl : Bool} {v1 v2 v3 : Value} {t : Ans} (o1 : RO) (h1 : o1.mkg = true) (h : w.rowIs b 99 16 (mC sh' hand v1 v2 v3 t fl c ix gn)) :
  w.rowIs b ((RW sh).T o1) ((RW sh).n o1) ((RW sh).mrow ⟨true, sh', hand, fl, c, ix, sl, gn⟩ v1 v2 v3 t) := by
 rw [row_m sh (o := ⟨true, sh', hand, fl, c, ix, sl, gn⟩) rfl]
 have e1 : (RW sh).T o1 = 99 := by show (if o1.mkg = true then _ else _) = _; rw [if_pos h1]
 have e2 : (RW sh).n o1 = 16 := by show (if o1.mkg = true then _ else _) = _; rw [if_pos h1]
 rw [e1, e2]
 exact h
theorem down_g {sh sh' : Shp} {w : World} {b : Nat} {hand c ix sl gn : Int} {fl : Bool} {v1 v2 v3 : Value} {t : Ans} (h : w.rowIs b ((RW sh).T ⟨false, sh', hand, fl, c, ix, sl, gn⟩) ((RW sh).n ⟨false, sh', hand, fl, c, ix, sl, gn⟩) ((RW sh).mrow ⟨false, sh', hand, fl, c, ix, sl, gn⟩ v1 v2 v3 t)) :
  w.rowIs b 103 15 (gC sh' hand v1 v2 v3 t ix sl gn) := by
 rw [row_g sh (o := ⟨false, sh', hand, fl, c, ix, sl, gn⟩) rfl] at h
 exact h
theorem up_g {sh sh' : Shp} {w : World} {b : Nat} {hand c ix sl gn : Int} {fl : Bool} {v1 v2 v3 : Value} {t : Ans} (o1 : RO) (h1 : o1.mkg = false) (h : w.rowIs b 103 15 (gC sh' hand v1 v2 v3 t ix sl gn)) :
  w.rowIs b ((RW sh).T o1) ((RW sh).n o1) ((RW sh).mrow ⟨false, sh', hand, fl, c, ix, sl, gn⟩ v1 v2 v3 t) := by
 rw [row_g sh (o := ⟨false, sh', hand, fl, c, ix, sl, gn⟩) rfl]
 have e1 : (RW sh).T o1 = 103 := by show (if o1.mkg = true then _ else _) = _; rw [if_neg (by rw [h1]; decide)]
 have e2 : (RW sh).n o1 = 15 := by show (if o1.mkg = true then _ else _) = _; rw [if_neg (by rw [h1]; decide)]
 rw [e1, e2]
 exact h
theorem flat_mlook {sh : Shp} {hand c ix sl gn : Int} {fl : Bool} (h5 : Shape.R5 sh.a sh.b sh.c sh.d sh.e) : (RW sh).FlatOk .mlook ⟨true, sh, hand, fl, c, ix, sl, gn⟩ := by
 intro w b bm bw n f v2 v3 t hr hm h1 h2
 have hxh := had_bounds hm.word (areq .mlook ⟨true, sh, hand, fl, c, ix, sl, gn⟩)
 have hr' := down_m hr
 refine ⟨rfl, rfl, (mlook_any hr' hm h1 h2 h5 hxh rfl rfl).mono ?_⟩
 rintro e w' ⟨rfl, r, m, tt⟩
 exact ⟨rfl, ⟨_, rfl, up_m ⟨true, sh, hand, fl, c, ix, sl, gn⟩ rfl r⟩, m, tt⟩
theorem flat_muse {sh : Shp} {hand c ix sl gn : Int} {fl : Bool} (h5 : Shape.R5 sh.a sh.b sh.c sh.d sh.e) (hn : 0 ≤ gn ∧ gn ≤ 4294967295) (hc : c = 0 ∨ c = 1) : (RW sh).FlatOk .muse ⟨true, sh, hand, fl, c, ix, sl, gn⟩ := by
 intro w b bm bw n f v2 v3 t hr hm h1 h2
 have hxh := had_bounds hm.word (areq .muse ⟨true, sh, hand, fl, c, ix, sl, gn⟩)
 have hr' := down_m hr
 refine ⟨rfl, rfl, (use_any hr' hm h1 h2 h5 hn hc rfl rfl).mono ?_⟩
 rintro e w' ⟨rfl, r, m, tt⟩
 exact ⟨rfl, ⟨_, rfl, up_m ⟨true, sh, hand, fl, c, ix, sl, gn⟩ rfl r⟩, m, tt⟩
theorem flat_mcount {sh : Shp} {hand c ix sl gn : Int} {fl : Bool}  : (RW sh).FlatOk .mcount ⟨true, sh, hand, fl, c, ix, sl, gn⟩ := by
 intro w b bm bw n f v2 v3 t hr hm h1 h2
 have hxh := had_bounds hm.word (areq .mcount ⟨true, sh, hand, fl, c, ix, sl, gn⟩)
 have hr' := down_m hr
 refine ⟨rfl, rfl, (mcount_any hr' hm h1 h2 rfl rfl).mono ?_⟩
 rintro e w' ⟨rfl, r, m, tt⟩
 exact ⟨rfl, ⟨_, trivial, up_m ⟨true, sh, hand, fl, c, ix, sl, gn⟩ rfl r⟩, m, tt⟩
theorem flat_glook {sh : Shp} {hand c ix sl gn : Int} {fl : Bool} (h5 : Shape.R5 sh.a sh.b sh.c sh.d sh.e) : (RW sh).FlatOk .glook ⟨false, sh, hand, fl, c, ix, sl, gn⟩ := by
 intro w b bm bw n f v2 v3 t hr hm h1 h2
 have hxh := had_bounds hm.word (areq .glook ⟨false, sh, hand, fl, c, ix, sl, gn⟩)
 have hr' := down_g hr
 refine ⟨rfl, rfl, (glook_any hr' hm h1 h2 h5 hxh rfl rfl).mono ?_⟩
 rintro e w' ⟨rfl, r, m, tt⟩
 exact ⟨rfl, ⟨_, rfl, up_g ⟨false, sh, hand, fl, c, ix, sl, gn⟩ rfl r⟩, m, tt⟩
theorem flat_gcount {sh : Shp} {hand c ix sl gn : Int} {fl : Bool} (hi : ix ≤ 9223372036854775807) : (RW sh).FlatOk .gcount ⟨false, sh, hand, fl, c, ix, sl, gn⟩ := by
 intro w b bm bw n f v2 v3 t hr hm h1 h2
 have hxh := had_bounds hm.word (areq .gcount ⟨false, sh, hand, fl, c, ix, sl, gn⟩)
 have hr' := down_g hr
 refine ⟨rfl, rfl, (gcount_any hr' hm h1 h2 hi rfl rfl).mono ?_⟩
 rintro e w' ⟨rfl, r, m, tt⟩
 exact ⟨rfl, ⟨_, trivial, up_g ⟨false, sh, hand, fl, c, ix, sl, gn⟩ rfl r⟩, m, tt⟩
theorem flat_wipe {sh : Shp} {hand c ix sl gn : Int} {fl : Bool} (h5 : Shape.R5 sh.a sh.b sh.c sh.d sh.e) (hs : 0 ≤ sl ∧ sl ≤ 4) : (RW sh).FlatOk .wipe ⟨false, sh, hand, fl, c, ix, sl, gn⟩ := by
 intro w b bm bw n f v2 v3 t hr hm h1 h2
 have hxh := had_bounds hm.word (areq .wipe ⟨false, sh, hand, fl, c, ix, sl, gn⟩)
 have hr' := down_g hr
 by_cases ht : slotIn sh ix (sl + 1)
 ·have eo : (RW sh).out .wipe ⟨false, sh, hand, fl, c, ix, sl, gn⟩ (stepOf n f ((RW sh).req .wipe ⟨false, sh, hand, fl, c, ix, sl, gn⟩)) = ((⟨false, sh, hand, fl, c, ix, sl + 1, gn⟩ : RO), .on .wipe) := by show aout .wipe ⟨false, sh, hand, fl, c, ix, sl, gn⟩ (stepOf n f (areq .wipe ⟨false, sh, hand, fl, c, ix, sl, gn⟩)) = _; simp only [aout, ht, if_true]; rfl
  rw [eo]
  refine ⟨rfl, rfl, (wipe_more hr' hm h1 h2 h5 hs ht rfl rfl).mono ?_⟩
  rintro e w' ⟨rfl, r, m, tt⟩
  exact ⟨rfl, ⟨_, rfl, up_g ⟨false, sh, hand, fl, c, ix, sl, gn⟩ rfl r⟩, m, tt⟩
 ·have eo : (RW sh).out .wipe ⟨false, sh, hand, fl, c, ix, sl, gn⟩ (stepOf n f ((RW sh).req .wipe ⟨false, sh, hand, fl, c, ix, sl, gn⟩)) = ((⟨false, sh, hand, fl, c, ix, sl + 1, gn⟩ : RO), .on .glook) := by show aout .wipe ⟨false, sh, hand, fl, c, ix, sl, gn⟩ (stepOf n f (areq .wipe ⟨false, sh, hand, fl, c, ix, sl, gn⟩)) = _; simp only [aout, ht, if_false]; rfl
  rw [eo]
  refine ⟨rfl, rfl, (wipe_last hr' hm h1 h2 h5 hs ht rfl rfl).mono ?_⟩
  rintro e w' ⟨rfl, r, m, tt⟩
  exact ⟨rfl, ⟨_, rfl, up_g ⟨false, sh, hand, fl, c, ix, sl, gn⟩ rfl r⟩, m, tt⟩
theorem flat_leave_last {sh : Shp} {hand c ix sl gn : Int} {fl : Bool} (h5 : Shape.R5 sh.a sh.b sh.c sh.d sh.e) (hq : gn = 4294967295) : (RW sh).FlatOk .leave ⟨false, sh, hand, fl, c, ix, sl, gn⟩ := by
 intro w b bm bw n f v2 v3 t hr hm h1 h2
 have hxh := had_bounds hm.word (areq .leave ⟨false, sh, hand, fl, c, ix, sl, gn⟩)
 have hr' := down_g hr
 have eo : (RW sh).out .leave ⟨false, sh, hand, fl, c, ix, sl, gn⟩ (stepOf n f ((RW sh).req .leave ⟨false, sh, hand, fl, c, ix, sl, gn⟩)) = ((⟨false, sh, hand, fl, c, ix, sl, gn⟩ : RO), .on .gcount) := by show aout .leave ⟨false, sh, hand, fl, c, ix, sl, gn⟩ (stepOf n f (areq .leave ⟨false, sh, hand, fl, c, ix, sl, gn⟩)) = _; unfold aout; dsimp only; rw [if_pos hq]; rfl
 have er : (RW sh).req .leave ⟨false, sh, hand, fl, c, ix, sl, gn⟩ = ⟨hand, 2, headAt sh ix, 0, hd 0 4294967295, true⟩ := by show areq .leave _ = _; simp [areq, nxg, hq]
 rw [eo, er]
 refine ⟨rfl, rfl, (leave_last hr' hm h1 h2 h5 hq rfl rfl).mono ?_⟩
 rintro e w' ⟨rfl, r, m, tt⟩
 exact ⟨rfl, ⟨_, rfl, up_g ⟨false, sh, hand, fl, c, ix, sl, gn⟩ rfl r⟩, m, tt⟩
theorem act_leave {sh : Shp} {hand c ix sl gn : Int} {fl : Bool} (h5 : Shape.R5 sh.a sh.b sh.c sh.d sh.e) (hn : 0 ≤ gn ∧ gn ≤ 4294967295) : (RW sh).ActOk .leave ⟨false, sh, hand, fl, c, ix, sl, gn⟩ := by
 intro w B R bm bw n f t L M hne
 by_cases hq : gn = 4294967295
 ·exact Wk.FlatOk.act _ (flat_leave_last h5 hq) t L M hne
 obtain ⟨v1, v2, v3, e0, e1, e2⟩ := L.lies
 simp only at e0 e1 e2
 have hb := hne 0 _ e0
 have eo : (RW sh).out .leave ⟨false, sh, hand, fl, c, ix, sl, gn⟩ (stepOf n f ((RW sh).req .leave ⟨false, sh, hand, fl, c, ix, sl, gn⟩)) = ((⟨false, sh, hand, fl, c, ix, sl, gn⟩ : RO), .along (lj ix) (Ls.init sh hand (lj ix)) .laid) := by show aout .leave ⟨false, sh, hand, fl, c, ix, sl, gn⟩ (stepOf n f (areq .leave ⟨false, sh, hand, fl, c, ix, sl, gn⟩)) = _; unfold aout; dsimp only; rw [if_neg hq]; rfl
 have er : (RW sh).req .leave ⟨false, sh, hand, fl, c, ix, sl, gn⟩ = ⟨hand, 2, headAt sh ix, 0, hd 0 (gn + 1), true⟩ := by show areq .leave _ = _; simp [areq, nxg, hq]
 rw [eo, er]
 have hr' := down_g (L.row 0 _ e0)
 refine (leave_next hr' M hb.1 hb.2 h5 hn hq rfl rfl).mono ?_
 rintro e w' ⟨rfl, B2, R2, r, hl, hnw, m, tt⟩
 refine ⟨rfl, join 0 B B2, join 0 (fun _ => some ⟨(RW sh).T ⟨false, sh, hand, fl, c, ix, sl, gn⟩, (RW sh).n ⟨false, sh, hand, fl, c, ix, sl, gn⟩, (RW sh).mrow ⟨false, sh, hand, fl, c, ix, sl, gn⟩ (.func (.func 93) #[.pointer (some ⟨B 0, 0, none⟩)] #[]) (.iface (Ls.tid (lj ix)) (.pointer (some ⟨B2 0, 0, none⟩))) (.func (.func 124) #[.pointer (some ⟨B 0, 0, none⟩)] #[]) t⟩) R2, ?_, m⟩
 refine part_post (x1 := ⟨(RW sh).T ⟨false, sh, hand, fl, c, ix, sl, gn⟩, (RW sh).n ⟨false, sh, hand, fl, c, ix, sl, gn⟩, (RW sh).mrow ⟨false, sh, hand, fl, c, ix, sl, gn⟩ (.func (.func 93) #[.pointer (some ⟨B 0, 0, none⟩)] #[]) (.iface (Ls.tid (lj ix)) (.pointer (some ⟨B2 0, 0, none⟩))) (.func (.func 124) #[.pointer (some ⟨B 0, 0, none⟩)] #[]) t⟩) (KP := Ls.kList sh) (pj := lj ix) (ps := Ls.init sh hand (lj ix)) L e0 ?_ tt hl hnw ?_
 ·refine up_g ⟨false, sh, hand, fl, c, ix, sl, gn⟩ rfl (r.congr (fun i hi => ?_))
  match i, hi with
  | 0, _ | 1, _ | 2, _ | 3, _ | 4, _ | 5, _ | 6, _ | 7, _ | 8, _ | 9, _ | 10, _ | 11, _ | 12, _ | 13, _ | 14, _ => rfl
 ·refine ⟨_, _, _, rfl, rfl, rfl, rfl, fun i hi hic => absurd hic (by show ¬ i ≤ 0; omega), ?_⟩
  have eB : (fun i => join 0 B B2 (0 + 1 + i)) = B2 := funext fun i => join_high i
  show (Ls.kList sh).lies (lj ix) (fun i => join 0 B B2 (0 + 1 + i)) (Ls.init sh hand (lj ix)) (fun i => join 0 _ R2 (0 + 1 + i))
  rw [eB]
  have eR : ∀ (g : Nat → Option Row), (fun i => join 0 g R2 (0 + 1 + i)) = R2 := fun g => funext fun i => join_high i
  rw [eR]
  exact hl.lies
theorem beh_drawn {sh sh' : Shp} {hand c ix sl gn : Int} {fl : Bool} {u : Ans} (hu : u.ok = true → 0 ≤ u.val ∧ u.val ≤ 9223372036854775807) : (RW sh).BehOk .drawn ⟨true, sh', hand, fl, c, ix, sl, gn⟩ u := by
 intro w B R t L
 obtain ⟨v1, v2, v3, e0, e1, e2, e3⟩ := L.lies
 obtain ⟨ok, v⟩ := u
 simp only at hu
 have hr' := down_m (L.row 0 _ e0)
 cases ok with
 | false =>
  have eo : (RW sh).beh .drawn ⟨true, sh', hand, fl, c, ix, sl, gn⟩ ⟨false, v⟩ = ((⟨true, sh', hand, fl, c, ix, sl, gn⟩ : RO), .stop) := rfl
  rw [eo]
  refine (drawn_no (v := v) (L.lt e0)).mono ?_
  rintro e w' ⟨rfl, hbl⟩
  have tt := Touch.of_below hbl (fun k => k = B 0 ∨ False)
  refine ⟨rfl, B, _, flat_post (x1 := ⟨(RW sh).T ⟨true, sh', hand, fl, c, ix, sl, gn⟩, (RW sh).n ⟨true, sh', hand, fl, c, ix, sl, gn⟩, (RW sh).mrow ⟨true, sh', hand, fl, c, ix, sl, gn⟩ v1 v2 v3 t⟩) L e0 ((L.row 0 _ e0).of_block (hbl.block _ (L.lt e0))) tt ?_⟩
  exact ⟨v1, v2, v3, rfl, fun i hi => by simp; omega⟩
 | true =>
  have eo : (RW sh).beh .drawn ⟨true, sh', hand, fl, c, ix, sl, gn⟩ ⟨true, v⟩ = ((⟨true, sh', hand, fl, c, v, sl, gn⟩ : RO), .on .mlook) := rfl
  rw [eo]
  refine (drawn_yes hr' (hu rfl)).mono ?_
  rintro e w' ⟨rfl, r, tt⟩
  refine ⟨rfl, B, _, flat_post (x1 := ⟨(RW sh).T ⟨true, sh', hand, fl, c, v, sl, gn⟩, (RW sh).n ⟨true, sh', hand, fl, c, v, sl, gn⟩, (RW sh).mrow ⟨true, sh', hand, fl, c, v, sl, gn⟩ (.func (.func 66) #[.pointer (some ⟨B 0, 0, none⟩)] #[]) v2 v3 t⟩) L e0 (up_m ⟨true, sh', hand, fl, c, v, sl, gn⟩ rfl r) (tt.mono (fun k _ h => .inl h)) ?_⟩
  exact ⟨_, v2, v3, rfl, rfl, fun i hi => by simp; omega⟩
theorem beh_laid {sh sh' : Shp} {hand c ix sl gn : Int} {fl : Bool} {u : Ans} : (RW sh).BehOk .laid ⟨false, sh', hand, fl, c, ix, sl, gn⟩ u := by
 intro w B R t L
 obtain ⟨v1, v2, v3, e0, e1, e2, e3⟩ := L.lies
 have hr' := down_g (L.row 0 _ e0)
 have eo : (RW sh).beh .laid ⟨false, sh', hand, fl, c, ix, sl, gn⟩ u = ((⟨false, sh', hand, fl, c, ix, sl, gn⟩ : RO), .on .gcount) := rfl
 rw [eo]
 refine (laid_any (u := u) hr').mono ?_
 rintro e w' ⟨rfl, r, tt⟩
 refine ⟨rfl, B, _, flat_post (x1 := ⟨(RW sh).T ⟨false, sh', hand, fl, c, ix, sl, gn⟩, (RW sh).n ⟨false, sh', hand, fl, c, ix, sl, gn⟩, (RW sh).mrow ⟨false, sh', hand, fl, c, ix, sl, gn⟩ (.func (.func 121) #[.pointer (some ⟨B 0, 0, none⟩)] #[]) v2 v3 t⟩) L e0 (up_g ⟨false, sh', hand, fl, c, ix, sl, gn⟩ rfl r) (tt.mono (fun k _ h => .inl h)) ?_⟩
 exact ⟨_, v2, v3, rfl, rfl, fun i hi => by simp; omega⟩
def rtid (j : Jb) : TypeId := rpick j 91 101
def rwf (sh : Shp) (j : Jb) (s' : WS (RW sh)) : Prop := ∃ s : RmS, s.j = j ∧ Wf sh s ∧ Sim sh s s'
theorem ms1 (b : Nat) (w : World) : (method 321 91 (.pointer (some ⟨b, 0, none⟩)) "Step").run Tryz.prog w = .ok (164, .pointer (some ⟨b, 0, none⟩)) w := by kernel_rfl
theorem ma1 (b : Nat) (w : World) : (method 321 91 (.pointer (some ⟨b, 0, none⟩)) "Answer").run Tryz.prog w = .ok (163, .pointer (some ⟨b, 0, none⟩)) w := by kernel_rfl
theorem ms2 (b : Nat) (w : World) : (method 321 101 (.pointer (some ⟨b, 0, none⟩)) "Step").run Tryz.prog w = .ok (164, .pointer (some ⟨b, 0, none⟩)) w := by kernel_rfl
theorem ma2 (b : Nat) (w : World) : (method 321 101 (.pointer (some ⟨b, 0, none⟩)) "Answer").run Tryz.prog w = .ok (163, .pointer (some ⟨b, 0, none⟩)) w := by kernel_rfl
theorem cs1 (args : Array Value) (w : World) : (callFunc 164 args).run Tryz.prog w = .ok (.enter 164 args) w := by simp [go_sem]
theorem ca1 (args : Array Value) (w : World) : (callFunc 163 args).run Tryz.prog w = .ok (.enter 163 args) w := by simp [go_sem]
theorem lfine (sh : Shp) {j : Jb} (h : j.wf) : (Ls.kList sh).fine j := ⟨h, 0, rfl⟩
theorem dj_wf : dj.wf := ⟨by show (0 : Int) ≤ 0; omega, by show (0 : Int) ≤ 18446744073709551615; omega⟩
theorem lj_wf (ix : Int) : (lj ix).wf := ⟨by show (0 : Int) ≤ 0; omega, by show (0 : Int) ≤ 18446744073709551615; omega⟩
theorem col_bit (j : Jb) : col j = 0 ∨ col j = 1 := by unfold col; split <;> simp
theorem fits {any : Bool} {sh : Shp} (h5 : Shape.R5 sh.a sh.b sh.c sh.d sh.e) : (RW sh).Fits (rerr any sh) (rinit' sh) rtid (rwf sh) where
 loc := {
  first := fun b B B' h => by show #[Wk.ptr (B' 0)] = #[Wk.ptr (B 0)]; rw [h 0 (Nat.zero_le _)]
  caps := fun b B B' h => rfl
  box := fun b o B B' h i => rfl
  six := fun o => by show 6 ≤ (if o.mkg = true then 16 else 15); split <;> omega
  actF := fun a args w => by cases a <;> simp [RW, ract, go_sem]
  behF := fun b B w t => by cases b <;> simp [RW, go_sem, invoke] }
 part := Ls.isKind h5
 start := fun h j hj => ⟨rinit sh h j, rfl, wf_init sh h hj.1 (by obtain ⟨h', e⟩ := hj.2; exact err_ab (h := h') h5.1.2 e), sim_init sh h j⟩
 keep := fun j s' n f hf hw hn => by
  obtain ⟨s, hj, H, hS⟩ := hw
  obtain ⟨e1, e2, e3⟩ := sim_step H hS (stepOf n f ((RW sh).req' s'))
  rw [← e2] at hn
  exact ⟨_, (rnext_j sh s _).trans hj, rnext_wf h5.2.1 H (had_bounds hf _) hn, e3⟩
 act := fun j a o t hj hw => by
  obtain ⟨s, _, H, hS⟩ := hw
  cases hS with
  | mlook k => exact Wk.FlatOk.act _ (flat_mlook h5)
  | muse k => exact Wk.FlatOk.act _ (flat_muse h5 H.gn (col_bit _))
  | mcount k => exact Wk.FlatOk.act _ flat_mcount
  | wipe k => exact Wk.FlatOk.act _ (flat_wipe h5 (H.sl2 k))
  | glook k => exact Wk.FlatOk.act _ (flat_glook h5)
  | leave k => exact act_leave h5 H.gn
  | gcount k => exact Wk.FlatOk.act _ (flat_gcount (H.ab k))
 beh := fun j pj ps b o t n f hj hw hf hend => by
  obtain ⟨s, _, H, hS⟩ := hw
  have hx := had_bounds hf ((Ls.kList sh).req ps)
  generalize stepOf n f ((Ls.kList sh).req ps) = x at hx hend
  cases hS with
  | @find hand j g xb gn sl ix sl' gn' lx lb t k =>
   intro w B R
   refine beh_drawn (sh := sh) (fun hok => ?_)
   by_cases ht : there sh (idx x.had)
   ·have e : (Ls.kList sh).ends (⟨⟨false, sh, hand, 1, g, lx, lb⟩, .on .find, ⟨false, 0⟩⟩ : WS Ls.W) x = false := by show Ls.W.over (Ls.W.next' _ x) = false; rw [Ls.nx_find_y ht]; rfl
    rw [e] at hend
    cases hend
   ·have e : (Ls.kList sh).tell ((Ls.kList sh).next (⟨⟨false, sh, hand, 1, g, lx, lb⟩, .on .find, ⟨false, 0⟩⟩ : WS Ls.W) x) = ⟨false, 0⟩ := by show (Ls.W.next' _ x).told = _; rw [Ls.nx_find_n ht]
    rw [e] at hok
    cases hok
  | peek k => cases hend
  | @take hand j g xb gn sl ix sl' gn' lx t k =>
   intro w B R
   refine beh_drawn (sh := sh) (fun hok => ?_)
   by_cases ht : x.ok = true
   ·have e : (Ls.kList sh).tell ((Ls.kList sh).next (⟨⟨false, sh, hand, 1, g, lx, xb⟩, .on .take, ⟨false, 0⟩⟩ : WS Ls.W) x) = ⟨true, idx g⟩ := by show (Ls.W.next' _ x).told = _; rw [Ls.nx_take_y ht]
    rw [e]
    have := idx_lo g
    have := idx_hi g
    show 0 ≤ idx g ∧ idx g ≤ _
    omega
   ·have e : (Ls.kList sh).ends (⟨⟨false, sh, hand, 1, g, lx, xb⟩, .on .take, ⟨false, 0⟩⟩ : WS Ls.W) x = false := by show Ls.W.over (Ls.W.next' _ x) = false; rw [Ls.nx_take_n ht]; rfl
    rw [e] at hend
    cases hend
  | meet k hlg => exact fun {w B R} => beh_laid (sh := sh)
  | tie k => exact fun {w B R} => beh_laid (sh := sh)
  | lay k => exact fun {w B R} => beh_laid (sh := sh)
 mate := fun j pj ps b o t hw => by
  obtain ⟨s, _, H, hS⟩ := hw
  cases hS with
  | find k => exact ⟨lfine sh dj_wf, ⟨⟨fun e => absurd e (by decide), fun e => (by cases e)⟩, rfl, H.g, rfl⟩⟩
  | peek k => exact ⟨lfine sh dj_wf, ⟨⟨fun e => absurd e (by decide), fun e => (by cases e)⟩, rfl, H.g, rfl⟩⟩
  | take k => exact ⟨lfine sh dj_wf, ⟨⟨fun e => absurd e (by decide), fun e => (by cases e)⟩, rfl, H.g, rfl⟩⟩
  | meet k hlg => exact ⟨lfine sh (lj_wf _), ⟨⟨fun _ => rfl, fun _ => rfl⟩, rfl, hlg, rfl⟩⟩
  | tie k => exact ⟨lfine sh (lj_wf _), ⟨⟨fun _ => rfl, fun _ => rfl⟩, rfl, H.g, rfl⟩⟩
  | lay k => exact ⟨lfine sh (lj_wf _), ⟨⟨fun _ => rfl, fun _ => rfl⟩, rfl, H.g, rfl⟩⟩
 live := fun j o t hw => by
  obtain ⟨s, _, H, hS⟩ := hw
  cases hS with
  | mend k => exact absurd H.st (by simp [k])
  | gend k => exact absurd H.st (by simp [k])
 meth := fun j _ b w => by
  by_cases hk : j.kind = 1
  ·simp only [rtid, pick1 hk]; exact ⟨ms1 b w, ma1 b w⟩
  ·simp only [rtid, pick2 hk]; exact ⟨ms2 b w, ma2 b w⟩
theorem isKind {any : Bool} {sh : Shp} (h5 : Shape.R5 sh.a sh.b sh.c sh.d sh.e) : IsKind (kRom any sh) where
 ok := ⟨fun h j hj => ⟨rfl, wf_init sh h hj.1 (by obtain ⟨h', e⟩ := hj.2; exact err_ab (h := h') h5.1.2 e)⟩, fun j s n f hf hs he => ⟨(rnext_j sh s _).trans hs.1, rnext_wf h5.2.1 hs.2 (had_bounds hf _) he⟩⟩
 step := fun {w bm bw n f B R s j} hf hj hL hm hne => by
  obtain ⟨s', hS, hform⟩ := hL.lies
  obtain ⟨e1, e2, e3⟩ := sim_step hj.2 hS (stepOf n f (rreq sh s))
  have K := ((RW sh).isKind (fits (any := any) h5)).step (j := j) (s := s') (B := B) (R := R) hf ⟨s, hj.1, hj.2, hS⟩ ⟨hform, hL.row, hL.inj⟩ hm hne
  refine K.mono ?_
  rintro e w' ⟨rfl, B', R', b0, hl, hold, hmm, tt⟩
  have er : ((RW sh).kd (rerr any sh) (rinit' sh) rtid (rwf sh)).req s' = rreq sh s := e1.symm
  have ee : ((RW sh).kd (rerr any sh) (rinit' sh) rtid (rwf sh)).ends s' (stepOf n f (rreq sh s)) = rends sh s (stepOf n f (rreq sh s)) := e2.symm
  rw [er] at hl hmm
  rw [er, ee]
  exact ⟨rfl, B', R', b0, ⟨⟨_, e3, hl.lies⟩, hl.row, hl.inj⟩, hold, hmm, tt⟩
 ans := fun {w B R s j} hf hj hL => by
  obtain ⟨s', hS, hform⟩ := hL.lies
  obtain ⟨v1, v2, v3, hr, _⟩ := Wk.main_row (W := RW sh) (s := s') ⟨hform, hL.row, hL.inj⟩
  have six := (fits (any := any) h5).loc.six s'.own
  show Calls Tryz.prog 163 _ w fun e w' => e = .returned s.told.value ∧ _
  rw [sim_told hS]
  exact Wk.answer_any hr.lt (hr.cell (i := 4) (by omega)) (hr.cell (i := 5) (by omega))
 mstep := fun j hf b w => by
  by_cases hk : j.kind = 1
  ·simp only [kRom, pick1 hk]; exact ms1 b w
  ·simp only [kRom, pick2 hk]; exact ms2 b w
 mans := fun j hf b w => by
  by_cases hk : j.kind = 1
  ·simp only [kRom, pick1 hk]; exact ma1 b w
  ·simp only [kRom, pick2 hk]; exact ma2 b w
 cstep := fun j hf args w => cs1 args w
 cans := fun j hf args w => ca1 args w
end Rom
end
section
namespace Hp
theorem beginAlong_any {w : World} {b T nc : Nat} {C : Nat → Value} {hand : Int} {tid : TypeId} {p : Addr} {fb : FuncId} {first caps : Array Value} (h : w.rowIs b T nc C) (hn : 3 < nc) :
  Calls Tryz.prog 33 #[.pointer (some ⟨b, 0, none⟩), .int .i64 hand, .iface tid (.pointer (some p)), .func (.func fb) first caps] w fun e w' => e = .returned (.tuple #[]) ∧
   w'.rowIs b T nc (fun k => if k = 1 then .func (.func 93) #[.pointer (some ⟨b, 0, none⟩)] #[] else if k = 3 then .func (.func fb) first caps else if k = 2 then .iface tid (.pointer (some p)) else if k = 0 then .int .i64 hand else C k) ∧ Touch w w' (fun k => k = b) := by
 have c0 := h.cell (i := 0) (by omega)
 have f0 := h.frozen 0
 have hl := h.lt
 have R0 := hide (h.set 0 (.int .i64 hand))
 have T0 := hide ((Touch.refl w (fun k => k = b)).setCell ⟨b, 0, none⟩ (.inl rfl) (.int .i64 hand))
 clear h
 go_enter Tryz.func33, Tryz.ntmps33
 go_wp2_with fail
 refine (goAlong_any R0.out hn).mono ?_
 rintro e w1 ⟨rfl, r1, t1⟩
 have R1 := hide r1
 have T1 := hide t1
 clear r1 t1
 go_wp2_with fail
 go_end0
 exact ⟨rfl, R1.out, T0.out.trans T1.out⟩
theorem join_rows {KP : Kd} {w' : World} {b : Nat} {B2 : Nat → Nat} {R2 : Nat → Option Row} {x1 : Row} {pj : Jb} {ps : KP.σ} (hr : w'.rowIs b x1.t x1.n x1.f) (hp : KP.Lies w' pj B2 R2 ps) (hn : ∀ i x, R2 i = some x → B2 i ≠ b) :
  (∀ i x, join 0 (fun _ => some x1) R2 i = some x → w'.rowIs (join 0 (fun _ => b) B2 i) x.t x.n x.f) ∧ (∀ i i' x x', join 0 (fun _ => some x1) R2 i = some x → join 0 (fun _ => some x1) R2 i' = some x' → join 0 (fun _ => b) B2 i = join 0 (fun _ => b) B2 i' → i = i') := by
 have j1 : ∀ {α : Type} (f g : Nat → α) (i : Nat), join 0 f g (i + 1) = g i := fun f g i => by unfold join; rw [if_neg (by omega)]; congr 1
 have j0 : ∀ {α : Type} (f g : Nat → α), join 0 f g 0 = f 0 := fun f g => rfl
 refine ⟨fun i x e => ?_, fun i i' x x' e e' he => ?_⟩
 ·cases i with
  | zero => cases e; exact hr
  | succ i => rw [j1] at e ⊢; exact hp.row i x e
 ·cases i with
  | zero =>
   cases i' with
   | zero => rfl
   | succ i' =>
    rw [j1] at e' he
    exact absurd he.symm (hn i' x' e')
  | succ i =>
   cases i' with
   | zero =>
    rw [j1] at e he
    exact absurd he (hn i x e)
   | succ i' =>
    rw [j1] at e e' he
    rw [j1] at he
    rw [hp.inj i i' x x' e e' he]
theorem one_rows {w' : World} {b : Nat} {x1 : Row} (hr : w'.rowIs b x1.t x1.n x1.f) :
  (∀ i x, (fun i => if i = 0 then some x1 else none : Nat → Option Row) i = some x → w'.rowIs b x.t x.n x.f) ∧ (∀ i i' x x', (fun i => if i = 0 then some x1 else none : Nat → Option Row) i = some x → (fun i => if i = 0 then some x1 else none : Nat → Option Row) i' = some x' → b = b → i = i') := by
 refine ⟨fun i x e => ?_, fun i i' x x' e e' _ => ?_⟩
 ·dsimp only at e
  split at e
  ·cases e; exact hr
  ·cases e
 ·dsimp only at e e'
  split at e
  ·split at e'
   ·next h h' => rw [h, h']
   ·cases e'
  ·cases e
end Hp
namespace Ls
open Hp
theorem draw_new {sh : Shp} (hand : Int) (j : Jb) (hk : ¬ j.kind = 1) (w : World) :
  Calls Tryz.prog 34 #[sh.val, .int .i64 hand, .int .i64 j.a] w fun e w' => ∃ B R, e = .returned (.iface (tid j) (.pointer (some ⟨B 0, 0, none⟩))) ∧ (kList sh).Lies w' j B R (init sh hand j) ∧ (∀ i x, R i = some x → w.heap.size ≤ B i) ∧ w.grownBy w' none := by
 have hmi : ∀ (x : Value) (w : World), (Instr.makeInterface 146 x).run Tryz.prog w = .ok (.iface 146 x) w := fun x w => run_makeInterface w 146 x (by kernel_rfl)
 have hmf : ∀ (fn : Fn) (first cap : Array Value) (w : World), (Instr.makeFunc fn first cap).run Tryz.prog w = .ok (.func fn first cap) w := fun _ _ _ _ => rfl
 obtain ⟨kind, a, b, c, hh⟩ := j
 simp only at hk
 have FIN := hide (show ∀ (w' : World) (q : Nat), w'.rowIs q 150 15 (dC sh hand (.func (.func 63) #[.pointer (some ⟨q, 0, none⟩)] #[]) .nilIface .nilFunc ⟨false, 0⟩ a 0 0) → w.heap.size ≤ q → ∃ R, (kList sh).Lies w' ⟨kind, a, b, c, hh⟩ (fun _ => q) R (init sh hand ⟨kind, a, b, c, hh⟩) ∧ ∀ i x, R i = some x → w.heap.size ≤ q from fun w' q hr hq => by
  obtain ⟨Rf, hRf⟩ : ∃ Rf : Nat → Option Row, Rf = fun i => if i = 0 then some ⟨150, 15, dC sh hand (.func (.func 63) #[.pointer (some ⟨q, 0, none⟩)] #[]) .nilIface .nilFunc ⟨false, 0⟩ a 0 0⟩ else none := ⟨_, rfl⟩
  have r0 : ∀ i x, Rf i = some x → i = 0 ∧ x = ⟨150, 15, dC sh hand (.func (.func 63) #[.pointer (some ⟨q, 0, none⟩)] #[]) .nilIface .nilFunc ⟨false, 0⟩ a 0 0⟩ := by
   intro i x e
   rw [hRf] at e
   dsimp only at e
   split at e
   ·next h => cases e; exact ⟨h, rfl⟩
   ·cases e
  have ei : init sh hand ⟨kind, a, b, c, hh⟩ = ⟨⟨false, sh, hand, a, 0, 0, 0⟩, .on .find, ⟨false, 0⟩⟩ := by unfold init; rw [if_neg hk]
  have hf : W.form (init sh hand ⟨kind, a, b, c, hh⟩) (fun _ => q) Rf := by
   rw [ei]
   refine ⟨_, .nilIface, .nilFunc, ?_, rfl, fun i hi => by rw [hRf]; dsimp only; rw [if_neg (by omega)]⟩
   rw [row_draw (o := ⟨false, sh, hand, a, 0, 0, 0⟩) rfl, hRf]
   rfl
  exact ⟨Rf, ⟨hf, fun i x e => by obtain ⟨_, rfl⟩ := r0 i x e; exact hr, fun i i' x x' e e' _ => by rw [(r0 i x e).1, (r0 i' x' e').1]⟩, fun i x e => hq⟩)
 have ht : tid ⟨kind, a, b, c, hh⟩ = 146 := by unfold tid; exact if_neg hk
 rw [ht]
 clear hk ht
 obtain ⟨s0, s1, s2, s3, s4, s5⟩ := sh
 simp only [Shp.val]
 obtain ⟨W0, hW0, B0, K⟩ := Shape.box w s0 s1 s2 s3 s4 s5
 have HB := hide B0
 have sz0 : W0.heap.size = w.heap.size + 1 := by rw [← hW0]; simp
 obtain ⟨-, l0, x0, x1, x2, x3, x4, x5⟩ := K.out W0 (Below.refl _ _)
 clear B0 K
 have rs : ∀ (a : Addr) (F : FuncId) (x y : Array Value) (w1 : World), (store a (.func (.func F) x y)).run Tryz.prog w1 = stored Tryz.prog w1 a (.func (.func F) x y) .plain := fun a F x y w1 => run_store Tryz.prog w1 _ _ _ rfl
 obtain ⟨W1, hW1⟩ : ∃ W1, W0.alloc (.cells #[.int .i64 0, .nilFunc, .nilIface, .nilFunc, .bool false, .int .u64 0, .int .i64 a, .int .u64 0, .int .i64 s0, .int .i64 s1, .int .i64 s2, .int .i64 s3, .int .i64 s4, .int .i64 s5, .int .i64 0] 150) = W1 := ⟨_, rfl⟩
 have RW := hide (show W1.rowIs W0.heap.size 150 15 (dC ⟨s0, s1, s2, s3, s4, s5⟩ 0 .nilFunc .nilIface .nilFunc ⟨false, 0⟩ a 0 0) from by
  rw [← hW1]
  exact rowIs_cells _ _ _ 15 rfl (fun i hi => by
   match i, hi with
   | 0, _ | 1, _ | 2, _ | 3, _ | 4, _ | 5, _ | 6, _ | 7, _ | 8, _ | 9, _ | 10, _ | 11, _ | 12, _ | 13, _ | 14, _ => rfl))
 have BWH := hide (show Below w.heap.size w W1 from by rw [← hW1]; exact HB.out.alloc HB.out.size _)
 have s1' : w.heap.size ≤ W0.heap.size := HB.out.size
 have hB : W0.heap.size = w.heap.size + 1 := sz0
 go_enter Tryz.func34, Tryz.ntmps34
 go_wp2_with fail
 rw [← hB]
 clear hW0 hW1 x0 x1 x2 x3 x4 x5
 refine (begin_any RW.out (by omega)).mono ?_
 rintro e w2 ⟨rfl, r2, t2⟩
 have RR := hide (show w2.rowIs W0.heap.size 150 15 (dC ⟨s0, s1, s2, s3, s4, s5⟩ hand (.func (.func 63) #[.pointer (some ⟨W0.heap.size, 0, none⟩)] #[]) .nilIface .nilFunc ⟨false, 0⟩ a 0 0) from r2.congr (fun i hi => by
  match i, hi with
  | 0, _ | 1, _ | 2, _ | 3, _ | 4, _ | 5, _ | 6, _ | 7, _ | 8, _ | 9, _ | 10, _ | 11, _ | 12, _ | 13, _ | 14, _ => rfl))
 have B2 := hide (BWH.out.trans (t2.below (B := w.heap.size) (fun k hk => by subst hk; omega) BWH.out.size))
 clear r2 t2
 go_wp2_with fail
 go_ret
 obtain ⟨R, hR, hN⟩ := FIN.out w2 W0.heap.size RR.out (by omega)
 exact ⟨fun _ => W0.heap.size, R, by rw [hB]; rfl, hR, hN, below_grown B2.out none⟩
end Ls
end
section
def mkOf (tb sb : Nat) : Value := .func (.func 84) #[] #[.pointer (some ⟨tb, 0, none⟩), .pointer (some ⟨sb, 0, none⟩)]
theorem mkOf_nil (tb sb : Nat) (w : World) : (binOp .eql 128 (.func (.func 84) #[] #[.pointer (some ⟨tb, 0, none⟩), .pointer (some ⟨sb, 0, none⟩)]) .nilFunc).run Tryz.prog w = .ok (.bool false) w := by kernel_rfl
structure Boxes (w : World) (tb sb : Nat) (fid : FuncId) (sh : Shp) : Prop where
 t : w.cell? ⟨tb, 0, none⟩ = some (.func (.func fid) #[] #[])
 a : w.cell? ⟨sb, 0, none⟩ = some (.int .i64 sh.a)
 b : w.cell? ⟨sb, 1, none⟩ = some (.int .i64 sh.b)
 c : w.cell? ⟨sb, 2, none⟩ = some (.int .i64 sh.c)
 d : w.cell? ⟨sb, 3, none⟩ = some (.int .i64 sh.d)
 e : w.cell? ⟨sb, 4, none⟩ = some (.int .i64 sh.e)
 f : w.cell? ⟨sb, 5, none⟩ = some (.int .i64 sh.f)
theorem Boxes.below {w w' : World} {tb sb : Nat} {fid : FuncId} {sh : Shp} {B : Nat} (h : Boxes w tb sb fid sh) (hb : Below B w w') (h1 : tb < B) (h2 : sb < B) : Boxes w' tb sb fid sh :=
 ⟨(hb.cell (p := ⟨tb, 0, none⟩) h1).trans h.t, (hb.cell (p := ⟨sb, 0, none⟩) h2).trans h.a, (hb.cell (p := ⟨sb, 1, none⟩) h2).trans h.b, (hb.cell (p := ⟨sb, 2, none⟩) h2).trans h.c, (hb.cell (p := ⟨sb, 3, none⟩) h2).trans h.d, (hb.cell (p := ⟨sb, 4, none⟩) h2).trans h.e, (hb.cell (p := ⟨sb, 5, none⟩) h2).trans h.f⟩
variable {w : World} {tb sb : Nat} {fid : FuncId} {sh : Shp} {hand : Int} {j : Jb} {vt : Value} {er : Int} {Q : World → World → Value → Prop}
theorem closure_any (hcf : ∀ (args : Array Value) (w : World), (callFunc fid args).run Tryz.prog w = .ok (.enter fid args) w) (H : Boxes w tb sb fid sh) {R : Value → World → Prop}
  (hT : Calls Tryz.prog fid #[sh.val, .int .i64 hand, j.val] (w.alloc (.cells #[.int .i64 j.kind, .int .i64 j.a, .int .i64 j.b, .int .i64 j.c, .int .u64 j.h] 52)) fun e w' => ∃ v er, e = .returned (.tuple #[v, .int .i64 er]) ∧ R (.tuple #[v, .int .i64 er]) w') :
  Calls Tryz.prog 84 #[.int .i64 hand, j.val, .pointer (some ⟨tb, 0, none⟩), .pointer (some ⟨sb, 0, none⟩)] w fun e w' => ∃ v er, e = .returned (.tuple #[v, .int .i64 er]) ∧ R (.tuple #[v, .int .i64 er]) w' := by
 obtain ⟨kind, a, b, c, hh⟩ := j
 obtain ⟨s0, s1, s2, s3, s4, s5⟩ := sh
 obtain ⟨ht, r0, r1, r2, r3, r4, r5⟩ := H
 simp only at r0 r1 r2 r3 r4 r5
 have lt := World.block_lt_of_cell? _ _ ht
 have ls := World.block_lt_of_cell? _ _ r0
 simp only at lt ls
 simp only [Shp.val, Jb.val] at hT ⊢
 have HT := hide hT
 clear hT
 go_enter Tryz.func84, Tryz.ntmps84
 go_wp2_with fail
 refine HT.out.mono ?_
 rintro e w1 ⟨v, er, rfl, hR⟩
 have HR := hide hR
 clear hR
 go_wp2_with fail
 go_ret2
 exact ⟨v, er, rfl, HR.out⟩
theorem maker_okP (hcf : ∀ (args : Array Value) (w : World), (callFunc fid args).run Tryz.prog w = .ok (.enter fid args) w) (H : Boxes w tb sb fid sh) {tid : TypeId} {K : Kd} {s : K.σ}
  (hT : ∀ w1 : World, Calls Tryz.prog fid #[sh.val, .int .i64 hand, j.val] w1 fun e w' => ∃ B R, e = .returned (.tuple #[.iface tid (.pointer (some ⟨B 0, 0, none⟩)), .int .i64 0]) ∧ K.Lies w' j B R s ∧ (∀ i x, R i = some x → w1.heap.size ≤ B i) ∧ w1.grownBy w' none) :
  Calls Tryz.prog 108 #[mkOf tb sb, .int .i64 hand, j.val] w fun e w' => ∃ B R, e = .returned (.tuple #[.iface tid (.pointer (some ⟨B 0, 0, none⟩)), .int .i64 0]) ∧ K.Lies w' j B R s ∧ (∀ i x, R i = some x → w.heap.size ≤ B i) ∧ w.grownBy w' none := by
 have HJ := hide (rfl : j = j)
 obtain ⟨jv, hjv⟩ : ∃ v, j = v := ⟨_, rfl⟩
 obtain ⟨kind, a, b, c, hh⟩ := j
 have lt := World.block_lt_of_cell? _ _ H.t
 have ls := World.block_lt_of_cell? _ _ H.a
 have hn := mkOf_nil tb sb
 have hi := iface_nil tid
 have H1 : Boxes (w.alloc (.cells #[.int .i64 kind, .int .i64 a, .int .i64 b, .int .i64 c, .int .u64 hh] 52)) tb sb fid sh := H.below ((Below.refl w.heap.size w).alloc (Nat.le_refl _) _) lt ls
 have CL := hide (closure_any (R := fun v w' => ∃ B R, v = .tuple #[.iface tid (.pointer (some ⟨B 0, 0, none⟩)), .int .i64 0] ∧ K.Lies w' jv B R s ∧ (∀ i x, R i = some x → w.heap.size ≤ B i) ∧ w.grownBy w' none) hcf H1 ((hT _).mono (by
  rintro e w' ⟨B, R, rfl, h1, h2, h3⟩
  refine ⟨_, _, rfl, B, R, rfl, hjv ▸ h1, fun i x e => ?_, grown_trans (grown_alloc (grown_alloc (grown_refl _ _) _) _) h3⟩
  have := h2 i x e
  simp only [World.size_alloc] at this
  omega)))
 rw [hjv]
 unfold mkOf
 rw [← hjv]
 simp only [Jb.val] at CL ⊢
 clear H H1 hT
 go_enter Tryz.func108, Tryz.ntmps108
 go_wp2_with fail
 refine CL.out.mono ?_
 rintro e w1 ⟨v, er, rfl, B, R, he, hr, hb, hg⟩
 obtain ⟨rfl, rfl⟩ : v = .iface tid (.pointer (some ⟨B 0, 0, none⟩)) ∧ er = 0 := by simpa using he
 have HR := hide (And.intro hr (And.intro hb hg))
 clear he hr hb hg
 go_wp2_with fail
 go_ret2
 exact ⟨B, R, rfl, hjv ▸ HR.out.1, HR.out.2.1, HR.out.2.2⟩
theorem maker_err (hcf : ∀ (args : Array Value) (w : World), (callFunc fid args).run Tryz.prog w = .ok (.enter fid args) w) (H : Boxes w tb sb fid sh) (he : ¬ er = 0)
  (hT : ∀ w1 : World, Calls Tryz.prog fid #[sh.val, .int .i64 hand, j.val] w1 fun e w' => e = .returned (.tuple #[.nilIface, .int .i64 er]) ∧ w1.grownBy w' none) :
  Calls Tryz.prog 108 #[mkOf tb sb, .int .i64 hand, j.val] w fun e w' => e = .returned (.tuple #[.nilIface, .int .i64 er]) ∧ w.grownBy w' none := by
 obtain ⟨kind, a, b, c, hh⟩ := j
 have lt := World.block_lt_of_cell? _ _ H.t
 have ls := World.block_lt_of_cell? _ _ H.a
 have hn := mkOf_nil tb sb
 have H1 : Boxes (w.alloc (.cells #[.int .i64 kind, .int .i64 a, .int .i64 b, .int .i64 c, .int .u64 hh] 52)) tb sb fid sh := H.below ((Below.refl w.heap.size w).alloc (Nat.le_refl _) _) lt ls
 have CL := hide (closure_any (R := fun v w' => v = .tuple #[.nilIface, .int .i64 er] ∧ w.grownBy w' none) hcf H1 ((hT _).mono (by
  rintro e w' ⟨rfl, h3⟩
  exact ⟨_, _, rfl, rfl, grown_trans (grown_alloc (grown_alloc (grown_refl _ _) _) _) h3⟩)))
 unfold mkOf
 simp only [Jb.val] at CL ⊢
 clear H H1 hT
 go_enter Tryz.func108, Tryz.ntmps108
 go_wp2_with fail
 refine CL.out.mono ?_
 rintro e w1 ⟨v, er', rfl, hv, hg⟩
 obtain ⟨rfl, rfl⟩ : v = .nilIface ∧ er' = er := by simpa using hv
 have HR := hide hg
 clear hv hg
 go_wp2_with fail
 go_ret2
 exact ⟨rfl, HR.out⟩
end
end Go.Proofs.YtppgbndoijppnaaGreat
