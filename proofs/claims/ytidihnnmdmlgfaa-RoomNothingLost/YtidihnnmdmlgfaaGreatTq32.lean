/-
  Lemmas: RoomC.
-/
import Derived.Test.YtidihnnmdmlgfaaGreatTq06
import Derived.Test.YtidihnnmdmlgfaaGreatTq31
namespace Go.Proofs.YtidihnnmdmlgfaaGreat
set_option maxHeartbeats 8000000
open Go.RowKit
set_option linter.unusedVariables false
set_option linter.unusedSimpArgs false
set_option maxRecDepth 20000
section
namespace Rom
open Hp
structure RmS where
  hand : Int
  j : Jb
  st : Int
  g : Int
  xb : Int
  gn : Int
  sl : Int
  told : Ans
def fin (j : Jb) : Bool := j.b == 1
def col (j : Jb) : Int := if j.c = 0 then 0 else 1
def useW (j : Jb) (gn : Int) : Int := packW true (ownB true (col j)) (fin j) false 0 gn
def nxg (gn : Int) : Int := if gn = 4294967295 then gn else gn + 1
def mx0 (a : Int) : Int := if a < 0 then 0 else a
def rerr (any : Bool) (sh : Shp) (hand : Int) (j : Jb) : Int :=
  if any = true then (if j.a ≤ 9223372036854775807 then 0 else 2) else if j.kind = 1 then (if (j.b = 0 ∨ j.b = 1) ∧ (j.c = 0 ∨ j.c = 1) then 0 else 2) else if j.kind = 2 then (if there sh j.a then 0 else 2) else 200
def rreq (sh : Shp) (s : RmS) : Stp :=
  if s.j.kind = 1 then
    (if s.st = 0 then ⟨s.hand, 1, 1, 0, 0, true⟩ else if s.st = 1 then ⟨s.hand, 1, linkAt sh (idx s.g), 0, 0, true⟩ else if s.st = 2 then ⟨s.hand, 5, 1, s.g, bmp s.g s.xb, true⟩
     else if s.st = 3 then ⟨s.hand, 1, headAt sh (idx s.g), 0, 0, true⟩ else if s.st = 4 then ⟨s.hand, 2, headAt sh (idx s.g), 0, useW s.j s.gn, true⟩ else ⟨s.hand, 4, 4, 0, 1, true⟩)
  else
    (if s.st = 0 then ⟨s.hand, 2, slotAt sh s.j.a s.sl, 0, 0, true⟩ else if s.st = 1 then ⟨s.hand, 1, headAt sh s.j.a, 0, 0, true⟩ else if s.st = 2 then ⟨s.hand, 2, headAt sh s.j.a, 0, hd 0 (nxg s.gn), true⟩
     else if s.st = 3 then ⟨s.hand, 1, 1, 0, 0, true⟩ else if s.st = 4 then ⟨s.hand, 2, linkAt sh s.j.a, 0, idx s.g, true⟩ else if s.st = 5 then ⟨s.hand, 5, 1, s.g, bmp s.g s.j.a, true⟩ else ⟨s.hand, 4, 5, 0, 1, true⟩)
def rends (sh : Shp) (s : RmS) (x : Stp) : Bool :=
  if s.j.kind = 1 then (if s.st = 0 then !(decide (there sh (idx x.had))) else decide (s.st = 5))
  else decide (s.st = 6)
def rnext (sh : Shp) (s : RmS) (x : Stp) : RmS :=
  if s.j.kind = 1 then
    (if s.st = 0 then (if there sh (idx x.had) then { s with g := x.had, st := 1 } else { s with g := x.had, st := 9 })
     else if s.st = 1 then { s with xb := idx x.had, st := 2 }
     else if s.st = 2 then (if x.ok = true then { s with st := 3 } else { s with st := 0 })
     else if s.st = 3 then { s with gn := x.had / 4294967296, st := 4 }
     else if s.st = 4 then { s with st := 5 }
     else { s with told := ⟨true, hd (idx s.g) s.gn⟩, st := 9 })
  else
    (if s.st = 0 then (if slotIn sh s.j.a (s.sl + 1) then { s with sl := s.sl + 1 } else { s with sl := s.sl + 1, st := 1 })
     else if s.st = 1 then { s with gn := x.had / 4294967296, st := 2 }
     else if s.st = 2 then (if s.gn = 4294967295 then { s with st := 6 } else { s with st := 3 })
     else if s.st = 3 then { s with g := x.had, st := 4 }
     else if s.st = 4 then { s with st := 5 }
     else if s.st = 5 then (if x.ok = true then { s with st := 6 } else { s with st := 3 })
     else { s with told := ⟨true, mx0 s.j.a⟩, st := 9 })
def mC (sh : Shp) (hand : Int) (fn v2 v3 : Value) (t : Ans) (fl : Bool) (c ix gn : Int) : Nat → Value := fun k => match k with | 0 => .int .i64 hand | 1 => fn | 2 => v2 | 3 => v3 | 4 => .bool t.ok | 5 => .int .u64 t.val | 6 => .int .i64 sh.a | 7 => .int .i64 sh.b | 8 => .int .i64 sh.c | 9 => .int .i64 sh.d | 10 => .int .i64 sh.e | 11 => .int .i64 sh.f | 12 => .bool fl | 13 => .int .i64 c | 14 => .int .i64 ix | _ => .int .u64 gn
def gC (sh : Shp) (hand : Int) (fn v2 v3 : Value) (t : Ans) (ix sl gn : Int) : Nat → Value := fun k => match k with | 0 => .int .i64 hand | 1 => fn | 2 => v2 | 3 => v3 | 4 => .bool t.ok | 5 => .int .u64 t.val | 6 => .int .i64 sh.a | 7 => .int .i64 sh.b | 8 => .int .i64 sh.c | 9 => .int .i64 sh.d | 10 => .int .i64 sh.e | 11 => .int .i64 sh.f | 12 => .int .i64 ix | 13 => .int .i64 sl | _ => .int .u64 gn
def rpick {α : Type} (j : Jb) (x y : α) : α := if j.kind = 1 then x else y
theorem pick1 {α : Type} {j : Jb} (h : j.kind = 1) (x y : α) : rpick j x y = x := by simp [rpick, h]
theorem pick2 {α : Type} {j : Jb} (h : ¬ j.kind = 1) (x y : α) : rpick j x y = y := by simp [rpick, h]
structure Wf (sh : Shp) (s : RmS) : Prop where
  st : (s.j.kind = 1 ∧ (s.st = 0 ∨ s.st = 1 ∨ s.st = 2 ∨ s.st = 3 ∨ s.st = 4 ∨ s.st = 5)) ∨ (¬ s.j.kind = 1 ∧ (s.st = 0 ∨ s.st = 1 ∨ s.st = 2 ∨ s.st = 3 ∨ s.st = 4 ∨ s.st = 5 ∨ s.st = 6))
  h : s.j.wf
  g : 0 ≤ s.g ∧ s.g ≤ 18446744073709551615
  gn : 0 ≤ s.gn ∧ s.gn ≤ 4294967295
  th : s.j.kind = 1 → ¬ s.st = 0 → there sh (idx s.g)
  xb : s.j.kind = 1 → ¬ s.st = 0 → ¬ s.st = 1 → 0 ≤ s.xb ∧ s.xb < 4294967296
  sl : ¬ s.j.kind = 1 → s.st = 0 → slotIn sh s.j.a s.sl
  sl2 : ¬ s.j.kind = 1 → 0 ≤ s.sl ∧ s.sl ≤ 4
  ab : ¬ s.j.kind = 1 → s.j.a ≤ 9223372036854775807
def rinit (sh : Shp) (h : Int) (j : Jb) : RmS := ⟨h, j, if j.kind = 1 then 0 else if slotIn sh j.a 0 then 0 else 1, 0, 0, 0, 0, ⟨false, 0⟩⟩
structure RO where
  mkg : Bool
  sh : Shp
  hand : Int
  fl : Bool
  c : Int
  ix : Int
  sl : Int
  gn : Int
inductive RA where
  | mlook | muse | mcount | wipe | glook | leave | gcount
inductive RB where
  | drawn | laid
def ract : RA → FuncId
  | .mlook => 57
  | .muse => 70
  | .mcount => 80
  | .wipe => 60
  | .glook => 59
  | .leave => 73
  | .gcount => 83
def rown (o : RO) (k : Nat) : Value := if o.mkg = true then mC o.sh o.hand .nilFunc .nilFunc .nilFunc ⟨false, 0⟩ o.fl o.c o.ix o.gn (k + 6) else gC o.sh o.hand .nilFunc .nilFunc .nilFunc ⟨false, 0⟩ o.ix o.sl o.gn (k + 6)
def areq (a : RA) (o : RO) : Stp :=
  match a with
  | .mlook => ⟨o.hand, 1, headAt o.sh o.ix, 0, 0, true⟩
  | .muse => ⟨o.hand, 2, headAt o.sh o.ix, 0, packW true (ownB true o.c) o.fl false 0 o.gn, true⟩
  | .mcount => ⟨o.hand, 4, 4, 0, 1, true⟩
  | .wipe => ⟨o.hand, 2, slotAt o.sh o.ix o.sl, 0, 0, true⟩
  | .glook => ⟨o.hand, 1, headAt o.sh o.ix, 0, 0, true⟩
  | .leave => ⟨o.hand, 2, headAt o.sh o.ix, 0, hd 0 (nxg o.gn), true⟩
  | .gcount => ⟨o.hand, 4, 5, 0, 1, true⟩
def dj : Jb := ⟨2, 1, 0, 0, 0⟩
def lj (ix : Int) : Jb := ⟨1, 1, ix, 0, 0⟩
noncomputable def aout (a : RA) (o : RO) (x : Stp) : RO × Goes RA (WS Ls.W) RB :=
  open Classical in
  match a with
  | .mlook => ({ o with gn := x.had / 4294967296 }, .on .muse)
  | .muse => (o, .on .mcount)
  | .mcount => (o, .done ⟨true, hd o.ix o.gn⟩)
  | .wipe => ({ o with sl := o.sl + 1 }, if slotIn o.sh o.ix (o.sl + 1) then .on .wipe else .on .glook)
  | .glook => ({ o with gn := x.had / 4294967296 }, .on .leave)
  | .leave => (o, if o.gn = 4294967295 then .on .gcount else .along (lj o.ix) (Ls.init o.sh o.hand (lj o.ix)) .laid)
  | .gcount => (o, .done ⟨true, mx0 o.ix⟩)
def abeh (b : RB) (o : RO) (u : Ans) : RO × Goes RA (WS Ls.W) RB :=
  match b with
  | .drawn => if u.ok = true then ({ o with ix := u.val }, .on .mlook) else (o, .stop)
  | .laid => (o, .on .gcount)
noncomputable def RW (sh : Shp) : Wk (Ls.kList sh) where
  τ := RO
  A := RA
  β := RB
  T := fun o => if o.mkg = true then 101 else 105
  n := fun o => if o.mkg = true then 16 else 15
  c := 0
  hand := fun o => o.hand
  own := rown
  act := ract
  fb := fun b => match b with | .drawn => 41 | .laid => 86
  first := fun _ B => #[Wk.ptr (B 0)]
  caps := fun _ _ => #[]
  box := fun _ _ _ _ => none
  req := areq
  out := aout
  beh := abeh
inductive Sim (sh : Shp) : RmS → WS (RW sh) → Prop where
  | find {hand : Int} {j : Jb} {g xb gn sl ix sl' gn' lx lb : Int} {t : Ans} (k : j.kind = 1) : Sim sh ⟨hand, j, 0, g, xb, gn, sl, t⟩ ⟨⟨true, sh, hand, fin j, col j, ix, sl', gn'⟩, .along dj ⟨⟨false, sh, hand, 1, g, lx, lb⟩, .on .find, ⟨false, 0⟩⟩ .drawn, t⟩
  | peek {hand : Int} {j : Jb} {g xb gn sl ix sl' gn' lx lb : Int} {t : Ans} (k : j.kind = 1) : Sim sh ⟨hand, j, 1, g, xb, gn, sl, t⟩ ⟨⟨true, sh, hand, fin j, col j, ix, sl', gn'⟩, .along dj ⟨⟨false, sh, hand, 1, g, lx, lb⟩, .on .peek, ⟨false, 0⟩⟩ .drawn, t⟩
  | take {hand : Int} {j : Jb} {g xb gn sl ix sl' gn' lx : Int} {t : Ans} (k : j.kind = 1) : Sim sh ⟨hand, j, 2, g, xb, gn, sl, t⟩ ⟨⟨true, sh, hand, fin j, col j, ix, sl', gn'⟩, .along dj ⟨⟨false, sh, hand, 1, g, lx, xb⟩, .on .take, ⟨false, 0⟩⟩ .drawn, t⟩
  | mlook {hand : Int} {j : Jb} {g xb gn sl sl' gn' : Int} {t : Ans} (k : j.kind = 1) : Sim sh ⟨hand, j, 3, g, xb, gn, sl, t⟩ ⟨⟨true, sh, hand, fin j, col j, idx g, sl', gn'⟩, .on .mlook, t⟩
  | muse {hand : Int} {j : Jb} {g xb gn sl sl' : Int} {t : Ans} (k : j.kind = 1) : Sim sh ⟨hand, j, 4, g, xb, gn, sl, t⟩ ⟨⟨true, sh, hand, fin j, col j, idx g, sl', gn⟩, .on .muse, t⟩
  | mcount {hand : Int} {j : Jb} {g xb gn sl sl' : Int} {t : Ans} (k : j.kind = 1) : Sim sh ⟨hand, j, 5, g, xb, gn, sl, t⟩ ⟨⟨true, sh, hand, fin j, col j, idx g, sl', gn⟩, .on .mcount, t⟩
  | mend {hand : Int} {j : Jb} {g xb gn sl : Int} {o : RO} {t : Ans} (k : j.kind = 1) : Sim sh ⟨hand, j, 9, g, xb, gn, sl, t⟩ ⟨o, .ended, t⟩
  | wipe {hand : Int} {j : Jb} {g xb gn sl gn' c : Int} {fl : Bool} {t : Ans} (k : ¬ j.kind = 1) : Sim sh ⟨hand, j, 0, g, xb, gn, sl, t⟩ ⟨⟨false, sh, hand, fl, c, j.a, sl, gn'⟩, .on .wipe, t⟩
  | glook {hand : Int} {j : Jb} {g xb gn sl sl' gn' c : Int} {fl : Bool} {t : Ans} (k : ¬ j.kind = 1) : Sim sh ⟨hand, j, 1, g, xb, gn, sl, t⟩ ⟨⟨false, sh, hand, fl, c, j.a, sl', gn'⟩, .on .glook, t⟩
  | leave {hand : Int} {j : Jb} {g xb gn sl sl' c : Int} {fl : Bool} {t : Ans} (k : ¬ j.kind = 1) : Sim sh ⟨hand, j, 2, g, xb, gn, sl, t⟩ ⟨⟨false, sh, hand, fl, c, j.a, sl', gn⟩, .on .leave, t⟩
  | meet {hand : Int} {j : Jb} {g xb gn sl sl' gn' c lg lb : Int} {fl : Bool} {t : Ans} (k : ¬ j.kind = 1) (hlg : 0 ≤ lg ∧ lg ≤ 18446744073709551615) : Sim sh ⟨hand, j, 3, g, xb, gn, sl, t⟩ ⟨⟨false, sh, hand, fl, c, j.a, sl', gn'⟩, .along (lj j.a) ⟨⟨true, sh, hand, 1, lg, j.a, lb⟩, .on .meet, ⟨false, 0⟩⟩ .laid, t⟩
  | tie {hand : Int} {j : Jb} {g xb gn sl sl' gn' c lb : Int} {fl : Bool} {t : Ans} (k : ¬ j.kind = 1) : Sim sh ⟨hand, j, 4, g, xb, gn, sl, t⟩ ⟨⟨false, sh, hand, fl, c, j.a, sl', gn'⟩, .along (lj j.a) ⟨⟨true, sh, hand, 1, g, j.a, lb⟩, .on .tie, ⟨false, 0⟩⟩ .laid, t⟩
  | lay {hand : Int} {j : Jb} {g xb gn sl sl' gn' c lb : Int} {fl : Bool} {t : Ans} (k : ¬ j.kind = 1) : Sim sh ⟨hand, j, 5, g, xb, gn, sl, t⟩ ⟨⟨false, sh, hand, fl, c, j.a, sl', gn'⟩, .along (lj j.a) ⟨⟨true, sh, hand, 1, g, j.a, lb⟩, .on .lay, ⟨false, 0⟩⟩ .laid, t⟩
  | gcount {hand : Int} {j : Jb} {g xb gn sl sl' gn' c : Int} {fl : Bool} {t : Ans} (k : ¬ j.kind = 1) : Sim sh ⟨hand, j, 6, g, xb, gn, sl, t⟩ ⟨⟨false, sh, hand, fl, c, j.a, sl', gn'⟩, .on .gcount, t⟩
  | gend {hand : Int} {j : Jb} {g xb gn sl : Int} {o : RO} {t : Ans} (k : ¬ j.kind = 1) : Sim sh ⟨hand, j, 9, g, xb, gn, sl, t⟩ ⟨o, .ended, t⟩
noncomputable def rinit' (sh : Shp) (h : Int) (j : Jb) : WS (RW sh) :=
  open Classical in
  if j.kind = 1 then ⟨⟨true, sh, h, fin j, col j, 0, 0, 0⟩, .along dj (Ls.init sh h dj) .drawn, ⟨false, 0⟩⟩
  else ⟨⟨false, sh, h, false, 0, j.a, 0, 0⟩, .on (if slotIn sh j.a 0 then .wipe else .glook), ⟨false, 0⟩⟩
theorem sim_init (sh : Shp) (h : Int) (j : Jb) : Sim sh (rinit sh h j) (rinit' sh h j) := by
  unfold rinit rinit'
  by_cases k : j.kind = 1
  · rw [if_pos k, if_pos k]
    have e : Ls.init sh h dj = ⟨⟨false, sh, h, 1, 0, 0, 0⟩, .on .find, ⟨false, 0⟩⟩ := by unfold Ls.init dj; rw [if_neg (by decide)]
    rw [e]
    exact .find k
  · rw [if_neg k, if_neg k]
    by_cases hs : slotIn sh j.a 0
    · simp only [hs, if_true]
      exact .wipe k
    · simp only [hs, if_false]
      exact .glook k
def kRom (any : Bool) (sh : Shp) : Kd where
  σ := RmS
  err := rerr any sh
  init := rinit sh
  req := rreq sh
  next := rnext sh
  ends := rends sh
  tell s := s.told
  tid j := rpick j 93 103
  fs _ := 125
  fa _ := 124
  lies _ B s R := ∃ s' : WS (RW sh), Sim sh s s' ∧ (RW sh).form s' B R
  wf j s := s.j = j ∧ Wf sh s
theorem rnext_j (sh : Shp) (s : RmS) (x : Stp) : (rnext sh s x).j = s.j := by
  unfold rnext
  repeat' split
  all_goals rfl
theorem rnext_wf {sh : Shp} (h4 : 0 ≤ sh.b ∧ sh.b ≤ 4) {s : RmS} {x : Stp} (H : Wf sh s) (hx : 0 ≤ x.had ∧ x.had ≤ 18446744073709551615) (he : ¬ rends sh s x = true) : Wf sh (rnext sh s x) := by
  obtain ⟨hk, hh, hg, hn, ht, hb, hs, hs2, hab⟩ := H
  obtain ⟨hand, j, st, g, xb, gn, sl, told⟩ := s
  simp only at hk hh hg hn ht hb hs hs2 hab
  have ix0 := idx_lo x.had
  have ix1 := idx_hi x.had
  rcases hk with ⟨hk, rfl | rfl | rfl | rfl | rfl | rfl⟩ | ⟨hk, rfl | rfl | rfl | rfl | rfl | rfl | rfl⟩
  · have ht : there sh (idx x.had) := by simpa [rends, hk] using he
    simp only [rnext, hk, ht, if_true]
    exact ⟨.inl ⟨hk, by simp⟩, hh, hx, hn, fun _ _ => ht, fun _ _ h => absurd rfl h, fun h => absurd hk h, fun h => absurd hk h, hab⟩
  · simp only [rnext, hk, if_true, if_neg (show ¬ (1 : Int) = 0 by decide)]
    exact ⟨.inl ⟨hk, by simp⟩, hh, hg, hn, fun _ _ => ht hk (by decide), fun _ _ _ => ⟨ix0, ix1⟩, fun h => absurd hk h, fun h => absurd hk h, hab⟩
  · simp only [rnext, hk, if_true, if_neg (show ¬ (2 : Int) = 0 by decide), if_neg (show ¬ (2 : Int) = 1 by decide)]
    split
    · exact ⟨.inl ⟨hk, by simp⟩, hh, hg, hn, fun _ _ => ht hk (by decide), fun _ _ _ => hb hk (by decide) (by decide), fun h => absurd hk h, fun h => absurd hk h, hab⟩
    · exact ⟨.inl ⟨hk, by simp⟩, hh, hg, hn, fun _ h => absurd rfl h, fun _ h => absurd rfl h, fun h => absurd hk h, fun h => absurd hk h, hab⟩
  · simp only [rnext, hk, if_true, if_neg (show ¬ (3 : Int) = 0 by decide), if_neg (show ¬ (3 : Int) = 1 by decide), if_neg (show ¬ (3 : Int) = 2 by decide)]
    exact ⟨.inl ⟨hk, by simp⟩, hh, hg, (by simp only; omega), fun _ _ => ht hk (by decide), fun _ _ _ => hb hk (by decide) (by decide), fun h => absurd hk h, fun h => absurd hk h, hab⟩
  · simp only [rnext, hk, if_true, if_neg (show ¬ (4 : Int) = 0 by decide), if_neg (show ¬ (4 : Int) = 1 by decide), if_neg (show ¬ (4 : Int) = 2 by decide), if_neg (show ¬ (4 : Int) = 3 by decide)]
    exact ⟨.inl ⟨hk, by simp⟩, hh, hg, hn, fun _ _ => ht hk (by decide), fun _ _ _ => hb hk (by decide) (by decide), fun h => absurd hk h, fun h => absurd hk h, hab⟩
  · exact absurd (by simp [rends, hk]) he
  · simp only [rnext, hk, if_true, if_false]
    have h0 := hs2 hk
    have h1 := (hs hk rfl).2
    split
    · rename_i hin
      exact ⟨.inr ⟨hk, by simp⟩, hh, hg, hn, fun h => absurd h hk, fun h => absurd h hk, fun _ _ => hin, fun _ => (by simp only; omega), hab⟩
    · exact ⟨.inr ⟨hk, by simp⟩, hh, hg, hn, fun h => absurd h hk, fun h => absurd h hk, fun _ h => absurd h (by simp), fun _ => (by simp only; omega), hab⟩
  · simp only [rnext, hk, if_true, if_false, if_neg (show ¬ (1 : Int) = 0 by decide)]
    exact ⟨.inr ⟨hk, by simp⟩, hh, hg, (by simp only; omega), fun h => absurd h hk, fun h => absurd h hk, fun _ h => absurd h (by simp), fun _ => hs2 hk, hab⟩
  · simp only [rnext, hk, if_true, if_false, if_neg (show ¬ (2 : Int) = 0 by decide), if_neg (show ¬ (2 : Int) = 1 by decide)]
    split
    · exact ⟨.inr ⟨hk, by simp⟩, hh, hg, hn, fun h => absurd h hk, fun h => absurd h hk, fun _ h => absurd h (by simp), fun _ => hs2 hk, hab⟩
    · exact ⟨.inr ⟨hk, by simp⟩, hh, hg, hn, fun h => absurd h hk, fun h => absurd h hk, fun _ h => absurd h (by simp), fun _ => hs2 hk, hab⟩
  · simp only [rnext, hk, if_true, if_false, if_neg (show ¬ (3 : Int) = 0 by decide), if_neg (show ¬ (3 : Int) = 1 by decide), if_neg (show ¬ (3 : Int) = 2 by decide)]
    exact ⟨.inr ⟨hk, by simp⟩, hh, hx, hn, fun h => absurd h hk, fun h => absurd h hk, fun _ h => absurd h (by simp), fun _ => hs2 hk, hab⟩
  · simp only [rnext, hk, if_true, if_false, if_neg (show ¬ (4 : Int) = 0 by decide), if_neg (show ¬ (4 : Int) = 1 by decide), if_neg (show ¬ (4 : Int) = 2 by decide), if_neg (show ¬ (4 : Int) = 3 by decide)]
    exact ⟨.inr ⟨hk, by simp⟩, hh, hg, hn, fun h => absurd h hk, fun h => absurd h hk, fun _ h => absurd h (by simp), fun _ => hs2 hk, hab⟩
  · simp only [rnext, hk, if_true, if_false, if_neg (show ¬ (5 : Int) = 0 by decide), if_neg (show ¬ (5 : Int) = 1 by decide), if_neg (show ¬ (5 : Int) = 2 by decide), if_neg (show ¬ (5 : Int) = 3 by decide), if_neg (show ¬ (5 : Int) = 4 by decide)]
    split
    · exact ⟨.inr ⟨hk, by simp⟩, hh, hg, hn, fun h => absurd h hk, fun h => absurd h hk, fun _ h => absurd h (by simp), fun _ => hs2 hk, hab⟩
    · exact ⟨.inr ⟨hk, by simp⟩, hh, hg, hn, fun h => absurd h hk, fun h => absurd h hk, fun _ h => absurd h (by simp), fun _ => hs2 hk, hab⟩
  · exact absurd (by simp [rends, hk]) he
theorem wf_init (sh : Shp) (h : Int) {j : Jb} (hj : j.wf) (hab : ¬ j.kind = 1 → j.a ≤ 9223372036854775807) : Wf sh (rinit sh h j) := by
  refine ⟨?_, hj, by simp [rinit], by simp [rinit], fun hk h => absurd (by simp [rinit] at hk ⊢; intro h'; exact absurd hk h') h, fun hk h => absurd (by simp [rinit] at hk ⊢; intro h'; exact absurd hk h') h, ?_, fun _ => by simp [rinit], hab⟩
  · by_cases hk : j.kind = 1
    · exact .inl ⟨hk, .inl (by simp [rinit, hk])⟩
    · refine .inr ⟨hk, ?_⟩
      by_cases hs : slotIn sh j.a 0
      · exact .inl (by simp [rinit, hk, hs])
      · exact .inr (.inl (by simp [rinit, hk, hs]))
  · intro hk he
    have hk' : ¬ j.kind = 1 := hk
    by_cases hs : slotIn sh j.a 0
    · exact hs
    · simp [rinit, hk', hs] at he
theorem err_ab {any : Bool} {sh : Shp} (ha : sh.a ≤ 64) {h : Int} {j : Jb} (he : rerr any sh h j = 0) (hk : ¬ j.kind = 1) : j.a ≤ 9223372036854775807 := by
  unfold rerr at he
  by_cases ha' : any = true
  · rw [if_pos ha'] at he
    by_cases hc : j.a ≤ 9223372036854775807
    · exact hc
    · rw [if_neg hc] at he
      cases he
  · rw [if_neg ha', if_neg hk] at he
    by_cases h2 : j.kind = 2
    · rw [if_pos h2] at he
      by_cases ht : there sh j.a
      · have := ht.2
        omega
      · rw [if_neg ht] at he
        cases he
    · rw [if_neg h2] at he
      cases he
theorem use_wf {j : Jb} {gn : Int} (h : 0 ≤ gn ∧ gn ≤ 4294967295) : 0 ≤ useW j gn ∧ useW j gn ≤ 18446744073709551615 := by
  have := bits_lt true (ownB true (col j)) (fin j) false
  unfold useW packW
  omega
theorem rreq_put {sh : Shp} {s : RmS} (H : Wf sh s) : 0 ≤ (rreq sh s).put ∧ (rreq sh s).put ≤ 18446744073709551615 := by
  obtain ⟨hk, hh, hg, hn, ht, hb, hs, hs2, hab⟩ := H
  have a1 := idx_lo s.g
  have a2 := idx_hi s.g
  have a3 := hd_lo 0 (nxg s.gn)
  have a4 := hd_hi 0 (nxg s.gn)
  unfold rreq
  repeat' split
  all_goals first | exact ⟨bmp_lo _ _, bmp_hi _ _⟩ | exact use_wf hn | (simp only; omega)
end Rom
end
end Go.Proofs.YtidihnnmdmlgfaaGreat
