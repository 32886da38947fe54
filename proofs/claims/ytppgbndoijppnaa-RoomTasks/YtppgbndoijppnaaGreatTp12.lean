/-
  Lemmas: RDone3, RRows, Made, Run0, NewRun, Play0.
-/
import Derived.Test.YtppgbndoijppnaaGreatTp11
import Derived.Test.YtppgbndoijppnaaGreatTp09
import Derived.Deep.QuietTactic
import Derived.BigQuiet
import Derived.Deep.Cut
import Derived.Deep.RegionHeld
namespace Go.Proofs.YtppgbndoijppnaaGreat
set_option maxHeartbeats 8000000
open Go.RowKit
set_option linter.unusedVariables false
set_option linter.unusedSimpArgs false
set_option linter.unnecessarySimpa false
set_option maxRecDepth 20000
section
open Beg
variable {K : Kd} {rep : List Value → K.σ → Prop} {P : Par} {blk blk' : Rl → Nat} {c c' : Rl → Option Row} {st : St K} {un : Nat → Bool} {capw : Nat} {sv sv' : Value} {w : World} {base B : Nat} {aoh aos : Option Addr} {caph caps : Nat} {sh : Shp} {la : Int} {h : Nat} {x : Stp} {f' : Nat → Int} {cs : List Value}
end
section
open Beg
theorem size46 : (Tryz.prog.info? 69).map (·.size) = some 6 := by kernel_rfl
theorem row46 : ∃ d, Tryz.prog.underlying 69 = some d ∧ d.isRow = true := by
 have h : (Tryz.prog.underlying 69).map (fun d => d.isRow) = some true := by kernel_rfl
 exact Option.map_eq_some_iff.1 h
theorem lrow_set {l : List Value} {i : Nat} {v : Value} (hi : i < l.length) : (fun j => if j = i then v else lrow l j) = lrow (l.set i v) := by
 funext q
 unfold lrow
 by_cases h : q = i
 ·subst h; simp [hi]
 ·simp [h, List.getElem?_set, Ne.symm h]
theorem rowIs.setL {w : World} {b : Nat} {t : TypeId} {n : Nat} {l : List Value} (h : w.rowIs b t n (lrow l)) {i : Nat} (hi : i < l.length) (v : Value) : (w.setCell ⟨b, i, none⟩ v).rowIs b t n (lrow (l.set i v)) := by
 have := h.set i v
 rwa [lrow_set hi] at this
theorem rowIs.range {w : World} {b : Nat} {t : TypeId} {n : Nat} {l : List Value} (h : w.rowIs b t n (lrow l)) (hl : l.length = n) : w.rangeAt b 0 l := fun j v hv => by
 have hj := (List.getElem?_eq_some_iff.1 hv).1
 rw [Nat.zero_add, h.cell (i := j) (by omega), lrow_of hv]
theorem rowL_alloc (w : World) (l : List Value) (t : TypeId) {n : Nat} (hn : l.length = n) : (w.alloc (.cells l.toArray t)).rowIs w.heap.size t n (lrow l) := World.rowIs_alloc' w l.toArray t n (by simpa using hn) (fun i hi => by simp [lrow, hn, hi])
end
section
def ifs (K : Kd) (P : Par) (blk : Rl → Nat) (h : Nat) : Nat → List Value
 | 0 => []
 | k + 1 => ifs K P blk h k ++ [.iface (K.tid (P.jb h k)) (.pointer (some ⟨blk (.task h k 0), 0, none⟩))]
theorem ifs_length (K : Kd) (P : Par) (blk : Rl → Nat) (h k : Nat) : (ifs K P blk h k).length = k * 1 := by
 induction k with
 | zero => rfl
 | succ k ih => simp [ifs, ih]
theorem ifs_congr {K : Kd} {P : Par} {blk blk' : Rl → Nat} {h k : Nat} (e : ∀ j, j < k → blk' (.task h j 0) = blk (.task h j 0)) : ifs K P blk' h k = ifs K P blk h k := by
 induction k with
 | zero => rfl
 | succ k ih => simp only [ifs]; rw [ih (fun j hj => e j (by omega)), e k (by omega)]
theorem ifs_get {K : Kd} {P : Par} {blk : Rl → Nat} {h k j : Nat} (hj : j < k) : (ifs K P blk h k)[j]? = some (.iface (K.tid (P.jb h j)) (.pointer (some ⟨blk (.task h j 0), 0, none⟩))) := by
 induction k with
 | zero => omega
 | succ k ih =>
  simp only [ifs]
  by_cases e : j = k
  ·subst e
   rw [List.getElem?_append_right (by rw [ifs_length]; omega), ifs_length]
   simp
  ·rw [List.getElem?_append_left (by rw [ifs_length]; omega)]
   exact ih (by omega)
def mUp (jn : Nat → Nat) (i j : Nat) : Nat → Nat := fun h => if h < i then jn h else if h = i then j else 0
theorem mUp_next (jn : Nat → Nat) (i : Nat) : mUp jn i (jn i) = mUp jn (i + 1) 0 := by
 funext h
 unfold mUp
 by_cases h1 : h < i
 ·rw [if_pos h1, if_pos (by omega)]
 ·by_cases h2 : h = i
  ·rw [if_neg h1, if_pos h2, if_pos (by omega), h2]
  ·rw [if_neg h1, if_neg h2, if_neg (by omega)]; split <;> rfl
theorem mUp_self (jn : Nat → Nat) (i j : Nat) : mUp jn i j i = j := by unfold mUp; rw [if_neg (by omega), if_pos rfl]
theorem mUp_succ (jn : Nat → Nat) (i j h : Nat) (hne : h ≠ i) : mUp jn i (j + 1) h = mUp jn i j h := by unfold mUp; rw [if_neg hne, if_neg hne]
theorem mUp_all (jn : Nat → Nat) (n h : Nat) (hh : h < n) : mUp jn n 0 h = jn h := by unfold mUp; rw [if_pos hh]
structure Made (K : Kd) (P : Par) (blk0 : Rl → Nat) (c0 : Rl → Option Row) (blk : Rl → Nat) (c : Rl → Option Row) (m : Nat → Nat) : Prop where
 mem : c .mem = c0 .mem
 words : c .words = c0 .words
 bm : blk .mem = blk0 .mem
 bw : blk .words = blk0 .words
 free : c .run = none ∧ c .going = none ∧ c .answers = none ∧ c .steps = none ∧ ∀ h, c (.arow h) = none
 tasks : ∃ T, c .tasks = some ⟨184, P.nh, T⟩ ∧ ∀ h, h < P.nh → Grows blk c (.trow h) 48 1 (m h) (ifs K P blk h (m h)) (T h)
 task : ∀ h, h < P.nh → ∀ j, j < m h → K.lies (P.jb h j) (fun i => blk (.task h j i)) (K.init h (P.jb h j)) (fun i => c (.task h j i))
def FirstErr (K : Kd) (P : Par) (e : Int) : Prop :=
 ∃ H J, H < P.nh ∧ J < P.jn H ∧ K.err H (P.jb H J) = e ∧ e ≠ 0 ∧ (∀ h, h < H → ∀ j, j < P.jn h → K.err h (P.jb h j) = 0) ∧ ∀ j, j < J → K.err H (P.jb H j) = 0
def AllOk (K : Kd) (P : Par) : Prop := ∀ h, h < P.nh → ∀ j, j < P.jn h → K.err h (P.jb h j) = 0
theorem FirstErr.one {K : Kd} {P : Par} {e e' : Int} (h : FirstErr K P e) (h' : FirstErr K P e') : e = e' := by
 obtain ⟨H, J, h1, h2, h3, h4, h5, h6⟩ := h
 obtain ⟨H', J', h1', h2', h3', h4', h5', h6'⟩ := h'
 rcases Nat.lt_trichotomy H H' with l | rfl | l
 ·exact absurd (h5' H l J h2) (by rw [h3]; exact h4)
 ·rcases Nat.lt_trichotomy J J' with l | rfl | l
  ·exact absurd (h6' J l) (by rw [h3]; exact h4)
  ·rw [← h3, ← h3']
  ·exact absurd (h6 J' l) (by rw [h3']; exact h4')
 ·exact absurd (h5 H' l J' h2') (by rw [h3']; exact h4')
theorem FirstErr.not {K : Kd} {P : Par} {e : Int} (h : FirstErr K P e) : ¬ AllOk K P := fun ha => by
 obtain ⟨H, J, h1, h2, h3, h4, _⟩ := h
 exact h4 (by rw [← h3]; exact ha H h1 J h2)
variable {K : Kd} {P : Par} {blk0 blk blk' : Rl → Nat} {c0 c c' : Rl → Option Row} {m : Nat → Nat} {w w' : World} {base : Nat}
theorem Made.more {i j nb2 cap : Nat} {nb : Nat → Nat} {R : Nat → Option Row} {F : Nat → Value} {T : Nat → Value} {v : Value} {jn : Nat → Nat} (M : Made K P blk0 c0 blk c (mUp jn i j)) (hi : i < P.nh) (hR : K.lies (P.jb i j) nb (K.init i (P.jb i j)) R)
  (eT : c .tasks = some ⟨184, P.nh, T⟩)
  (hv : v = .slice (some ⟨nb2, 0, none⟩) (j + 1) cap) (hp : Pre F (ifs K P (updT blk i j nb) i (j + 1))) (hc1 : j + 1 ≤ cap) (hc2 : cap ≤ maxLen) :
  Made K P blk0 c0 (upd (updT blk i j nb) (.trow i) nb2)
   (upd (upd (updT c i j R) (.trow i) (some ⟨48, cap * 1, F⟩)) .tasks (some ⟨184, P.nh, fun k => if k = i then v else T k⟩)) (mUp jn i (j + 1)) := by
 refine ⟨by simpa [upd, updT] using M.mem, by simpa [upd, updT] using M.words, by simpa [upd, updT] using M.bm, by simpa [upd, updT] using M.bw, ?_, ⟨fun k => if k = i then v else T k, by simp [upd, updT], fun h hh => ?_⟩, fun h hh k hk => ?_⟩
 ·obtain ⟨f1, f2, f3, f4, f5⟩ := M.free
  exact ⟨by simpa [upd, updT] using f1, by simpa [upd, updT] using f2, by simpa [upd, updT] using f3, by simpa [upd, updT] using f4, fun h => by simpa [upd, updT] using f5 h⟩
 ·obtain ⟨T0, eT0, hT0⟩ := M.tasks
  obtain rfl : T = T0 := by rw [eT] at eT0; cases eT0; rfl
  show Grows _ _ _ _ _ _ _ (if h = i then v else T h)
  by_cases e : h = i
  ·subst e
   rw [mUp_self, if_pos rfl]
   refine .inr ⟨cap, F, by simpa [upd, updT] using hv, by simp [upd, updT], hc1, hc2, ?_⟩
   rw [ifs_congr (blk := updT blk h j nb) (fun k hk => by simp [upd, updT])]
   exact hp
  ·rw [mUp_succ _ _ _ _ e]
   rw [if_neg e]
   have := hT0 h hh
   rw [ifs_congr (blk := blk) (fun k hk => by simp [upd, updT, e])]
   exact this.congr (by simp [upd, updT, e]) (by simp [upd, updT, e])
 ·by_cases e : h = i
  ·subst e
   rw [mUp_self] at hk
   by_cases ek : k = j
   ·subst ek; simpa [upd, updT] using hR
   ·have := M.task h hh k (by rw [mUp_self]; omega)
    simpa [upd, updT, ek] using this
  ·rw [mUp_succ _ _ _ _ e] at hk
   have := M.task h hh k hk
   simpa [upd, updT, e] using this
end
section
variable {K : Kd} {w : World} {base B : Nat} {P : Par} {blk : Rl → Nat} {c : Rl → Option Row} {st : St K}
theorem Good.seesGoing (G : Good K P blk c st) (H : Has w base blk c) : SeesB w w.heap.size (some ⟨blk .going, 0, none⟩) P.nh (st.going P) := by
 obtain ⟨Gf, eG, hG⟩ := G.going
 intro j hj
 refine ⟨blk .going, 0, rfl, H.lt eG, ?_⟩
 have := H.cell eG (i := j) hj
 simp only [hG j hj] at this
 simpa using this
theorem ended_any (G : Good K P blk c st) (H : Has w base blk c) :
  Calls Tryz.prog 83 #[.pointer (some ⟨blk .run, 0, none⟩)] w fun e w' => e = .returned (.bool (decide (cnt (st.going P) P.nh = 0))) ∧ w' = w := by
 have hs := G.seesGoing H
 obtain ⟨sv, RF, eR, R0, R1, R2, R3, R4, GS⟩ := G.run
 have r1 := H.cell eR (i := 1) (by simp)
 simp only [R1] at r1
 have hn := G.hands
 have hcl := cnt_le (st.going P) P.nh
 obtain ⟨b, hb⟩ : ∃ b, decide (cnt (st.going P) P.nh = 0) = b := ⟨_, rfl⟩
 rw [hb]
 have HS := hide hs
 have HB := hide hb
 clear H G GS hs hb
 go_enter Tryz.func83, Tryz.ntmps83
 go_wp2_with (go_at_call 111; refine (count_any HS.out (by omega)).mono ?_; rintro e w' ⟨rfl, hw⟩; obtain rfl := hw.symm)
 go_ret
 refine ⟨?_, rfl⟩
 rw [← HB.out]
 show Ending.returned (Value.bool ((cnt (st.going P) P.nh : Int) == 0)) = _
 congr 2
 rw [Bool.eq_iff_iff]
 simp
theorem pick_any {ao : Option Addr} {cap : Nat} (G : Good K P blk c st) (H : Has w base blk c) (S : SeesI w B ao P.ns P.sched) :
  Calls Tryz.prog 81 #[.pointer (some ⟨blk .run, 0, none⟩), .slice ao P.ns cap] w fun e w' => e = .returned (.int .i64 (st.turn P)) ∧ ∃ m, w' = w.drewN m := by
 have hs := G.seesGoing H
 obtain ⟨sv, RF, eR, R0, R1, R2, R3, R4, GS⟩ := G.run
 have r1 := H.cell eR (i := 1) (by simp)
 have r2 := H.cell eR (i := 2) (by simp)
 have r3 := H.cell eR (i := 3) (by simp)
 simp only [R1] at r1
 simp only [R2] at r2
 simp only [R3] at r3
 obtain ⟨sa, scap, rfl⟩ : ∃ sa scap, sv = .slice sa st.k scap := by
  rcases GS with ⟨h0, rfl, _⟩ | ⟨cap', F, rfl, _⟩
  ·rw [h0]; exact ⟨none, 0, rfl⟩
  ·exact ⟨_, _, rfl⟩
 have hn := G.hands
 have hl := G.lastOk
 have HS := hide hs
 obtain ⟨t, ht⟩ : ∃ t, st.turn P = t := ⟨_, rfl⟩
 rw [ht]
 unfold St.turn at ht
 clear H G GS hs
 by_cases hk : st.k < P.ns
 ·rw [if_pos hk] at ht
  obtain ⟨b, off, rfl, hbl, hcc⟩ := S _ hk
  have hkn : (st.k : Int) < (P.ns : Int) := by omega
  subst ht
  go_enter Tryz.func81, Tryz.ntmps81
  go_wp2_with fail
  go_quiet ((go_at_call 109; exact Calls.quiet_of_same (next_any (show SeesB (w.drewN _) _ _ _ _ from HS.out) (by omega) _)))
  go_wp2_with fail
  go_ret
  exact ⟨rfl, _, rfl⟩
 ·rw [if_neg hk] at ht
  have hkn : ¬ (st.k : Int) < (P.ns : Int) := by omega
  subst ht
  go_enter Tryz.func81, Tryz.ntmps81
  go_wp2_with fail
  go_quiet ((go_at_call 110; exact Calls.quiet_of_same (behind_any (show SeesB (w.drewN _) _ _ _ _ from HS.out) (by omega) _ hl.1 hl.2)))
  go_wp2_with fail
  go_ret
  exact ⟨rfl, _, rfl⟩
end
section
theorem info4 : (Tryz.prog.info? 4).map (fun i => (i.zero.map Value.cells, i.size, i.bytes)) = some (some #[.bool false], 1, 1) := by kernel_rfl
theorem info52 : (Tryz.prog.info? 76).map (fun i => (i.zero.map Value.cells, i.size, i.bytes)) = some (some #[.slice none 0 0], 1, 24) := by kernel_rfl
variable {K : Kd} {w : World} {base B : Nat} {P : Par} {blk0 blk : Rl → Nat} {c0 c : Rl → Option Row} {f : Nat → Int}
def runRow (blk : Rl → Nat) (nh : Nat) (bg ba : Nat) : Nat → Value := fun j => match j with
 | 0 => .slice (some ⟨blk .tasks, 0, none⟩) nh nh
 | 1 => .slice (some ⟨bg, 0, none⟩) nh nh
 | 2 => .int .i64 (-1)
 | 3 => .slice none 0 0
 | _ => .slice (some ⟨ba, 0, none⟩) nh nh
theorem Has.alloc1 {ι : Type} [DecidableEq ι] {w : World} {base : Nat} {blk : ι → Nat} {c : ι → Option Row} (h : Has w base blk c) (hb : base ≤ w.heap.size) (r : ι) (t : TypeId) (n : Nat) (f : Nat → Value) (arr : Array Value) (hrow : (w.alloc (.cells arr t)).rowIs w.heap.size t n f) {nb : Nat} (e : nb = w.heap.size) :
  Has (w.alloc (.cells arr t)) base (upd blk r nb) (upd c r (some ⟨t, n, f⟩)) := by
 subst e
 exact h.add r w.heap.size ⟨t, n, f⟩ hb (Nat.le_refl _) (S := fun _ => False) ((Touch.refl w _).alloc _) (fun _ _ _ _ => id) hrow
theorem upd_comm {ι α : Type} [DecidableEq ι] (g : ι → α) {r r' : ι} (x x' : α) (h : r ≠ r') : upd (upd g r x) r' x' = upd (upd g r' x') r x := by
 funext k
 unfold upd
 by_cases h1 : k = r
 ·subst h1; simp [h]
 ·by_cases h2 : k = r'
  ·subst h2; simp [h1]
  ·simp [h1, h2]
theorem good_st0 (M : Made K P blk0 c0 blk c (mUp P.jn P.nh 0)) (hK : K.Ok) (e0 : c0 .mem = some ⟨135, 1, fun _ => .slice (some ⟨blk0 .words, 0, none⟩) P.n P.n⟩) (e1 : c0 .words = some ⟨140, P.n, fun i => .int .u64 (f i)⟩)
  (hm : P.n ≤ 4096) (hw : ∀ i, i < P.n → 0 ≤ f i ∧ f i ≤ 18446744073709551615) (hn : P.nh ≤ 8) (hj : ∀ h, h < P.nh → P.jn h ≤ 256) (hjw : ∀ h, h < P.nh → ∀ j, j < P.jn h → K.fine (P.jb h j)) {bg ba br : Nat} {Gf : Nat → Value} (hG : ∀ i, i < P.nh → Gf i = .bool (decide (0 < P.jn i))) :
  Good K P (upd (upd (upd blk .going bg) .answers ba) .run br) (upd (upd (upd c .going (some ⟨4, P.nh, Gf⟩)) .answers (some ⟨76, P.nh, fun _ => .slice none 0 0⟩)) .run (some ⟨164, 5, runRow blk P.nh bg ba⟩)) (st0 K P f) := by
 obtain ⟨f1, f2, f3, f4, f5⟩ := M.free
 obtain ⟨T, eT, hT⟩ := M.tasks
 refine ⟨by simpa [upd, M.mem, M.bw] using e0, by simpa [upd, M.words, st0] using e1, hm, hw, ?_, ?_, ?_, ?_, ?_, ?_, fun h hh => Nat.zero_le _, hj, hn, ?_, hjw, ?_⟩
 ·refine ⟨.slice none 0 0, runRow blk P.nh bg ba, by simp [upd], by simp [runRow, upd], by simp [runRow, upd], by simp [runRow, st0], rfl, by simp [runRow, upd], .inl ⟨rfl, rfl, by simpa [upd] using f4⟩⟩
 ·refine ⟨T, by simpa [upd] using eT, fun h hh => ?_⟩
  have := hT h hh
  rw [mUp_all _ _ _ hh] at this
  show (0 < P.jn h → ∃ cap, P.jn h - 0 ≤ cap ∧ T h = .slice (some ⟨_, 0, none⟩) (P.jn h - 0) cap) ∧ (0 = P.jn h → ∃ ao cap, T h = .slice ao 0 cap)
  rcases this with ⟨h0, hv, _⟩ | ⟨cap, F, hv, hc, hle, _⟩
  ·exact ⟨fun h1 => by omega, fun _ => ⟨none, 0, hv⟩⟩
  ·refine ⟨fun _ => ⟨cap, by omega, ?_⟩, fun h0 => ⟨_, cap, by rw [hv, ← h0]⟩⟩
   rw [hv, Nat.sub_zero]
   simp [upd]
 ·exact ⟨Gf, by simp [upd], hG⟩
 ·refine ⟨_, by simp [upd], fun h hh => .inl ⟨rfl, rfl, by simpa [upd] using f5 h⟩⟩
 ·intro h hh hp
  have := hT h hh
  rw [mUp_all _ _ _ hh] at this
  rcases this with ⟨h0, _⟩ | ⟨cap, F, hv, hc, hle, _, hpre⟩
  ·omega
  ·refine ⟨cap * 1, F, by simpa [upd] using hc, by omega, fun j hj => ?_⟩
   rw [hpre j _ (ifs_get hj)]
   simp [upd]
 ·intro h hh j h1 h2
  have := M.task h hh j (by rw [mUp_all _ _ _ hh]; exact h2)
  have e : (if j = (st0 K P f).done h then (st0 K P f).cur h else K.init h (P.jb h j)) = K.init h (P.jb h j) := by
   split
   ·rename_i e; simp only [st0] at e ⊢; rw [e]
   ·rfl
  rw [e]
  simpa [upd] using this
 ·intro h hh hd
  exact hK.init _ _ (hjw h hh 0 hd)
 ·simp only [st0]; omega
theorem newRun_any (H : Has w base blk c) (M : Made K P blk0 c0 blk c (mUp P.jn P.nh 0)) (hb : base ≤ w.heap.size) (hK : K.Ok) (e0 : c0 .mem = some ⟨135, 1, fun _ => .slice (some ⟨blk0 .words, 0, none⟩) P.n P.n⟩) (e1 : c0 .words = some ⟨140, P.n, fun i => .int .u64 (f i)⟩)
  (hm : P.n ≤ 4096) (hw : ∀ i, i < P.n → 0 ≤ f i ∧ f i ≤ 18446744073709551615) (hn : P.nh ≤ 8) (hj : ∀ h, h < P.nh → P.jn h ≤ 256) (hjw : ∀ h, h < P.nh → ∀ j, j < P.jn h → K.fine (P.jb h j)) :
  Calls Tryz.prog 80 #[.slice (some ⟨blk .tasks, 0, none⟩) P.nh P.nh] w fun e w' => ∃ blk' c', e = .returned (.pointer (some ⟨blk' .run, 0, none⟩)) ∧ Has w' base blk' c' ∧ Good K P blk' c' (st0 K P f) ∧ blk' .mem = blk0 .mem ∧ Below base w w' := by
 have hmk1 := run_make_z (P := Tryz.prog) 112 4 _ 1 1 Tryz.underlying112 info4 P.nh (by omega) (by omega)
 have hmk2 := run_make_z (P := Tryz.prog) 33 76 _ 1 24 Tryz.underlying33 info52 P.nh (by omega) (by omega)
 simp only [Nat.mul_one] at hmk1 hmk2
 obtain ⟨T, eT, hT⟩ := M.tasks
 have HH := hide H
 have HM := hide M
 have HT := hide hT
 have HJ := hide hj
 clear H M hT hj
 go_enter Tryz.func80, Tryz.ntmps80
 go_wp2_with fail
 go_cut [3] from 6 (fun s3 wx => ∃ bg ba br, s3 = .pointer (some ⟨br, 0, none⟩) ∧ Has wx base (upd (upd (upd blk .going bg) .answers ba) .run br) (upd (upd (upd c .going (some ⟨4, P.nh, fun _ => .bool false⟩)) .answers (some ⟨76, P.nh, fun _ => .slice none 0 0⟩)) .run (some ⟨164, 5, runRow blk P.nh bg ba⟩)) ∧ Below base w wx)
 case first =>
  go_region
  all_goals go_wp2_with fail
  all_goals go_meet
  ·case rel =>
    refine ⟨w.heap.size, w.heap.size + 1, w.heap.size + 1 + 1, rfl, ?_, ((((Below.refl base w).alloc hb _).alloc (by simp; omega) _).alloc (by simp; omega) _).drew⟩
    refine Has.drew ?_
    refine Has.alloc1 ?_ (by simp; omega) Rl.run 164 5 _ _ ?_ (by simp)
    ·refine Has.alloc1 ?_ (by simp; omega) Rl.answers 76 P.nh _ _ ?_ (by simp)
     ·exact HH.out.alloc1 hb Rl.going 4 P.nh _ _ (World.rowIs_made w _ P.nh 4) rfl
     ·exact World.rowIs_made _ _ P.nh 76
    ·refine rowIs_cells _ 164 _ 5 rfl (fun i hi => ?_)
     match i, hi with
     | 0, _ | 1, _ | 2, _ | 3, _ | 4, _ => rfl
  ·case rel =>
    refine ⟨w.heap.size + 1, w.heap.size, w.heap.size + 1 + 1, rfl, ?_, ((((Below.refl base w).alloc hb _).alloc (by simp; omega) _).alloc (by simp; omega) _).drew⟩
    refine Has.drew ?_
    rw [upd_comm (r := Rl.going) (r' := Rl.answers) blk _ _ (by simp), upd_comm (r := Rl.going) (r' := Rl.answers) c _ _ (by simp)]
    refine Has.alloc1 ?_ (by simp; omega) Rl.run 164 5 _ _ ?_ (by simp)
    ·refine Has.alloc1 ?_ (by simp; omega) Rl.going 4 P.nh _ _ ?_ (by simp)
     ·exact HH.out.alloc1 hb Rl.answers 76 P.nh _ _ (World.rowIs_made w _ P.nh 76) rfl
     ·exact World.rowIs_made _ _ P.nh 4
    ·refine rowIs_cells _ 164 _ 5 rfl (fun i hi => ?_)
     match i, hi with
     | 0, _ | 1, _ | 2, _ | 3, _ | 4, _ => rfl
 case rest =>
  obtain ⟨bg, ba, br, rfl, H1, B1⟩ := hcut
  have HH1 := hide H1
  have BB1 := hide B1
  clear H1 B1
  go_wp2_with fail
  go_loopw [17] (fun i wr => ∃ k Gf, k ≤ P.nh ∧ i = .int .i64 (k : Nat) ∧ Has wr base (upd (upd (upd blk .going bg) .answers ba) .run br) (upd (upd (upd c .going (some ⟨4, P.nh, Gf⟩)) .answers (some ⟨76, P.nh, fun _ => .slice none 0 0⟩)) .run (some ⟨164, 5, runRow blk P.nh bg ba⟩)) ∧ Below base w wr ∧ ∀ i, i < k → Gf i = .bool (decide (0 < P.jn i))) (fun i _ => P.nh - (intOf i).toNat)
  case atStart => exact ⟨0, _, Nat.zero_le _, rfl, HH1.out, BB1.out, fun i hi => by omega⟩
  case round =>
   obtain ⟨k, Gf, hk, rfl, H2, B2, hG⟩ := hrel
   by_cases hlt : k < P.nh
   ·have hkn : (k : Int) < (P.nh : Int) := by omega
    have eR := upd_same (upd (upd c .going (some ⟨4, P.nh, Gf⟩)) .answers (some ⟨76, P.nh, fun _ => .slice none 0 0⟩)) Rl.run (some ⟨164, 5, runRow blk P.nh bg ba⟩)
    have eG : (upd (upd (upd c .going (some ⟨4, P.nh, Gf⟩)) .answers (some ⟨76, P.nh, fun _ => .slice none 0 0⟩)) .run (some ⟨164, 5, runRow blk P.nh bg ba⟩)) .going = some ⟨4, P.nh, Gf⟩ := by simp [upd]
    have eT' : (upd (upd (upd c .going (some ⟨4, P.nh, Gf⟩)) .answers (some ⟨76, P.nh, fun _ => .slice none 0 0⟩)) .run (some ⟨164, 5, runRow blk P.nh bg ba⟩)) .tasks = some ⟨184, P.nh, T⟩ := by simpa [upd] using eT
    have r1 : wr.cell? ⟨br, 1, none⟩ = some (.slice (some ⟨bg, 0, none⟩) P.nh P.nh) := by have := H2.cell eR (i := 1) (by simp); simpa [upd, runRow] using this
    obtain ⟨g0v, g0⟩ : ∃ v, wr.cell? ⟨bg, k, none⟩ = some v := ⟨_, by have := H2.cell eG (i := k) hlt; simpa [upd] using this⟩
    have fg0 : wr.frozen? ⟨bg, k, none⟩ = false := by have := H2.frozen eG k; simpa [upd] using this
    have hTk := HT.out k hlt
    rw [mUp_all _ _ _ hlt] at hTk
    obtain ⟨ta, tcap, hTk'⟩ : ∃ ta tcap, T k = .slice ta (P.jn k) tcap := by
     rcases hTk with ⟨h0, hv, _⟩ | ⟨cap, F, hv, _⟩
     ·exact ⟨none, 0, by rw [hv, h0]⟩
     ·exact ⟨_, _, hv⟩
    have t0 : wr.cell? ⟨blk .tasks, k, none⟩ = some (.slice ta (P.jn k) tcap) := by have := H2.cell eT' (i := k) hlt; simpa [upd, hTk'] using this
    have FIN : Hid (∀ bv, bv = decide (0 < P.jn k) → ∃ Gf', Has (wr.setCell ⟨bg, k, none⟩ (.bool bv)) base (upd (upd (upd blk .going bg) .answers ba) .run br) (upd (upd (upd c .going (some ⟨4, P.nh, Gf'⟩)) .answers (some ⟨76, P.nh, fun _ => .slice none 0 0⟩)) .run (some ⟨164, 5, runRow blk P.nh bg ba⟩)) ∧ Below base w (wr.setCell ⟨bg, k, none⟩ (.bool bv)) ∧ ∀ i, i < k + 1 → Gf' i = .bool (decide (0 < P.jn i))) := by
     intro bv hbv
     have H3 := H2.set .going eG k (.bool bv)
     have eb : (upd (upd (upd blk .going bg) .answers ba) .run br) .going = bg := by simp [upd]
     rw [eb] at H3
     have ec : upd (upd (upd (upd c .going (some ⟨4, P.nh, Gf⟩)) .answers (some ⟨76, P.nh, fun _ => .slice none 0 0⟩)) .run (some ⟨164, 5, runRow blk P.nh bg ba⟩)) .going (some ⟨4, P.nh, fun j => if j = k then .bool bv else Gf j⟩) =
       upd (upd (upd c .going (some ⟨4, P.nh, fun j => if j = k then .bool bv else Gf j⟩)) .answers (some ⟨76, P.nh, fun _ => .slice none 0 0⟩)) .run (some ⟨164, 5, runRow blk P.nh bg ba⟩) := by
      funext r
      cases r <;> simp [upd]
     rw [ec] at H3
     refine ⟨_, H3, B2.setCell (p := ⟨bg, k, none⟩) (by have := H2.new _ _ eG; rwa [eb] at this) _, fun i hi => ?_⟩
     show (if i = k then Value.bool bv else Gf i) = _
     split
     ·rename_i e; rw [e, hbv]
     ·exact hG i (by omega)
    clear H2 B2 hG hTk eR eG eT'
    by_cases hp : 0 < P.jn k
    ·have hp' : (0 : Int) < (P.jn k : Int) := by omega
     go_wp2_with fail
     go_roundw
     case rel =>
      obtain ⟨Gf', x1, x2, x3⟩ := FIN.out true (by simp [hp])
      exact ⟨k + 1, Gf', by omega, by go_num, x1, x2, x3⟩
     case measure => simp [intOf]; omega
    ·have hp' : P.jn k = 0 := by omega
     rw [hp'] at t0
     go_wp2_with fail
     go_roundw
     case rel =>
      obtain ⟨Gf', x1, x2, x3⟩ := FIN.out false (by simp [hp'])
      exact ⟨k + 1, Gf', by omega, by go_num, x1, x2, x3⟩
     case measure => simp [intOf]; omega
   ·obtain rfl : k = P.nh := by omega
    have FG := hide (good_st0 (bg := bg) (ba := ba) (br := br) HM.out hK e0 e1 hm hw hn HJ.out hjw hG)
    have HH2 := hide H2
    have BB2 := hide B2
    have hbm := HM.out.bm
    clear H2 B2 hG
    go_wp2_with fail
    go_ret
    exact ⟨_, _, by simp [upd], HH2.out, FG.out, by simpa [upd] using hbm, BB2.out⟩
end
section
def errVal (er : Int) : Value := .tuple #[.agg #[.slice none 0 0, .slice none 0 0, .bool false], .slice none 0 0, .int .i64 er]
def Told (K : Kd) (P : Par) (st : St K) (base : Nat) (v : Value) (w' : World) : Prop :=
 ∃ blk c g sv, v = .tuple #[.agg #[sv, .slice (some ⟨g, 0, none⟩) P.n P.n, .bool (decide (cnt (st.going P) P.nh = 0))], .slice (some ⟨blk .answers, 0, none⟩) P.nh P.nh, .int .i64 0] ∧
  Has w' base blk c ∧ Good K P blk c st ∧ Grows blk c .steps 69 6 st.k (stepCells st.s st.k) sv ∧ IsRow w' g P.n P.n st.f ∧ base ≤ g ∧ ∀ r x, c r = some x → blk r ≠ g
theorem runSt_step {K : Kd} {P : Par} {st : St K} {m h : Nat} (ht : (runSt P st m).turn P = h) : runSt P st (m + 1) = stepSt P (runSt P st m) h := by
 show (if (runSt P st m).turn P < 0 then _ else _) = _
 rw [if_neg (by omega), ht]; rfl
theorem Grows.isSlice {blk : Rl → Nat} {c : Rl → Option Row} {r : Rl} {e : TypeId} {sz k : Nat} {xs : List Value} {v : Value} (h : Grows blk c r e sz k xs v) : ∃ ao cap, v = .slice ao k cap := by
 rcases h with ⟨rfl, rfl, _⟩ | ⟨cap, F, rfl, _⟩
 ·exact ⟨_, _, rfl⟩
 ·exact ⟨_, _, rfl⟩
theorem cells3 {w : World} {b : Nat} {u0 u1 u2 : Value} (v0 v1 v2 : Value) (z0 : w.cell? ⟨b, 0, none⟩ = some u0) (z1 : w.cell? ⟨b, 1, none⟩ = some u1) (z2 : w.cell? ⟨b, 2, none⟩ = some u2) :
  (((w.setCell ⟨b, 0, none⟩ v0).setCell ⟨b, 1, none⟩ v1).setCell ⟨b, 2, none⟩ v2).cell? ⟨b, 0, none⟩ = some v0 ∧ (((w.setCell ⟨b, 0, none⟩ v0).setCell ⟨b, 1, none⟩ v1).setCell ⟨b, 2, none⟩ v2).cell? ⟨b, 1, none⟩ = some v1 ∧
  (((w.setCell ⟨b, 0, none⟩ v0).setCell ⟨b, 1, none⟩ v1).setCell ⟨b, 2, none⟩ v2).cell? ⟨b, 2, none⟩ = some v2 := by
 simp [World.cell?_setCell_other, World.cell?_setCell_same, *]
theorem touch3 (w : World) (b : Nat) (v0 v1 v2 : Value) : Touch w (((w.setCell ⟨b, 0, none⟩ v0).setCell ⟨b, 1, none⟩ v1).setCell ⟨b, 2, none⟩ v2) (fun k => k = b) :=
 Touch.setCell (S := fun k => k = b) (Touch.setCell (S := fun k => k = b) (Touch.setCell (S := fun k => k = b) (Touch.refl w _) ⟨b, 0, none⟩ (.inl rfl) v0) ⟨b, 1, none⟩ (.inl rfl) v1) ⟨b, 2, none⟩ (.inl rfl) v2
def memBlk (bm bw : Nat) : Rl → Nat := fun r => match r with | .mem => bm | .words => bw | _ => 0
def memRow (n bw : Nat) (f : Nat → Int) : Rl → Option Row := fun r => match r with | .mem => some ⟨135, 1, fun _ => .slice (some ⟨bw, 0, none⟩) n n⟩ | .words => some ⟨140, n, fun i => .int .u64 (f i)⟩ | _ => none
theorem mem_has {w : World} {bm bw n base : Nat} {f : Nat → Int} (h : IsMem w bm bw n f) (h1 : base ≤ bm) (h2 : base ≤ bw) : Has w base (memBlk bm bw) (memRow n bw f) := by
 have hne := h.ne
 refine ⟨fun r r' x x' e e' hb => ?_, fun r x e => ?_, fun r x e => ?_⟩
 ·cases r <;> cases r' <;> simp [memBlk, memRow] at e e' hb ⊢ <;> omega
 ·cases r <;> simp [memRow] at e
  ·subst e; exact h.head
  ·subst e; exact h.row
 ·cases r <;> simp [memRow] at e
  ·exact h1
  ·exact h2
theorem mem_none {n bw : Nat} {f : Nat → Int} (r : Rl) (h1 : r ≠ .mem) (h2 : r ≠ .words) : memRow n bw f r = none := by cases r <;> simp [memRow] at h1 h2 ⊢
theorem Has.drewN {ι : Type} {w : World} {base : Nat} {blk : ι → Nat} {c : ι → Option Row} (h : Has w base blk c) (m : Nat) : Has (w.drewN m) base blk c := ⟨h.inj, fun r x e => h.row r x e, h.new⟩
theorem below_drewN {B : Nat} {a w : World} (h : Below B a w) (m : Nat) : Below B a (w.drewN m) := ⟨h.os, h.tape, h.output, h.size, h.block⟩
theorem Has.base_le {ι : Type} {w : World} {base base' : Nat} {blk : ι → Nat} {c : ι → Option Row} (h : Has w base blk c) (hb : base' ≤ base) : Has w base' blk c :=
 ⟨h.inj, h.row, fun r x e => Nat.le_trans hb (h.new r x e)⟩
end
end Go.Proofs.YtppgbndoijppnaaGreat
