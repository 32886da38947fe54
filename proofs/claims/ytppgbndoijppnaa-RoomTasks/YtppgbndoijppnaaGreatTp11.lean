/-
  Lemmas: RLaid, RTk, RDone, Goods, Steps0, RDone2.
-/
import Derived.Test.YtppgbndoijppnaaGreatTp10
import Derived.Deep.Light
import Derived.Deep.RegionLaw
import Derived.Deep.AppendLies
import Derived.Test.YtppgbndoijppnaaGreatTp05
import Derived.Deep.Cut
namespace Go.Proofs.YtppgbndoijppnaaGreat
set_option maxHeartbeats 8000000
open Go.RowKit
set_option linter.unusedVariables false
set_option linter.unusedSimpArgs false
set_option linter.unnecessarySimpa false
set_option maxRecDepth 20000
section
open Beg
theorem size79 : (Tryz.prog.info? 59).map (·.size) = some 28 := by kernel_rfl
theorem row79 : ∃ d, Tryz.prog.underlying 59 = some d ∧ d.isRow = true := by
 have h : (Tryz.prog.underlying 59).map (fun d => d.isRow) = some true := by kernel_rfl
 exact Option.map_eq_some_iff.1 h
theorem rangeAt_block {w w' : World} {b o : Nat} {cs : List Value} (h : w.rangeAt b o cs) (e : w'.heap[b]? = w.heap[b]?) : w'.rangeAt b o cs := fun j v hv => by
 rw [World.cell?_of_block (a := ⟨b, o + j, none⟩) e]; exact h j v hv
theorem there_block {w w' : World} {b o n : Nat} (h : w.there b o n) (e : w'.heap[b]? = w.heap[b]?) : w'.there b o n := fun j hj => by
 rw [World.cell?_of_block (a := ⟨b, o + j, none⟩) e, World.frozen?_of_block (a := ⟨b, o + j, none⟩) e]; exact h j hj
theorem rowIs.there {w : World} {b n o m : Nat} {t : TypeId} {f : Nat → Value} (h : w.rowIs b t n f) (hm : o + m ≤ n) : w.there b o m := fun j hj =>
 ⟨by rw [h.cell (i := o + j) (by omega)]; rfl, h.frozen _⟩
theorem rowIs.setCells {b n : Nat} {t : TypeId} : ∀ (vs : List Value) (o : Nat) (w : World) (f : Nat → Value), w.rowIs b t n f → (w.setCells b o vs).rowIs b t n (fun i => if o ≤ i ∧ i < o + vs.length then vs[i - o]?.getD default else f i)
 | [], o, w, f, h => h.congr (fun i hi => by simp; intros; omega)
 | v :: r, o, w, f, h => by
  rw [World.setCells]
  refine (rowIs.setCells r (o + 1) _ _ (h.set o v)).congr (fun i hi => ?_)
  by_cases h1 : i = o
  ·subst h1; simp; intro h3; omega
  ·by_cases h2 : o + 1 ≤ i ∧ i < o + 1 + r.length
   ·rw [if_pos h2, if_pos (by simp; omega)]
    have : i - o = (i - (o + 1)) + 1 := by omega
    rw [this]; simp
   ·rw [if_neg h2]; simp only [h1, if_false]; rw [if_neg (by simp only [List.length_cons]; omega)]
section
variable {Q : Program} {fn : Func} {tmps : Array Value} {W : World} {v u : Value} {a a' : Addr} {t t' t'' : Nat} {ty ty' : TypeId}
theorem results_c (hf : fn.results = #[.cell t ty]) (ht : tmps.getD t undef = .pointer (some a)) (hl : (loadVar ty a).run Q W = .ok v W) : (results fn tmps).run Q W = .ok v W := by
 have ha : (asAddr (.pointer (some a))).run Q W = .ok a W := rfl
 unfold results
 rw [hf]
 simp only [Array.mapM_eq_mapM_toList, List.mapM_cons, List.mapM_nil, ht, Sem.run_bind, ha, hl, Result.andThen_ok, Sem.run_pure, bind_assoc, pure_bind, map_eq_pure_bind]
 rfl
theorem results_ct (hf : fn.results = #[.cell t ty, .tmp t']) (ht : tmps.getD t undef = .pointer (some a)) (hl : (loadVar ty a).run Q W = .ok v W) : (results fn tmps).run Q W = .ok (.tuple #[v, tmps.getD t' undef]) W := by
 have ha : (asAddr (.pointer (some a))).run Q W = .ok a W := rfl
 unfold results
 rw [hf]
 simp only [Array.mapM_eq_mapM_toList, List.mapM_cons, List.mapM_nil, ht, Sem.run_bind, ha, hl, Result.andThen_ok, Sem.run_pure, bind_assoc, pure_bind, map_eq_pure_bind]
 rfl
theorem results_cct (hf : fn.results = #[.cell t ty, .cell t' ty', .tmp t'']) (ht : tmps.getD t undef = .pointer (some a)) (hl : (loadVar ty a).run Q W = .ok v W) (ht' : tmps.getD t' undef = .pointer (some a')) (hl' : (loadVar ty' a').run Q W = .ok u W) : (results fn tmps).run Q W = .ok (.tuple #[v, u, tmps.getD t'' undef]) W := by
 have ha : (asAddr (.pointer (some a))).run Q W = .ok a W := rfl
 have ha' : (asAddr (.pointer (some a'))).run Q W = .ok a' W := rfl
 unfold results
 rw [hf]
 simp only [Array.mapM_eq_mapM_toList, List.mapM_cons, List.mapM_nil, ht, ht', Sem.run_bind, ha, hl, ha', hl', Result.andThen_ok, Sem.run_pure, bind_assoc, pure_bind, map_eq_pure_bind]
 rfl
end
variable {K : Kd} {rep : List Value → K.σ → Prop} {P : Par} {blk : Rl → Nat} {c : Rl → Option Row} {st : St K} {un : Nat → Bool} {capw : Nat} {sv : Value} {w : World} {base B : Nat} {aoh aos : Option Addr} {caph caps : Nat} {sh : Shp} {la : Int}
theorem RGood.laid (G : RGood K rep P blk c st un capw sv) {c' : Rl → Option Row} {h : Nat} {cs : List Value} (hh : h < P.nh) (hu : un h = false) (hd : st.done h < P.jn h) (hk : IsTk cs) (hrep : rep cs (st.cur h))
  (hc : ∀ r, r ≠ .tasks → r ≠ .going → r ≠ .run → c' r = c r) {T T' : Nat → Value} (eT : c .tasks = some ⟨59, P.nh * 28, T⟩) (eT' : c' .tasks = some ⟨59, P.nh * 28, T'⟩)
  (hT1 : ∀ i, ¬ (h * 28 ≤ i ∧ i < h * 28 + 28) → T' i = T i) (hT2 : ∀ i u, cs[i]? = some u → T' (h * 28 + i) = u)
  {U U' : Nat → Value} (eU : c .going = some ⟨4, P.nh, U⟩) (eU' : c' .going = some ⟨4, P.nh, U'⟩) (hU' : ∀ i, U' i = if i = h then .bool true else U i)
  {Bf Bf' : Nat → Value} (eB : c .run = some ⟨3, P.nh, Bf⟩) (eB' : c' .run = some ⟨3, P.nh, Bf'⟩) (hB' : ∀ i, Bf' i = if i = h then .int .i64 ((st.done h + 1 : Nat) : Int) else Bf i) :
  RGood K rep P blk c' st (upd un h true) capw sv := by
 refine ⟨?_, G.word, ?_, ?_, ?_, ?_, ?_, ?_, G.doneLe, ?_, ?_, G.jobs, G.hands, G.jwf, G.lastOk⟩
 ·rw [hc _ (by simp) (by simp) (by simp)]; exact G.words
 ·obtain ⟨T0, eT0, hT0⟩ := G.tasks
  obtain rfl : T = T0 := by rw [eT] at eT0; cases eT0; rfl
  refine ⟨T', eT', fun i hi hui => ?_⟩
  by_cases hih : i = h
  ·subst hih; exact ⟨cs, hk, hT2, hrep⟩
  ·rw [upd_other _ _ hih] at hui
   obtain ⟨cs', h1, h2, h3⟩ := hT0 i hi hui
   refine ⟨cs', h1, fun j u hu' => ?_, h3⟩
   have hj : j < 28 := by have := (List.getElem?_eq_some_iff.1 hu').1; have := h1.1; omega
   rw [hT1 _ (by omega)]; exact h2 j u hu'
 ·obtain ⟨U0, eU0, hU0⟩ := G.under
  obtain rfl : U = U0 := by rw [eU] at eU0; cases eU0; rfl
  refine ⟨U', eU', fun i hi => ?_⟩
  rw [hU' i]
  by_cases hih : i = h
  ·subst hih; rw [if_pos rfl, upd_same]
  ·rw [if_neg hih, upd_other _ _ hih]; exact hU0 i hi
 ·obtain ⟨B0, eB0, hB0⟩ := G.begun
  obtain rfl : Bf = B0 := by rw [eB] at eB0; cases eB0; rfl
  refine ⟨Bf', eB', fun i hi => ?_⟩
  rw [hB' i]
  by_cases hih : i = h
  ·subst hih; simp
  ·rw [if_neg hih, upd_other _ _ hih]; exact hB0 i hi
 ·rw [hc _ (by simp) (by simp) (by simp)]; exact G.kept
 ·obtain ⟨A, eA, hA⟩ := G.answers
  exact ⟨A, by rw [hc _ (by simp) (by simp) (by simp)]; exact eA, fun i hi => by have := hA i hi; unfold Grows at this ⊢; rw [hc _ (by simp) (by simp) (by simp)]; exact this⟩
 ·have := G.steps; unfold Grows at this ⊢; rw [hc _ (by simp) (by simp) (by simp)]; exact this
 ·intro i hi hui
  by_cases hih : i = h
  ·subst hih; exact hd
  ·rw [upd_other _ _ hih] at hui; exact G.unLt i hi hui
 ·intro i hi hui
  by_cases hih : i = h
  ·subst hih; rw [upd_same] at hui; cases hui
  ·rw [upd_other _ _ hih] at hui; exact G.fresh i hi hui
end
section
structure Rg where
  r0 : Int
  r1 : Int
  r2 : Int
  r3 : Int
  r4 : Int
  r5 : Int
  r6 : Int
  r7 : Int
def Rg.zero : Rg := ⟨0, 0, 0, 0, 0, 0, 0, 0⟩
def tk (s : Shp) (hand : Int) (j : Jb) (stt : Int) (r : Rg) (an : Ans) : List Value :=
  [.int .i64 s.a, .int .i64 s.b, .int .i64 s.c, .int .i64 s.d, .int .i64 s.e, .int .i64 s.f, .int .i64 hand, .int .i64 j.kind, .int .i64 j.a, .int .i64 j.b, .int .i64 j.c, .int .u64 j.h, .int .i64 stt,
   .int .u64 r.r0, .int .u64 r.r1, .int .u64 r.r2, .int .u64 r.r3, .int .u64 r.r4, .int .u64 r.r5, .int .u64 r.r6, .int .u64 r.r7, .slice none 0 0, .bool an.ok, .int .u64 an.val, .int .u64 0, .int .u64 0, .int .u64 0, .int .u64 0]
theorem tk_is (s : Shp) (hand : Int) (j : Jb) (stt : Int) (r : Rg) (an : Ans) : IsTk (tk s hand j stt r an) := ⟨rfl, by simp [tk, Value.oneCell']⟩
def Shp.zero : Shp := ⟨0, 0, 0, 0, 0, 0⟩
def kept0 : Value := .agg #[.int .u64 0, .int .u64 0, .int .u64 0, .int .u64 0]
def tk0 : List Value := [.int .i64 0, .int .i64 0, .int .i64 0, .int .i64 0, .int .i64 0, .int .i64 0, .int .i64 0, .int .i64 0, .int .i64 0, .int .i64 0, .int .i64 0, .int .u64 0, .int .i64 0, .int .u64 0, .int .u64 0, .int .u64 0, .int .u64 0, .int .u64 0, .int .u64 0, .int .u64 0, .int .u64 0, .slice none 0 0, .bool false, .int .u64 0, .int .u64 0, .int .u64 0, .int .u64 0, .int .u64 0]
end
section
open Beg
variable {K : Kd} {rep : List Value → K.σ → Prop} {P : Par} {blk blk' : Rl → Nat} {c c' : Rl → Option Row} {st : St K} {un : Nat → Bool} {capw : Nat} {sv sv' : Value} {w : World} {base B : Nat} {aoh aos : Option Addr} {caph caps : Nat} {sh : Shp} {la : Int} {h : Nat} {x : Stp} {f' : Nat → Int} {cs : List Value}
def St.with (st : St K) (f' : Nat → Int) : St K := { st with f := f' }
def bare (c : Rl → Option Row) : Rl → Option Row := fun r => match r with | .task _ _ _ => none | r => c r
theorem Has.bare {w : World} {base : Nat} {blk : Rl → Nat} {c : Rl → Option Row} (h : Has w base blk c) : Has w base blk (bare c) := h.weaken (fun r x e => by
 cases r <;> first | exact e | cases e)
theorem RGood.bare (G : RGood K rep P blk c st un capw sv) : RGood K rep P blk (bare c) st un capw sv :=
 ⟨G.words, G.word, G.tasks, G.under, G.begun, G.kept, G.answers, G.steps, G.doneLe, G.unLt, G.fresh, G.jobs, G.hands, G.jwf, G.lastOk⟩
def lrow (l : List Value) : Nat → Value := fun i => l[i]?.getD default
theorem lrow_of {l : List Value} {i : Nat} {v : Value} (h : l[i]? = some v) : lrow l i = v := by simp [lrow, h]
end
section
theorem Grows.congr {blk blk' : Rl → Nat} {c c' : Rl → Option Row} {r : Rl} {e : TypeId} {sz k : Nat} {xs : List Value} {v : Value} (h : Grows blk c r e sz k xs v) (h1 : blk' r = blk r) (h2 : c' r = c r) : Grows blk' c' r e sz k xs v := by
 unfold Grows at h ⊢
 rw [h1, h2]
 exact h
variable {K : Kd} {P : Par} {blk blk' : Rl → Nat} {c c' : Rl → Option Row} {st : St K} {h : Nat} {x : Stp} {f' : Nat → Int}
theorem Good.goesOn (G : Good K P blk c st) (hK : K.Ok) (hh : h < P.nh) (hd : st.done h < P.jn h) (hx : stepOf P.n st.f (K.req (st.cur h)) = x) (hf : wordsOf P.n st.f (K.req (st.cur h)) = f')
  (hend : ¬ K.ends (st.cur h) x = true) (hw : ∀ i, i < P.n → 0 ≤ f' i ∧ f' i ≤ 18446744073709551615)
  (hb : ∀ r, r ≠ .steps → (∀ i, r ≠ .task h (st.done h) i) → blk' r = blk r) (hb0 : blk' (.task h (st.done h) 0) = blk (.task h (st.done h) 0)) (hc : ∀ r, r ≠ .steps → r ≠ .run → r ≠ .words → (∀ i, r ≠ .task h (st.done h) i) → c' r = c r)
  (eW : c' .words = some ⟨140, P.n, fun i => .int .u64 (f' i)⟩) (eK : K.lies (P.jb h (st.done h)) (fun i => blk' (.task h (st.done h) i)) (K.next (st.cur h) x) (fun i => c' (.task h (st.done h) i)))
  {RF : Nat → Value} (eR : c' .run = some ⟨164, 5, RF⟩) (R0 : RF 0 = .slice (some ⟨blk .tasks, 0, none⟩) P.nh P.nh) (R1 : RF 1 = .slice (some ⟨blk .going, 0, none⟩) P.nh P.nh) (R2 : RF 2 = .int .i64 h)
  (R4 : RF 4 = .slice (some ⟨blk .answers, 0, none⟩) P.nh P.nh) (R3 : Grows blk' c' .steps 69 6 (st.k + 1) (stepCells st.s st.k ++ x.cells) (RF 3)) : Good K P blk' c' (stepSt P st h) := by
 have hdone : (stepSt P st h).done = st.done := by simp only [stepSt, hx]; rw [if_neg hend]
 have hans : (stepSt P st h).ans = st.ans := by simp only [stepSt, hx]; rw [if_neg hend]
 have hcur : (stepSt P st h).cur = upd st.cur h (K.next (st.cur h) x) := by simp only [stepSt, hx]; rw [if_neg hend]
 have hgo : (stepSt P st h).going P = st.going P := by funext i; simp only [St.going, hdone]
 refine ⟨?_, ?_, G.most, ?_, ?_, ?_, ?_, ?_, ?_, ?_, ?_, G.jobs, G.hands, ?_, G.jwf, ?_⟩
 ·rw [hc _ (by simp) (by simp) (by simp) (by simp), hb _ (by simp) (by simp)]; exact G.mem
 ·rw [eW]; simp only [stepSt, hf]
 ·simp only [stepSt, hf]; exact hw
 ·refine ⟨RF 3, RF, eR, by rw [hb _ (by simp) (by simp)]; exact R0, by rw [hb _ (by simp) (by simp)]; exact R1, R2, rfl, by rw [hb _ (by simp) (by simp)]; exact R4, ?_⟩
  have : stepCells (stepSt P st h).s (stepSt P st h).k = stepCells st.s st.k ++ x.cells := by
   simp only [stepSt, hx, stepCells, upd_same]
   rw [stepCells_congr (b := st.s) (fun j hj => upd_other _ _ (by omega))]
  rw [this]; exact R3
 ·obtain ⟨T, eT, hT⟩ := G.tasks
  refine ⟨T, by rw [hc _ (by simp) (by simp) (by simp) (by simp)]; exact eT, ?_⟩
  rw [hdone]
  intro i hi
  rw [hb _ (by simp) (by simp)]
  exact hT i hi
 ·obtain ⟨Gf, eG, hG⟩ := G.going
  exact ⟨Gf, by rw [hc _ (by simp) (by simp) (by simp) (by simp)]; exact eG, by rw [hgo]; exact hG⟩
 ·obtain ⟨A, eA, hA⟩ := G.answers
  refine ⟨A, by rw [hc _ (by simp) (by simp) (by simp) (by simp)]; exact eA, ?_⟩
  rw [hdone, hans]
  exact fun i hi => (hA i hi).congr (hb _ (by simp) (by simp)) (hc _ (by simp) (by simp) (by simp) (by simp))
 ·intro i hi hj
  obtain ⟨cap, F, e1, e2, e3⟩ := G.trow i hi hj
  exact ⟨cap, F, by rw [hc _ (by simp) (by simp) (by simp) (by simp)]; exact e1, e2, fun j hj => by
   have e : blk' (.task i j 0) = blk (.task i j 0) := by
    by_cases e : i = h ∧ j = st.done h
    ·obtain ⟨rfl, rfl⟩ := e; exact hb0
    ·exact hb _ (by simp) (fun q hq => e (by cases hq; exact ⟨rfl, rfl⟩))
   rw [e]; exact e3 j hj⟩
 ·intro i hi j h1 h2
  rw [hdone] at h1 ⊢
  rw [hcur]
  by_cases hih : i = h
  ·subst hih
   by_cases hj : j = st.done i
   ·subst hj; rw [if_pos rfl, upd_same]; exact eK
   ·have eb : (fun i' => blk' (.task i j i')) = fun i' => blk (.task i j i') := funext fun i' => hb _ (by simp) (by simp [hj])
    have ec : (fun i' => c' (.task i j i')) = fun i' => c (.task i j i') := funext fun i' => hc _ (by simp) (by simp) (by simp) (by simp [hj])
    rw [if_neg hj, ec, eb]
    have := G.task i hi j h1 h2
    rwa [if_neg hj] at this
  ·have eb : (fun i' => blk' (.task i j i')) = fun i' => blk (.task i j i') := funext fun i' => hb _ (by simp) (by simp [hih])
   have ec : (fun i' => c' (.task i j i')) = fun i' => c (.task i j i') := funext fun i' => hc _ (by simp) (by simp) (by simp) (by simp [hih])
   rw [upd_other _ _ hih, ec, eb]
   exact G.task i hi j h1 h2
 ·rw [hdone]; exact G.doneLe
 ·rw [hdone, hcur]
  intro i hi hl
  by_cases hih : i = h
  ·subst hih; rw [upd_same]; have hend' := hend; rw [← hx] at hend' ⊢; exact hK.next _ _ _ _ G.word (G.wf i hi hl) hend'
  ·rw [upd_other _ _ hih]; exact G.wf i hi hl
 ·simp only [stepSt]; omega
theorem Good.ended (G : Good K P blk c st) (hK : K.Ok) (hh : h < P.nh) (hd : st.done h < P.jn h) (hx : stepOf P.n st.f (K.req (st.cur h)) = x) (hf : wordsOf P.n st.f (K.req (st.cur h)) = f')
  (hend : K.ends (st.cur h) x = true) (hw : ∀ i, i < P.n → 0 ≤ f' i ∧ f' i ≤ 18446744073709551615)
  (hb : ∀ r, r ≠ .steps → r ≠ .arow h → (∀ i, r ≠ .task h (st.done h) i) → blk' r = blk r) (hb0 : blk' (.task h (st.done h) 0) = blk (.task h (st.done h) 0))
  (hc : ∀ r, r ≠ .steps → r ≠ .run → r ≠ .words → (∀ i, r ≠ .task h (st.done h) i) → r ≠ .arow h → r ≠ .answers → r ≠ .tasks → r ≠ .going → c' r = c r)
  (eW : c' .words = some ⟨140, P.n, fun i => .int .u64 (f' i)⟩)
  {RF : Nat → Value} (eR : c' .run = some ⟨164, 5, RF⟩) (R0 : RF 0 = .slice (some ⟨blk .tasks, 0, none⟩) P.nh P.nh) (R1 : RF 1 = .slice (some ⟨blk .going, 0, none⟩) P.nh P.nh) (R2 : RF 2 = .int .i64 h)
  (R4 : RF 4 = .slice (some ⟨blk .answers, 0, none⟩) P.nh P.nh) (R3 : Grows blk' c' .steps 69 6 (st.k + 1) (stepCells st.s st.k ++ x.cells) (RF 3))
  {T T' : Nat → Value} (eT : c .tasks = some ⟨184, P.nh, T⟩) (eT' : c' .tasks = some ⟨184, P.nh, T'⟩) (hT' : ∀ i, i ≠ h → T' i = T i) {ao : Option Addr} {tc : Nat} (hTh : T' h = .slice ao (P.jn h - (st.done h + 1)) tc)
  (hao : st.done h + 1 < P.jn h → ao = some ⟨blk (.trow h), st.done h + 1, none⟩ ∧ P.jn h - (st.done h + 1) ≤ tc)
  {Gf Gf' : Nat → Value} (eG : c .going = some ⟨4, P.nh, Gf⟩) (eG' : c' .going = some ⟨4, P.nh, Gf'⟩) (hG' : ∀ i, i ≠ h → Gf' i = Gf i) (hGh : Gf' h = .bool (decide (st.done h + 1 < P.jn h)))
  {A A' : Nat → Value} (eA : c .answers = some ⟨76, P.nh, A⟩) (eA' : c' .answers = some ⟨76, P.nh, A'⟩) (hA' : ∀ i, i ≠ h → A' i = A i)
  (hAh : Grows blk' c' (.arow h) 56 2 (st.done h + 1) (ansCells (st.ans h) (st.done h) ++ (K.tell (K.next (st.cur h) x)).cells) (A' h)) : Good K P blk' c' (stepSt P st h) := by
 have hdone : (stepSt P st h).done = upd st.done h (st.done h + 1) := by simp only [stepSt, hx]; rw [if_pos hend]
 have hans : (stepSt P st h).ans = upd st.ans h (upd (st.ans h) (st.done h) (K.tell (K.next (st.cur h) x))) := by simp only [stepSt, hx]; rw [if_pos hend]
 have hcur : (stepSt P st h).cur = upd st.cur h (K.init h (P.jb h (st.done h + 1))) := by simp only [stepSt, hx]; rw [if_pos hend]
 have d1 : ∀ i, i ≠ h → (stepSt P st h).done i = st.done i := fun i hi => by rw [hdone, upd_other _ _ hi]
 have d2 : (stepSt P st h).done h = st.done h + 1 := by rw [hdone, upd_same]
 refine ⟨?_, ?_, G.most, ?_, ?_, ?_, ?_, ?_, ?_, ?_, ?_, G.jobs, G.hands, ?_, G.jwf, ?_⟩
 ·rw [hc _ (by simp) (by simp) (by simp) (by simp) (by simp) (by simp) (by simp) (by simp), hb _ (by simp) (by simp) (by simp)]; exact G.mem
 ·rw [eW]; simp only [stepSt, hf]
 ·simp only [stepSt, hf]; exact hw
 ·refine ⟨RF 3, RF, eR, by rw [hb _ (by simp) (by simp) (by simp)]; exact R0, by rw [hb _ (by simp) (by simp) (by simp)]; exact R1, R2, rfl, by rw [hb _ (by simp) (by simp) (by simp)]; exact R4, ?_⟩
  have : stepCells (stepSt P st h).s (stepSt P st h).k = stepCells st.s st.k ++ x.cells := by
   simp only [stepSt, hx, stepCells, upd_same]
   rw [stepCells_congr (b := st.s) (fun j hj => upd_other _ _ (by omega))]
  rw [this]; exact R3
 ·obtain ⟨T0, eT0, hT0⟩ := G.tasks
  obtain rfl : T = T0 := by rw [eT] at eT0; cases eT0; rfl
  refine ⟨T', eT', fun i hi => ?_⟩
  rw [hb _ (by simp) (by simp) (by simp)]
  by_cases hih : i = h
  ·subst hih
   rw [d2, hTh]
   refine ⟨fun hl => ?_, fun he => ⟨ao, tc, by rw [he, Nat.sub_self]⟩⟩
   obtain ⟨e, hle⟩ := hao hl
   exact ⟨tc, hle, by rw [e]⟩
  ·rw [d1 i hih, hT' i hih]
   exact hT0 i hi
 ·obtain ⟨G0, eG0, hG0⟩ := G.going
  obtain rfl : Gf = G0 := by rw [eG] at eG0; cases eG0; rfl
  refine ⟨Gf', eG', fun i hi => ?_⟩
  by_cases hih : i = h
  ·subst hih
   rw [hGh]; simp only [St.going, d2]
  ·rw [hG' i hih, hG0 i hi]; simp only [St.going, d1 i hih]
 ·obtain ⟨A0, eA0, hA0⟩ := G.answers
  obtain rfl : A = A0 := by rw [eA] at eA0; cases eA0; rfl
  refine ⟨A', eA', fun i hi => ?_⟩
  by_cases hih : i = h
  ·subst hih
   rw [d2]
   have : ansCells ((stepSt P st i).ans i) (st.done i + 1) = ansCells (st.ans i) (st.done i) ++ (K.tell (K.next (st.cur i) x)).cells := by
    rw [hans, upd_same]
    simp only [ansCells, upd_same]
    rw [ansCells_congr (b := st.ans i) (fun j hj => upd_other _ _ (by omega))]
   rw [this]; exact hAh
  ·rw [d1 i hih, hA' i hih, hans, upd_other _ _ hih]
   exact (hA0 i hi).congr (hb _ (by simp) (by simp [hih]) (by simp)) (hc _ (by simp) (by simp) (by simp) (by simp) (by simp [hih]) (by simp) (by simp) (by simp))
 ·intro i hi hj
  obtain ⟨cap, F, e1, e2, e3⟩ := G.trow i hi hj
  exact ⟨cap, F, by rw [hc _ (by simp) (by simp) (by simp) (by simp) (by simp) (by simp) (by simp) (by simp)]; exact e1, e2, fun j hj => by
   have e : blk' (.task i j 0) = blk (.task i j 0) := by
    by_cases e : i = h ∧ j = st.done h
    ·obtain ⟨rfl, rfl⟩ := e; exact hb0
    ·exact hb _ (by simp) (by simp) (fun q hq => e (by cases hq; exact ⟨rfl, rfl⟩))
   rw [e]; exact e3 j hj⟩
 ·intro i hi j h1 h2
  rw [hcur]
  by_cases hih : i = h
  ·subst hih
   rw [d2] at h1 ⊢
   have hne : ∀ i', Rl.task i j i' ≠ .task i (st.done i) 0 ∧ ∀ q, Rl.task i j i' ≠ .task i (st.done i) q := fun i' => ⟨by simp; omega, fun q => by simp; omega⟩
   have eb : (fun i' => blk' (.task i j i')) = fun i' => blk (.task i j i') := funext fun i' => hb _ (by simp) (by simp) (hne i').2
   have ec : (fun i' => c' (.task i j i')) = fun i' => c (.task i j i') := funext fun i' => hc _ (by simp) (by simp) (by simp) (hne i').2 (by simp) (by simp) (by simp) (by simp)
   rw [upd_same, ec, eb]
   have := G.task i hi j (by omega) h2
   rw [if_neg (by omega)] at this
   split
   ·rename_i e; rw [← e]; exact this
   ·exact this
  ·rw [d1 i hih] at h1 ⊢
   have eb : (fun i' => blk' (.task i j i')) = fun i' => blk (.task i j i') := funext fun i' => hb _ (by simp) (by simp) (by simp [hih])
   have ec : (fun i' => c' (.task i j i')) = fun i' => c (.task i j i') := funext fun i' => hc _ (by simp) (by simp) (by simp) (by simp [hih]) (by simp) (by simp) (by simp) (by simp)
   rw [upd_other _ _ hih, ec, eb]
   exact G.task i hi j h1 h2
 ·intro i hi
  by_cases hih : i = h
  ·subst hih; rw [d2]; omega
  ·rw [d1 i hih]; exact G.doneLe i hi
 ·rw [hcur]
  intro i hi hl
  by_cases hih : i = h
  ·subst hih; rw [d2] at hl ⊢; rw [upd_same]; exact hK.init _ _ (G.jwf i hi _ hl)
  ·rw [upd_other _ _ hih]; rw [d1 i hih] at hl ⊢; exact G.wf i hi hl
 ·simp only [stepSt]; omega
end
section
set_option linter.unusedSectionVars false
theorem Good.isMem {K : Kd} {P : Par} {blk : Rl → Nat} {c : Rl → Option Row} {st : St K} {w : World} {base : Nat} (G : Good K P blk c st) (H : Has w base blk c) : IsMem w (blk .mem) (blk .words) P.n st.f :=
 ⟨H.row _ _ G.mem, H.row _ _ G.words, G.most, G.word⟩
theorem Grows.upd {blk : Rl → Nat} {c : Rl → Option Row} {r r' : Rl} {e : TypeId} {sz k : Nat} {xs : List Value} {v : Value} (h : Grows blk c r e sz k xs v) (hne : r ≠ r') (x : Option Row) (nb : Nat) : Grows (upd blk r' nb) (upd c r' x) r e sz k xs v := by
 unfold Grows at h ⊢
 rw [upd_other _ _ hne, upd_other _ _ hne]
 exact h
theorem Grows.upd' {blk : Rl → Nat} {c : Rl → Option Row} {r r' : Rl} {e : TypeId} {sz k : Nat} {xs : List Value} {v : Value} (h : Grows blk c r e sz k xs v) (hne : r ≠ r') (x : Option Row) : Grows blk (YtppgbndoijppnaaGreat.upd c r' x) r e sz k xs v := by
 unfold Grows at h ⊢
 rw [upd_other _ _ hne]
 exact h
theorem info48z : (Tryz.prog.info? 69).map (fun i => (i.zero, i.size, i.bytes)) = some (some (.agg #[.int .i64 0, .int .i64 0, .int .i64 0, .int .u64 0, .int .u64 0, .bool false]), 6, 48) := by kernel_rfl
theorem info54z : (Tryz.prog.info? 56).map (fun i => (i.zero, i.size, i.bytes)) = some (some (.agg #[.bool false, .int .u64 0]), 2, 16) := by kernel_rfl
theorem cells_new (w : World) (vs : Array Value) (t : TypeId) : ∀ j u, vs.toList[j]? = some u → (w.alloc (.cells vs t)).cell? (Addr.add ⟨w.heap.size, 0, none⟩ j) = some u := by
 intro j u hj
 have hj' : vs[j]? = some u := by simpa using hj
 simp only [Addr.add, Nat.zero_add]
 by_cases h0 : j = 0
 ·subst h0; simp [hj']
 ·simp [h0, hj']
theorem step_one (x : Stp) : ∀ u ∈ x.cells, u.oneCell' = true := by
 intro u hu
 simp [Stp.cells] at hu
 rcases hu with rfl | rfl | rfl | rfl | rfl | rfl <;> rfl
theorem ans_one (x : Ans) : ∀ u ∈ x.cells, u.oneCell' = true := by
 intro u hu
 simp [Ans.cells] at hu
 rcases hu with rfl | rfl <;> rfl
theorem below_of_grown_none {a b : World} (h : a.grownBy b none) (B : Nat) (hB : B ≤ a.heap.size) : Below B a b := ⟨h.os, h.tape, h.output, h.size, fun k hk => h.block k (by omega) (by simp)⟩
end
section
open Beg
variable {K : Kd} {rep : List Value → K.σ → Prop} {P : Par} {blk blk' : Rl → Nat} {c c' : Rl → Option Row} {st : St K} {un : Nat → Bool} {capw : Nat} {sv sv' : Value} {w : World} {base B : Nat} {aoh aos : Option Addr} {caph caps : Nat} {sh : Shp} {la : Int} {h : Nat} {x : Stp} {f' : Nat → Int} {cs : List Value}
def Own (blk : Rl → Nat) (c : Rl → Option Row) : Nat → Prop := fun k => ∃ r y, c r = some y ∧ blk r = k
def zRun : List Value := [.int .i64 0, .int .i64 0, .int .i64 0, .int .i64 0, .int .i64 0, .int .i64 0, .slice none 0 0, .slice none 0 0, .slice none 0 0, .slice none 0 0, .slice none 0 0, .slice none 0 0, .slice none 0 0, .slice none 0 0, .int .i64 0]
theorem Has.setCells {w : World} {base : Nat} {blk : Rl → Nat} {c : Rl → Option Row} {r : Rl} {t : TypeId} {n : Nat} {F : Nat → Value} (H : Has w base blk c) (e : c r = some ⟨t, n, F⟩) (o : Nat) (vs : List Value) :
  Has (w.setCells (blk r) o vs) base blk (upd c r (some ⟨t, n, fun i => if o ≤ i ∧ i < o + vs.length then vs[i - o]?.getD default else F i⟩)) :=
 H.write r _ e (touch_setCells _ _ _ _) (rowIs.setCells vs o w F (H.row _ _ e))
end
end Go.Proofs.YtppgbndoijppnaaGreat
