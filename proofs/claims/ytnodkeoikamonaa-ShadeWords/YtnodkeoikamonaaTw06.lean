/-
  Lemmas: RBegin, Goods, Steps0, Hands, Made, Run0.
-/
import Derived.Test.YtnodkeoikamonaaTw05
import Derived.Deep.MidRow
import Derived.Deep.Cut
import Derived.Deep.RegionLaw
import Derived.Deep.QuietTactic
import Derived.BigQuiet
/-
  The reference's run ahead of its first step: middenref03.Begin, for every list of words and of hands: five rows made and one copied, in whatever order.
-/
namespace Go.Proofs.Ytnodkeoikamonaa
open Go.RowKit
set_option linter.unusedVariables false
set_option linter.unusedSimpArgs false
set_option maxRecDepth 20000
structure Shp where
  a : Int
  b : Int
  c : Int
  d : Int
  e : Int
  f : Int
def Shp.val (s : Shp) : Value := .agg #[.int .i64 s.a, .int .i64 s.b, .int .i64 s.c, .int .i64 s.d, .int .i64 s.e, .int .i64 s.f]
def runCells (s : Shp) (vw vh vt vu vb vk vs va : Value) (la : Int) : List Value :=
  [.int .i64 s.a, .int .i64 s.b, .int .i64 s.c, .int .i64 s.d, .int .i64 s.e, .int .i64 s.f, vw, vh, vt, vu, vb, vk, vs, va, .int .i64 la]
def runVal (s : Shp) (vw vh vt vu vb vk vs va : Value) (la : Int) : Value := .agg (runCells s vw vh vt vu vb vk vs va la).toArray
section
variable {P : Program} {o : Oper} {a : Act} {w : World} {K : Act → World → Prop} {Q : Exit → Act → World → Prop}
theorem wp_value {v : Value} {w' : World} (h : (execOp a.eval o).run P w = .ok (.value v) w') (hk : K (a.put o.dst v) w') : o.wp P a w K Q := by
  unfold Oper.wp; rw [h]; exact hk
end
theorem put_eval {a : Act} {d : Nat} {v : Value} (h : d < a.tmps.size) : (a.put (some d) v).eval (.tmp d) = v := by
  simp [Act.put, Act.eval, h]
theorem put_other {a : Act} {d k : Nat} {v : Value} (h : k ≠ d) : (a.put (some d) v).eval (.tmp k) = a.eval (.tmp k) :=
  Act.eval_put (fun d' hd he => by cases hd; cases he; exact h rfl)
theorem put_size {a : Act} {d : Option Nat} {v : Value} : (a.put d v).tmps.size = a.tmps.size := by
  cases d <;> simp [Act.put]
theorem put_defs {a : Act} {d : Option Nat} {v : Value} : (a.put d v).defers = a.defers := by
  cases d <;> rfl
theorem World.rowIs_alloc' (w : World) (vs : Array Value) (t : TypeId) (n : Nat) (hn : vs.size = n) {f : Nat → Value} (hc : ∀ i, i < n → vs[i]? = some (f i)) : (w.alloc (.cells vs t)).rowIs w.heap.size t n f := by
  subst hn
  exact World.rowIs_alloc w vs t f hc
theorem touch_setCells (b : Nat) : ∀ (vs : List Value) (o : Nat) (w : World), Touch w (w.setCells b o vs) (fun k => k = b)
  | [], _, w => Touch.refl w _
  | v :: r, o, w => by
    rw [World.setCells]
    exact (Touch.setCell (S := fun k => k = b) (Touch.refl w _) ⟨b, o, none⟩ (.inl rfl) v).trans (touch_setCells b r (o + 1) _)
/-! Begin's region. -/
namespace Beg
def mv (vw vh vn vs : Value) : Nat → Option (Nat × Value)
  | 0 => some (10, vs)
  | 2 => some (12, vw)
  | 4 => some (14, vh)
  | 5 => some (15, vn)
  | 7 => some (17, vn)
  | 9 => some (19, vn)
  | 11 => some (21, vn)
  | 13 => some (23, vn)
  | _ => none
def zTask : Array Value := #[.int .i64 0, .int .i64 0, .int .i64 0, .int .i64 0, .int .i64 0, .int .i64 0, .int .i64 0, .int .i64 0, .int .i64 0, .int .i64 0, .int .i64 0, .int .u64 0, .int .i64 0, .int .u64 0, .int .u64 0, .int .u64 0, .int .u64 0, .int .u64 0, .int .u64 0, .int .u64 0, .int .u64 0, .slice none 0 0, .bool false, .int .u64 0, .int .u64 0, .int .u64 0, .int .u64 0, .int .u64 0]
def zKept : Array Value := #[.int .u64 0, .int .u64 0, .int .u64 0, .int .u64 0]
def sl (b n : Nat) : Value := .slice (some ⟨b, 0, none⟩) n n
def cellsAt (sh : Shp) (vw vh : Value) (blk : Rl → Nat) (nh : Nat) : List Value := runCells sh vw vh (sl (blk .tasks) nh) (sl (blk .going) nh) (sl (blk .run) nh) (sl (blk .mem) nh) (.slice none 0 0) (sl (blk .answers) nh) (-1)
structure Wd (N : Nat) (L : Nat → Bool) (a : Act) (blk : Rl → Nat) (c : Rl → Option Row) (n : Nat) (f : Nat → Int) : Prop where
  none : L 1 = false → c .words = .none ∧ L 3 = false
  lit : L 1 = true → L 3 = false → a.eval (.tmp 11) = .slice (some ⟨blk .words, 0, .none⟩) 0 0 ∧ N ≤ blk .words ∧ ∃ F, c .words = some ⟨30, 0, F⟩
  row : L 3 = true → ∃ cap F, a.eval (.tmp 13) = .slice (some ⟨blk .words, 0, .none⟩) n cap ∧ c .words = some ⟨30, cap, F⟩ ∧ n ≤ cap ∧ cap ≤ maxLen ∧ ∀ i, i < n → F i = .int .u64 (f i)
variable {w0 w : World} {B : Nat} {sh : Shp} {vw vh : Value} {n nh : Nat} {f : Nat → Int} {L : Nat → Bool} {a : Act} {blk : Rl → Nat} {c : Rl → Option Row}
end Beg
end Go.Proofs.Ytnodkeoikamonaa
/-
  The run in memory behind a step, from what the step left in each role's block.
-/
namespace Go.Proofs.Ytnodkeoikamonaa
open Go.RowKit
set_option linter.unusedVariables false
set_option linter.unusedSimpArgs false
theorem Grows.congr {blk blk' : Rl → Nat} {c c' : Rl → Option Row} {r : Rl} {e : TypeId} {sz k : Nat} {xs : List Value} {v : Value} (h : Grows blk c r e sz k xs v) (h1 : blk' r = blk r) (h2 : c' r = c r) : Grows blk' c' r e sz k xs v := by
  unfold Grows at h ⊢
  rw [h1, h2]
  exact h
variable {K : Kd} {P : Par} {blk blk' : Rl → Nat} {c c' : Rl → Option Row} {st : St K} {h : Nat} {x : Stp} {f' : Nat → Int}
theorem Good.goesOn (G : Good K P blk c st) (hK : K.Ok) (hh : h < P.nh) (hd : st.done h < P.jn h) (hx : stepOf P.n st.f (K.req (st.cur h)) = x) (hf : wordsOf P.n st.f (K.req (st.cur h)) = f')
    (hend : ¬ K.ends (st.cur h) x = true) (hw : ∀ i, i < P.n → 0 ≤ f' i ∧ f' i ≤ 18446744073709551615)
    (hb : ∀ r, r ≠ .steps → blk' r = blk r) (hc : ∀ r, r ≠ .steps → r ≠ .run → r ≠ .words → r ≠ .task h (st.done h) → c' r = c r)
    (eW : c' .words = some ⟨164, P.n, fun i => .int .u64 (f' i)⟩) (eK : c' (.task h (st.done h)) = some ⟨K.t (P.jb h (st.done h)), K.n (P.jb h (st.done h)), K.cell (blk (.task h (st.done h))) (K.next (st.cur h) x)⟩)
    {RF : Nat → Value} (eR : c' .run = some ⟨132, 5, RF⟩) (R0 : RF 0 = .slice (some ⟨blk .tasks, 0, none⟩) P.nh P.nh) (R1 : RF 1 = .slice (some ⟨blk .going, 0, none⟩) P.nh P.nh) (R2 : RF 2 = .int .i64 h)
    (R4 : RF 4 = .slice (some ⟨blk .answers, 0, none⟩) P.nh P.nh) (R3 : Grows blk' c' .steps 63 6 (st.k + 1) (stepCells st.s st.k ++ x.cells) (RF 3)) : Good K P blk' c' (stepSt P st h) := by
  have hdone : (stepSt P st h).done = st.done := by simp only [stepSt, hx]; rw [if_neg hend]
  have hans : (stepSt P st h).ans = st.ans := by simp only [stepSt, hx]; rw [if_neg hend]
  have hcur : (stepSt P st h).cur = upd st.cur h (K.next (st.cur h) x) := by simp only [stepSt, hx]; rw [if_neg hend]
  have hgo : (stepSt P st h).going P = st.going P := by funext i; simp only [St.going, hdone]
  refine ⟨?_, ?_, G.most, ?_, ?_, ?_, ?_, ?_, ?_, ?_, ?_, G.jobs, G.hands, ?_, G.jwf, ?_⟩
  · rw [hc _ (by simp) (by simp) (by simp) (by simp), hb _ (by simp)]; exact G.mem
  · rw [eW]; simp only [stepSt, hf]
  · simp only [stepSt, hf]; exact hw
  · refine ⟨RF 3, RF, eR, by rw [hb _ (by simp)]; exact R0, by rw [hb _ (by simp)]; exact R1, R2, rfl, by rw [hb _ (by simp)]; exact R4, ?_⟩
    have : stepCells (stepSt P st h).s (stepSt P st h).k = stepCells st.s st.k ++ x.cells := by
      simp only [stepSt, hx, stepCells, upd_same]
      rw [stepCells_congr (b := st.s) (fun j hj => upd_other _ _ (by omega))]
    rw [this]; exact R3
  · obtain ⟨T, eT, hT⟩ := G.tasks
    refine ⟨T, by rw [hc _ (by simp) (by simp) (by simp) (by simp)]; exact eT, ?_⟩
    rw [hdone]
    intro i hi
    rw [hb _ (by simp)]
    exact hT i hi
  · obtain ⟨Gf, eG, hG⟩ := G.going
    exact ⟨Gf, by rw [hc _ (by simp) (by simp) (by simp) (by simp)]; exact eG, by rw [hgo]; exact hG⟩
  · obtain ⟨A, eA, hA⟩ := G.answers
    refine ⟨A, by rw [hc _ (by simp) (by simp) (by simp) (by simp)]; exact eA, ?_⟩
    rw [hdone, hans]
    exact fun i hi => (hA i hi).congr (hb _ (by simp)) (hc _ (by simp) (by simp) (by simp) (by simp))
  · intro i hi hj
    obtain ⟨cap, F, e1, e2, e3⟩ := G.trow i hi hj
    exact ⟨cap, F, by rw [hc _ (by simp) (by simp) (by simp) (by simp)]; exact e1, e2, fun j hj => by rw [hb _ (by simp)]; exact e3 j hj⟩
  · intro i hi j h1 h2
    rw [hdone] at h1 ⊢
    rw [hcur]
    by_cases hih : i = h
    · subst hih
      by_cases hj : j = st.done i
      · subst hj; rw [if_pos rfl, upd_same, hb _ (by simp)]; exact eK
      · rw [if_neg hj, hc _ (by simp) (by simp) (by simp) (by simp [hj]), hb _ (by simp)]
        have := G.task i hi j h1 h2
        rwa [if_neg hj] at this
    · rw [upd_other _ _ hih, hc _ (by simp) (by simp) (by simp) (by simp [hih]), hb _ (by simp)]
      exact G.task i hi j h1 h2
  · rw [hdone]; exact G.doneLe
  · rw [hdone, hcur]
    intro i hi hl
    by_cases hih : i = h
    · subst hih; rw [upd_same]; have hend' := hend; rw [← hx] at hend' ⊢; exact hK.next _ _ _ _ G.word (G.wf i hi hl) hend'
    · rw [upd_other _ _ hih]; exact G.wf i hi hl
  · simp only [stepSt]; omega
theorem Good.ended (G : Good K P blk c st) (hK : K.Ok) (hh : h < P.nh) (hd : st.done h < P.jn h) (hx : stepOf P.n st.f (K.req (st.cur h)) = x) (hf : wordsOf P.n st.f (K.req (st.cur h)) = f')
    (hend : K.ends (st.cur h) x = true) (hw : ∀ i, i < P.n → 0 ≤ f' i ∧ f' i ≤ 18446744073709551615)
    (hb : ∀ r, r ≠ .steps → r ≠ .arow h → blk' r = blk r)
    (hc : ∀ r, r ≠ .steps → r ≠ .run → r ≠ .words → r ≠ .task h (st.done h) → r ≠ .arow h → r ≠ .answers → r ≠ .tasks → r ≠ .going → c' r = c r)
    (eW : c' .words = some ⟨164, P.n, fun i => .int .u64 (f' i)⟩)
    {RF : Nat → Value} (eR : c' .run = some ⟨132, 5, RF⟩) (R0 : RF 0 = .slice (some ⟨blk .tasks, 0, none⟩) P.nh P.nh) (R1 : RF 1 = .slice (some ⟨blk .going, 0, none⟩) P.nh P.nh) (R2 : RF 2 = .int .i64 h)
    (R4 : RF 4 = .slice (some ⟨blk .answers, 0, none⟩) P.nh P.nh) (R3 : Grows blk' c' .steps 63 6 (st.k + 1) (stepCells st.s st.k ++ x.cells) (RF 3))
    {T T' : Nat → Value} (eT : c .tasks = some ⟨168, P.nh, T⟩) (eT' : c' .tasks = some ⟨168, P.nh, T'⟩) (hT' : ∀ i, i ≠ h → T' i = T i) {ao : Option Addr} {tc : Nat} (hTh : T' h = .slice ao (P.jn h - (st.done h + 1)) tc)
    (hao : st.done h + 1 < P.jn h → ao = some ⟨blk (.trow h), st.done h + 1, none⟩ ∧ P.jn h - (st.done h + 1) ≤ tc)
    {Gf Gf' : Nat → Value} (eG : c .going = some ⟨4, P.nh, Gf⟩) (eG' : c' .going = some ⟨4, P.nh, Gf'⟩) (hG' : ∀ i, i ≠ h → Gf' i = Gf i) (hGh : Gf' h = .bool (decide (st.done h + 1 < P.jn h)))
    {A A' : Nat → Value} (eA : c .answers = some ⟨50, P.nh, A⟩) (eA' : c' .answers = some ⟨50, P.nh, A'⟩) (hA' : ∀ i, i ≠ h → A' i = A i)
    (hAh : Grows blk' c' (.arow h) 52 2 (st.done h + 1) (ansCells (st.ans h) (st.done h) ++ (K.tell (K.next (st.cur h) x)).cells) (A' h)) : Good K P blk' c' (stepSt P st h) := by
  have hdone : (stepSt P st h).done = upd st.done h (st.done h + 1) := by simp only [stepSt, hx]; rw [if_pos hend]
  have hans : (stepSt P st h).ans = upd st.ans h (upd (st.ans h) (st.done h) (K.tell (K.next (st.cur h) x))) := by simp only [stepSt, hx]; rw [if_pos hend]
  have hcur : (stepSt P st h).cur = upd st.cur h (K.init h (P.jb h (st.done h + 1))) := by simp only [stepSt, hx]; rw [if_pos hend]
  have d1 : ∀ i, i ≠ h → (stepSt P st h).done i = st.done i := fun i hi => by rw [hdone, upd_other _ _ hi]
  have d2 : (stepSt P st h).done h = st.done h + 1 := by rw [hdone, upd_same]
  refine ⟨?_, ?_, G.most, ?_, ?_, ?_, ?_, ?_, ?_, ?_, ?_, G.jobs, G.hands, ?_, G.jwf, ?_⟩
  · rw [hc _ (by simp) (by simp) (by simp) (by simp) (by simp) (by simp) (by simp) (by simp), hb _ (by simp) (by simp)]; exact G.mem
  · rw [eW]; simp only [stepSt, hf]
  · simp only [stepSt, hf]; exact hw
  · refine ⟨RF 3, RF, eR, by rw [hb _ (by simp) (by simp)]; exact R0, by rw [hb _ (by simp) (by simp)]; exact R1, R2, rfl, by rw [hb _ (by simp) (by simp)]; exact R4, ?_⟩
    have : stepCells (stepSt P st h).s (stepSt P st h).k = stepCells st.s st.k ++ x.cells := by
      simp only [stepSt, hx, stepCells, upd_same]
      rw [stepCells_congr (b := st.s) (fun j hj => upd_other _ _ (by omega))]
    rw [this]; exact R3
  · obtain ⟨T0, eT0, hT0⟩ := G.tasks
    obtain rfl : T = T0 := by rw [eT] at eT0; cases eT0; rfl
    refine ⟨T', eT', fun i hi => ?_⟩
    rw [hb _ (by simp) (by simp)]
    by_cases hih : i = h
    · subst hih
      rw [d2, hTh]
      refine ⟨fun hl => ?_, fun he => ⟨ao, tc, by rw [he, Nat.sub_self]⟩⟩
      obtain ⟨e, hle⟩ := hao hl
      exact ⟨tc, hle, by rw [e]⟩
    · rw [d1 i hih, hT' i hih]
      exact hT0 i hi
  · obtain ⟨G0, eG0, hG0⟩ := G.going
    obtain rfl : Gf = G0 := by rw [eG] at eG0; cases eG0; rfl
    refine ⟨Gf', eG', fun i hi => ?_⟩
    by_cases hih : i = h
    · subst hih
      rw [hGh]; simp only [St.going, d2]
    · rw [hG' i hih, hG0 i hi]; simp only [St.going, d1 i hih]
  · obtain ⟨A0, eA0, hA0⟩ := G.answers
    obtain rfl : A = A0 := by rw [eA] at eA0; cases eA0; rfl
    refine ⟨A', eA', fun i hi => ?_⟩
    by_cases hih : i = h
    · subst hih
      rw [d2]
      have : ansCells ((stepSt P st i).ans i) (st.done i + 1) = ansCells (st.ans i) (st.done i) ++ (K.tell (K.next (st.cur i) x)).cells := by
        rw [hans, upd_same]
        simp only [ansCells, upd_same]
        rw [ansCells_congr (b := st.ans i) (fun j hj => upd_other _ _ (by omega))]
      rw [this]; exact hAh
    · rw [d1 i hih, hA' i hih, hans, upd_other _ _ hih]
      exact (hA0 i hi).congr (hb _ (by simp) (by simp [hih])) (hc _ (by simp) (by simp) (by simp) (by simp) (by simp [hih]) (by simp) (by simp) (by simp))
  · intro i hi hj
    obtain ⟨cap, F, e1, e2, e3⟩ := G.trow i hi hj
    exact ⟨cap, F, by rw [hc _ (by simp) (by simp) (by simp) (by simp) (by simp) (by simp) (by simp) (by simp)]; exact e1, e2, fun j hj => by rw [hb _ (by simp) (by simp)]; exact e3 j hj⟩
  · intro i hi j h1 h2
    rw [hcur]
    by_cases hih : i = h
    · subst hih
      rw [d2] at h1 ⊢
      rw [upd_same, hc _ (by simp) (by simp) (by simp) (by simp; omega) (by simp) (by simp) (by simp) (by simp), hb _ (by simp) (by simp)]
      have := G.task i hi j (by omega) h2
      rw [if_neg (by omega)] at this
      rw [this]
      split
      · rename_i e; rw [e]
      · rfl
    · rw [d1 i hih] at h1 ⊢
      rw [upd_other _ _ hih, hc _ (by simp) (by simp) (by simp) (by simp [hih]) (by simp) (by simp) (by simp) (by simp), hb _ (by simp) (by simp)]
      exact G.task i hi j h1 h2
  · intro i hi
    by_cases hih : i = h
    · subst hih; rw [d2]; omega
    · rw [d1 i hih]; exact G.doneLe i hi
  · rw [hcur]
    intro i hi hl
    by_cases hih : i = h
    · subst hih; rw [d2] at hl ⊢; rw [upd_same]; exact hK.init _ _ (G.jwf i hi _ hl)
    · rw [upd_other _ _ hih]; rw [d1 i hih] at hl ⊢; exact G.wf i hi hl
  · simp only [stepSt]; omega
end Go.Proofs.Ytnodkeoikamonaa
/-
  What the step of a run needs: two blocks written at once, rows that grow, elements laid in blocks of their own.
-/
namespace Go.Proofs.Ytnodkeoikamonaa
open Go.RowKit
set_option linter.unusedVariables false
set_option linter.unusedSimpArgs false
set_option linter.unusedSectionVars false
set_option maxRecDepth 20000
theorem Has.write2 {ι : Type} [DecidableEq ι] {w w' : World} {base : Nat} {blk : ι → Nat} {c : ι → Option Row} (h : Has w base blk c) (r1 r2 : ι) (x1 x2 : Row) {y1 y2 : Row} (e1 : c r1 = some y1) (e2 : c r2 = some y2) (hne : r1 ≠ r2)
    (ht : Touch w w' (fun k => k = blk r1 ∨ k = blk r2)) (h1 : w'.rowIs (blk r1) x1.t x1.n x1.f) (h2 : w'.rowIs (blk r2) x2.t x2.n x2.f) : Has w' base blk (upd (upd c r1 (some x1)) r2 (some x2)) := by
  refine ⟨fun r r' x x' e e' hb => ?_, fun r x e => ?_, fun r x e => ?_⟩
  · have key : ∀ r x, upd (upd c r1 (some x1)) r2 (some x2) r = some x → ∃ y, c r = some y := by
      intro r x e
      by_cases hr2 : r = r2
      · subst hr2; exact ⟨_, e2⟩
      · rw [upd_other _ _ hr2] at e
        by_cases hr1 : r = r1
        · subst hr1; exact ⟨_, e1⟩
        · rw [upd_other _ _ hr1] at e; exact ⟨_, e⟩
    obtain ⟨y, hy⟩ := key r x e
    obtain ⟨y', hy'⟩ := key r' x' e'
    exact h.inj r r' y y' hy hy' hb
  · by_cases hr2 : r = r2
    · subst hr2; rw [upd_same] at e; cases e; exact h2
    · rw [upd_other _ _ hr2] at e
      by_cases hr1 : r = r1
      · subst hr1; rw [upd_same] at e; cases e; exact h1
      · rw [upd_other _ _ hr1] at e
        exact (h.row r x e).of_block (ht.block _ (h.lt e) (fun hk => by rcases hk with hk | hk; exact h.ne e e1 hr1 hk; exact h.ne e e2 hr2 hk))
  · by_cases hr2 : r = r2
    · subst hr2; exact h.new _ _ e2
    · rw [upd_other _ _ hr2] at e
      by_cases hr1 : r = r1
      · subst hr1; exact h.new _ _ e1
      · rw [upd_other _ _ hr1] at e; exact h.new _ _ e
theorem Good.isMem {K : Kd} {P : Par} {blk : Rl → Nat} {c : Rl → Option Row} {st : St K} {w : World} {base : Nat} (G : Good K P blk c st) (H : Has w base blk c) : IsMem w (blk .mem) (blk .words) P.n st.f :=
  ⟨H.row _ _ G.mem, H.row _ _ G.words, G.most, G.word⟩
theorem Grows.upd {blk : Rl → Nat} {c : Rl → Option Row} {r r' : Rl} {e : TypeId} {sz k : Nat} {xs : List Value} {v : Value} (h : Grows blk c r e sz k xs v) (hne : r ≠ r') (x : Option Row) (nb : Nat) : Grows (upd blk r' nb) (upd c r' x) r e sz k xs v := by
  unfold Grows at h ⊢
  rw [upd_other _ _ hne, upd_other _ _ hne]
  exact h
theorem Grows.upd' {blk : Rl → Nat} {c : Rl → Option Row} {r r' : Rl} {e : TypeId} {sz k : Nat} {xs : List Value} {v : Value} (h : Grows blk c r e sz k xs v) (hne : r ≠ r') (x : Option Row) : Grows blk (Ytnodkeoikamonaa.upd c r' x) r e sz k xs v := by
  unfold Grows at h ⊢
  rw [upd_other _ _ hne]
  exact h
theorem info48z : (Try.prog.info? 63).map (fun i => (i.zero, i.size, i.bytes)) = some (some (.agg #[.int .i64 0, .int .i64 0, .int .i64 0, .int .u64 0, .int .u64 0, .bool false]), 6, 48) := by kernel_rfl
theorem info54z : (Try.prog.info? 52).map (fun i => (i.zero, i.size, i.bytes)) = some (some (.agg #[.bool false, .int .u64 0]), 2, 16) := by kernel_rfl
theorem cells_new (w : World) (vs : Array Value) (t : TypeId) : ∀ j u, vs.toList[j]? = some u → (w.alloc (.cells vs t)).cell? (Addr.add ⟨w.heap.size, 0, none⟩ j) = some u := by
  intro j u hj
  have hj' : vs[j]? = some u := by simpa using hj
  simp only [Addr.add, Nat.zero_add]
  by_cases h0 : j = 0
  · subst h0; simp [hj']
  · simp [h0, hj']
theorem step_one (x : Stp) : ∀ u ∈ x.cells, u.oneCell' = true := by
  intro u hu
  simp [Stp.cells] at hu
  rcases hu with rfl | rfl | rfl | rfl | rfl | rfl <;> rfl
theorem ans_one (x : Ans) : ∀ u ∈ x.cells, u.oneCell' = true := by
  intro u hu
  simp [Ans.cells] at hu
  rcases hu with rfl | rfl <;> rfl
theorem below_of_grown_none {a b : World} (h : a.grownBy b none) (B : Nat) (hB : B ≤ a.heap.size) : Below B a b := ⟨h.os, h.tape, h.output, h.size, fun k hk => h.block k (by omega) (by simp)⟩
end Go.Proofs.Ytnodkeoikamonaa
/-
  Hands, jobs, schedules as they are seen; the checks of them, the program's and the document's.
-/
namespace Go.Proofs.Ytnodkeoikamonaa
open Go.RowKit
set_option linter.unusedVariables false
set_option linter.unusedSimpArgs false
set_option maxRecDepth 20000
def SeesI (w : World) (B : Nat) (ao : Option Addr) (n : Nat) (s : Nat → Int) : Prop :=
  ∀ j, j < n → ∃ b off, ao = some ⟨b, off, none⟩ ∧ b < B ∧ w.cell? ⟨b, off + j, none⟩ = some (.int .i64 (s j))
def SeesJ (w : World) (B : Nat) (ao : Option Addr) (n : Nat) (j : Nat → Jb) : Prop :=
  ∀ i, i < n → ∃ b off, ao = some ⟨b, off, none⟩ ∧ b < B ∧ ∀ q, q < 5 → w.cell? ⟨b, off + i * 5 + q, none⟩ = some ((j i).cell q)
def SeesH (w : World) (B : Nat) (ao : Option Addr) (nh : Nat) (jn : Nat → Nat) (jb : Nat → Nat → Jb) : Prop :=
  ∀ h, h < nh → ∃ b off ao' cap, ao = some ⟨b, off, none⟩ ∧ b < B ∧ w.cell? ⟨b, off + h, none⟩ = some (.slice ao' (jn h) cap) ∧ SeesJ w B ao' (jn h) (jb h)
section
variable {w w' : World} {B C : Nat} {ao : Option Addr} {n nh : Nat}
theorem SeesI.below {s : Nat → Int} (h : SeesI w B ao n s) (hb : Below C w w') (hBC : B ≤ C) : SeesI w' B ao n s :=
  fun j hj => by obtain ⟨b, off, e, hl, hc⟩ := h j hj; exact ⟨b, off, e, hl, (hb.cell (p := ⟨b, off + j, none⟩) (by show b < C; omega)).trans hc⟩
theorem SeesJ.below {j : Nat → Jb} (h : SeesJ w B ao n j) (hb : Below C w w') (hBC : B ≤ C) : SeesJ w' B ao n j :=
  fun i hi => by obtain ⟨b, off, e, hl, hc⟩ := h i hi; exact ⟨b, off, e, hl, fun q hq => (hb.cell (p := ⟨b, off + i * 5 + q, none⟩) (by show b < C; omega)).trans (hc q hq)⟩
theorem SeesH.below {jn : Nat → Nat} {jb : Nat → Nat → Jb} (h : SeesH w B ao nh jn jb) (hb : Below C w w') (hBC : B ≤ C) : SeesH w' B ao nh jn jb :=
  fun i hi => by obtain ⟨b, off, ao', cap, e, hl, hc, hj⟩ := h i hi; exact ⟨b, off, ao', cap, e, hl, (hb.cell (p := ⟨b, off + i, none⟩) (by show b < C; omega)).trans hc, hj.below hb hBC⟩
end
def LongHands (nh : Nat) (jn : Nat → Nat) : Prop := 8 < nh ∨ ∃ h, h < nh ∧ 256 < jn h
section
variable {w : World} {B : Nat} {ao aos : Option Addr} {nh cap ns caps : Nat} {jn : Nat → Nat} {jb : Nat → Nat → Jb}
theorem checkHands_ok (H0 : SeesH w B ao nh jn jb) (h : ¬ LongHands nh jn) :
    Calls Try.prog 95 #[.slice ao nh cap] w fun e w' => e = .returned (.int .i64 0) ∧ w' = w := by
  have hn : nh ≤ 8 := by rcases Nat.lt_or_ge 8 nh with l | l; exact absurd (.inl l) h; exact l
  have hj : ∀ i, i < nh → jn i ≤ 256 := fun i hi => by rcases Nat.lt_or_ge 256 (jn i) with l | l; exact absurd (.inr ⟨i, hi, l⟩) h; exact l
  have H := hide H0
  have HJ := hide hj
  clear H0 h hj
  go_enter Try.func95, Try.ntmps95
  go_wp2_with fail
  go_loopw [10] (fun i wr => ∃ k : Nat, k ≤ nh ∧ i = .int .i64 k ∧ wr = w) (fun i _ => nh - (intOf i).toNat)
  case atStart => exact ⟨0, Nat.zero_le _, rfl, rfl⟩
  case round =>
    obtain ⟨k, hk, rfl, rfl⟩ := hrel
    by_cases hlt : k < nh
    · obtain ⟨b, off, ao', cap', rfl, hbl, hcc, _⟩ := H.out k hlt
      have hkn : (k : Int) < (nh : Int) := by omega
      have hjk := HJ.out k hlt
      go_wp2
      go_roundw
      case rel => exact ⟨k + 1, by omega, by go_num, by first | rfl | trivial⟩
      case measure => simp [intOf]; omega
    · obtain rfl : k = nh := by omega
      go_wp2
      go_ret
      exact ⟨rfl, rfl⟩
theorem checkHands_long (H0 : SeesH w B ao nh jn jb) (hn63 : nh ≤ 9223372036854775807) (h : LongHands nh jn) :
    Calls Try.prog 95 #[.slice ao nh cap] w fun e w' => e = .returned (.int .i64 1) ∧ w' = w := by
  by_cases hn : 8 < nh
  · have hni : (8 : Int) < (nh : Int) := by omega
    go_enter Try.func95, Try.ntmps95
    go_wp2
    go_ret
    exact ⟨rfl, rfl⟩
  · obtain ⟨i0, hi0, hj0⟩ : ∃ i, i < nh ∧ 256 < jn i := by rcases h with h | h; exact absurd h hn; exact h
    have H := hide H0
    clear H0 h
    go_enter Try.func95, Try.ntmps95
    go_wp2_with fail
    go_loopw [10] (fun i wr => ∃ k : Nat, k ≤ i0 ∧ i = .int .i64 k ∧ wr = w) (fun i _ => nh - (intOf i).toNat)
    case atStart => exact ⟨0, Nat.zero_le _, rfl, rfl⟩
    case round =>
      obtain ⟨k, hk, rfl, rfl⟩ := hrel
      have hlt : k < nh := by omega
      obtain ⟨b, off, ao', cap', rfl, hbl, hcc, _⟩ := H.out k hlt
      have hkn : (k : Int) < (nh : Int) := by omega
      by_cases hjk : 256 < jn k
      · have hjk' : (256 : Int) < (jn k : Int) := by omega
        go_wp2
        go_ret
        exact ⟨rfl, rfl⟩
      · have hki : k ≠ i0 := fun e => hjk (e ▸ hj0)
        go_wp2
        go_roundw
        case rel => exact ⟨k + 1, by omega, by go_num, by first | rfl | trivial⟩
        case measure => simp [intOf]; omega
theorem checkRun_ok (H0 : SeesH w B ao nh jn jb) (h : ¬ LongHands nh jn) (hs : ns ≤ 65536) (most : Int) (hm : 0 ≤ most) (hm2 : most ≤ 65536) :
    Calls Try.prog 66 #[.slice ao nh cap, .slice aos ns caps, .int .i64 most] w fun e w' => e = .returned (.int .i64 0) ∧ w' = w := by
  go_enter Try.func66, Try.ntmps66
  go_wp2_with (go_at_call 95; refine (checkHands_ok H0 h).mono ?_; rintro e w' ⟨rfl, hw⟩; obtain rfl := hw.symm)
  go_ret
  exact ⟨rfl, rfl⟩
theorem checkRun_long (H0 : SeesH w B ao nh jn jb) (hn63 : nh ≤ 9223372036854775807) (most : Int) (h : LongHands nh jn ∨ 65536 < ns ∨ 65536 < most) :
    Calls Try.prog 66 #[.slice ao nh cap, .slice aos ns caps, .int .i64 most] w fun e w' => e = .returned (.int .i64 1) ∧ w' = w := by
  by_cases hl : LongHands nh jn
  · go_enter Try.func66, Try.ntmps66
    go_wp2_with (go_at_call 95; refine (checkHands_long H0 hn63 hl).mono ?_; rintro e w' ⟨rfl, hw⟩; obtain rfl := hw.symm)
    go_ret
    exact ⟨rfl, rfl⟩
  · by_cases h1 : 65536 < ns
    · have h1' : (65536 : Int) < (ns : Int) := by omega
      go_enter Try.func66, Try.ntmps66
      go_wp2_with (go_at_call 95; refine (checkHands_ok H0 hl).mono ?_; rintro e w' ⟨rfl, hw⟩; obtain rfl := hw.symm)
      go_ret
      exact ⟨rfl, rfl⟩
    · have h2 : 65536 < most := by rcases h with h | h | h; exact absurd h hl; exact absurd h h1; exact h
      go_enter Try.func66, Try.ntmps66
      go_wp2_with (go_at_call 95; refine (checkHands_ok H0 hl).mono ?_; rintro e w' ⟨rfl, hw⟩; obtain rfl := hw.symm)
      go_ret
      exact ⟨rfl, rfl⟩
theorem checkRun_arg (H0 : SeesH w B ao nh jn jb) (h : ¬ LongHands nh jn) (hs : ns ≤ 65536) (most : Int) (hm : most < 0) :
    Calls Try.prog 66 #[.slice ao nh cap, .slice aos ns caps, .int .i64 most] w fun e w' => e = .returned (.int .i64 2) ∧ w' = w := by
  go_enter Try.func66, Try.ntmps66
  go_wp2_with (go_at_call 95; refine (checkHands_ok H0 h).mono ?_; rintro e w' ⟨rfl, hw⟩; obtain rfl := hw.symm)
  go_ret
  exact ⟨rfl, rfl⟩
end
end Go.Proofs.Ytnodkeoikamonaa
/-
  Tasks as they are made, one behind the other: what stands in memory behind the first m h of each hand's.
-/
namespace Go.Proofs.Ytnodkeoikamonaa
open Go.RowKit
set_option linter.unusedVariables false
set_option linter.unusedSimpArgs false
def ifs (K : Kd) (P : Par) (blk : Rl → Nat) (h : Nat) : Nat → List Value
  | 0 => []
  | k + 1 => ifs K P blk h k ++ [.iface (K.tid (P.jb h k)) (.pointer (some ⟨blk (.task h k), 0, none⟩))]
theorem ifs_length (K : Kd) (P : Par) (blk : Rl → Nat) (h k : Nat) : (ifs K P blk h k).length = k * 1 := by
  induction k with
  | zero => rfl
  | succ k ih => simp [ifs, ih]
theorem ifs_congr {K : Kd} {P : Par} {blk blk' : Rl → Nat} {h k : Nat} (e : ∀ j, j < k → blk' (.task h j) = blk (.task h j)) : ifs K P blk' h k = ifs K P blk h k := by
  induction k with
  | zero => rfl
  | succ k ih => simp only [ifs]; rw [ih (fun j hj => e j (by omega)), e k (by omega)]
theorem ifs_get {K : Kd} {P : Par} {blk : Rl → Nat} {h k j : Nat} (hj : j < k) : (ifs K P blk h k)[j]? = some (.iface (K.tid (P.jb h j)) (.pointer (some ⟨blk (.task h j), 0, none⟩))) := by
  induction k with
  | zero => omega
  | succ k ih =>
    simp only [ifs]
    by_cases e : j = k
    · subst e
      rw [List.getElem?_append_right (by rw [ifs_length]; omega), ifs_length]
      simp
    · rw [List.getElem?_append_left (by rw [ifs_length]; omega)]
      exact ih (by omega)
def mUp (jn : Nat → Nat) (i j : Nat) : Nat → Nat := fun h => if h < i then jn h else if h = i then j else 0
theorem mUp_next (jn : Nat → Nat) (i : Nat) : mUp jn i (jn i) = mUp jn (i + 1) 0 := by
  funext h
  unfold mUp
  by_cases h1 : h < i
  · rw [if_pos h1, if_pos (by omega)]
  · by_cases h2 : h = i
    · rw [if_neg h1, if_pos h2, if_pos (by omega), h2]
    · rw [if_neg h1, if_neg h2, if_neg (by omega)]; split <;> rfl
theorem mUp_self (jn : Nat → Nat) (i j : Nat) : mUp jn i j i = j := by unfold mUp; rw [if_neg (by omega), if_pos rfl]
theorem mUp_succ (jn : Nat → Nat) (i j h : Nat) (hne : h ≠ i) : mUp jn i (j + 1) h = mUp jn i j h := by unfold mUp; rw [if_neg hne, if_neg hne]
theorem mUp_all (jn : Nat → Nat) (n h : Nat) (hh : h < n) : mUp jn n 0 h = jn h := by unfold mUp; rw [if_pos hh]
structure Made (K : Kd) (P : Par) (blk0 : Rl → Nat) (c0 : Rl → Option Row) (blk : Rl → Nat) (c : Rl → Option Row) (m : Nat → Nat) : Prop where
  mem : c .mem = c0 .mem
  words : c .words = c0 .words
  bm : blk .mem = blk0 .mem
  bw : blk .words = blk0 .words
  free : c .run = none ∧ c .going = none ∧ c .answers = none ∧ c .steps = none ∧ ∀ h, c (.arow h) = none
  tasks : ∃ T, c .tasks = some ⟨168, P.nh, T⟩ ∧ ∀ h, h < P.nh → Grows blk c (.trow h) 116 1 (m h) (ifs K P blk h (m h)) (T h)
  task : ∀ h, h < P.nh → ∀ j, j < m h → c (.task h j) = some ⟨K.t (P.jb h j), K.n (P.jb h j), K.cell (blk (.task h j)) (K.init h (P.jb h j))⟩
def FirstErr (K : Kd) (P : Par) (e : Int) : Prop :=
  ∃ H J, H < P.nh ∧ J < P.jn H ∧ K.err H (P.jb H J) = e ∧ e ≠ 0 ∧ (∀ h, h < H → ∀ j, j < P.jn h → K.err h (P.jb h j) = 0) ∧ ∀ j, j < J → K.err H (P.jb H j) = 0
def AllOk (K : Kd) (P : Par) : Prop := ∀ h, h < P.nh → ∀ j, j < P.jn h → K.err h (P.jb h j) = 0
theorem FirstErr.one {K : Kd} {P : Par} {e e' : Int} (h : FirstErr K P e) (h' : FirstErr K P e') : e = e' := by
  obtain ⟨H, J, h1, h2, h3, h4, h5, h6⟩ := h
  obtain ⟨H', J', h1', h2', h3', h4', h5', h6'⟩ := h'
  rcases Nat.lt_trichotomy H H' with l | rfl | l
  · exact absurd (h5' H l J h2) (by rw [h3]; exact h4)
  · rcases Nat.lt_trichotomy J J' with l | rfl | l
    · exact absurd (h6' J l) (by rw [h3]; exact h4)
    · rw [← h3, ← h3']
    · exact absurd (h6 J' l) (by rw [h3']; exact h4')
  · exact absurd (h5 H' l J' h2') (by rw [h3']; exact h4')
theorem FirstErr.not {K : Kd} {P : Par} {e : Int} (h : FirstErr K P e) : ¬ AllOk K P := fun ha => by
  obtain ⟨H, J, h1, h2, h3, h4, _⟩ := h
  exact h4 (by rw [← h3]; exact ha H h1 J h2)
variable {K : Kd} {P : Par} {blk0 blk blk' : Rl → Nat} {c0 c c' : Rl → Option Row} {m : Nat → Nat} {w w' : World} {base : Nat}
theorem Made.more {i j nb nb2 cap : Nat} {F : Nat → Value} {T : Nat → Value} {v : Value} {jn : Nat → Nat} (M : Made K P blk0 c0 blk c (mUp jn i j)) (hi : i < P.nh)
    (eT : c .tasks = some ⟨168, P.nh, T⟩)
    (hv : v = .slice (some ⟨nb2, 0, none⟩) (j + 1) cap) (hp : Pre F (ifs K P (upd blk (.task i j) nb) i (j + 1))) (hc1 : j + 1 ≤ cap) (hc2 : cap ≤ maxLen) :
    Made K P blk0 c0 (upd (upd blk (.task i j) nb) (.trow i) nb2)
      (upd (upd (upd c (.task i j) (some ⟨K.t (P.jb i j), K.n (P.jb i j), K.cell nb (K.init i (P.jb i j))⟩)) (.trow i) (some ⟨116, cap * 1, F⟩)) .tasks (some ⟨168, P.nh, fun k => if k = i then v else T k⟩)) (mUp jn i (j + 1)) := by
  refine ⟨by simpa [upd] using M.mem, by simpa [upd] using M.words, by simpa [upd] using M.bm, by simpa [upd] using M.bw, ?_, ⟨fun k => if k = i then v else T k, by simp [upd], fun h hh => ?_⟩, fun h hh k hk => ?_⟩
  · obtain ⟨f1, f2, f3, f4, f5⟩ := M.free
    exact ⟨by simpa [upd] using f1, by simpa [upd] using f2, by simpa [upd] using f3, by simpa [upd] using f4, fun h => by simpa [upd] using f5 h⟩
  · obtain ⟨T0, eT0, hT0⟩ := M.tasks
    obtain rfl : T = T0 := by rw [eT] at eT0; cases eT0; rfl
    show Grows _ _ _ _ _ _ _ (if h = i then v else T h)
    by_cases e : h = i
    · subst e
      rw [mUp_self, if_pos rfl]
      refine .inr ⟨cap, F, by simpa [upd] using hv, by simp [upd], hc1, hc2, ?_⟩
      rw [ifs_congr (blk := upd blk (.task h j) nb) (fun k hk => by simp [upd])]
      exact hp
    · rw [mUp_succ _ _ _ _ e]
      rw [if_neg e]
      have := hT0 h hh
      rw [ifs_congr (blk := blk) (fun k hk => by simp [upd, e])]
      exact this.congr (by simp [upd, e]) (by simp [upd, e])
  · by_cases e : h = i
    · subst e
      rw [mUp_self] at hk
      by_cases ek : k = j
      · subst ek; simp [upd]
      · have := M.task h hh k (by rw [mUp_self]; omega)
        simpa [upd, ek] using this
    · rw [mUp_succ _ _ _ _ e] at hk
      have := M.task h hh k hk
      simpa [upd, e] using this
end Go.Proofs.Ytnodkeoikamonaa
/-
  The run's beginning, its picks and its end, whatever the kind of tasks.
-/
namespace Go.Proofs.Ytnodkeoikamonaa
open Go.RowKit
set_option linter.unusedVariables false
set_option linter.unusedSimpArgs false
set_option maxRecDepth 20000
variable {K : Kd} {w : World} {base B : Nat} {P : Par} {blk : Rl → Nat} {c : Rl → Option Row} {st : St K}
theorem Good.seesGoing (G : Good K P blk c st) (H : Has w base blk c) : SeesB w w.heap.size (some ⟨blk .going, 0, none⟩) P.nh (st.going P) := by
  obtain ⟨Gf, eG, hG⟩ := G.going
  intro j hj
  refine ⟨blk .going, 0, rfl, H.lt eG, ?_⟩
  have := H.cell eG (i := j) hj
  simp only [hG j hj] at this
  simpa using this
theorem ended_any (G : Good K P blk c st) (H : Has w base blk c) :
    Calls Try.prog 72 #[.pointer (some ⟨blk .run, 0, none⟩)] w fun e w' => e = .returned (.bool (decide (cnt (st.going P) P.nh = 0))) ∧ w' = w := by
  have hs := G.seesGoing H
  obtain ⟨sv, RF, eR, R0, R1, R2, R3, R4, GS⟩ := G.run
  have r1 := H.cell eR (i := 1) (by simp)
  simp only [R1] at r1
  have hn := G.hands
  have hcl := cnt_le (st.going P) P.nh
  obtain ⟨b, hb⟩ : ∃ b, decide (cnt (st.going P) P.nh = 0) = b := ⟨_, rfl⟩
  rw [hb]
  have HS := hide hs
  have HB := hide hb
  clear H G GS hs hb
  go_enter Try.func72, Try.ntmps72
  go_wp2_with (go_at_call 101; refine (count_any HS.out (by omega)).mono ?_; rintro e w' ⟨rfl, hw⟩; obtain rfl := hw.symm)
  go_ret
  refine ⟨?_, rfl⟩
  rw [← HB.out]
  show Ending.returned (Value.bool ((cnt (st.going P) P.nh : Int) == 0)) = _
  congr 2
  rw [Bool.eq_iff_iff]
  simp
theorem pick_any {ao : Option Addr} {cap : Nat} (G : Good K P blk c st) (H : Has w base blk c) (S : SeesI w B ao P.ns P.sched) :
    Calls Try.prog 69 #[.pointer (some ⟨blk .run, 0, none⟩), .slice ao P.ns cap] w fun e w' => e = .returned (.int .i64 (st.turn P)) ∧ ∃ m, w' = w.drewN m := by
  have hs := G.seesGoing H
  obtain ⟨sv, RF, eR, R0, R1, R2, R3, R4, GS⟩ := G.run
  have r1 := H.cell eR (i := 1) (by simp)
  have r2 := H.cell eR (i := 2) (by simp)
  have r3 := H.cell eR (i := 3) (by simp)
  simp only [R1] at r1
  simp only [R2] at r2
  simp only [R3] at r3
  obtain ⟨sa, scap, rfl⟩ : ∃ sa scap, sv = .slice sa st.k scap := by
    rcases GS with ⟨h0, rfl, _⟩ | ⟨cap', F, rfl, _⟩
    · rw [h0]; exact ⟨none, 0, rfl⟩
    · exact ⟨_, _, rfl⟩
  have hn := G.hands
  have hl := G.lastOk
  have HS := hide hs
  obtain ⟨t, ht⟩ : ∃ t, st.turn P = t := ⟨_, rfl⟩
  rw [ht]
  unfold St.turn at ht
  clear H G GS hs
  by_cases hk : st.k < P.ns
  · rw [if_pos hk] at ht
    obtain ⟨b, off, rfl, hbl, hcc⟩ := S _ hk
    have hkn : (st.k : Int) < (P.ns : Int) := by omega
    subst ht
    go_enter Try.func69, Try.ntmps69
    go_wp2_with fail
    go_quiet ((go_at_call 97; exact Calls.quiet_of_same (next_any (show SeesB (w.drewN _) _ _ _ _ from HS.out) (by omega) _)))
    go_wp2_with fail
    go_ret
    exact ⟨rfl, _, rfl⟩
  · rw [if_neg hk] at ht
    have hkn : ¬ (st.k : Int) < (P.ns : Int) := by omega
    subst ht
    go_enter Try.func69, Try.ntmps69
    go_wp2_with fail
    go_quiet ((go_at_call 98; exact Calls.quiet_of_same (behind_any (show SeesB (w.drewN _) _ _ _ _ from HS.out) (by omega) _ hl.1 hl.2)))
    go_wp2_with fail
    go_ret
    exact ⟨rfl, _, rfl⟩
end Go.Proofs.Ytnodkeoikamonaa
