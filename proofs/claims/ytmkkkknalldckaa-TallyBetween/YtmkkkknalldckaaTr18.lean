/-
  Lemmas: HistG, RunW, RKind, RViews, LViews, RRetN.
-/
import Derived.Test.YtmkkkknalldckaaTr07
import Derived.Test.YtmkkkknalldckaaTr17
import Derived.Test.YtmkkkknalldckaaTr11
/-
  A run's history: each step is the step of the state that was reached ahead of it; what was told stays told. No program here.
-/
namespace Go.Proofs.Ytmkkkknalldckaa
set_option linter.unusedVariables false
set_option linter.unusedSimpArgs false

variable {K : Kd} {P : Par} {f : Nat → Int}

theorem run_succ_cases (P : Par) (s : St K) (h0 : s.k = 0) (m : Nat) : (runSt P s (m + 1) = runSt P s m ∧ (runSt P s m).turn P < 0) ∨
    ∃ h : Nat, (runSt P s m).turn P = h ∧ h < P.nh ∧ (runSt P s m).done h < P.jn h ∧ (runSt P s m).k = m ∧ runSt P s (m + 1) = stepSt P (runSt P s m) h := by
  rcases turn_ok P (runSt P s m) with ⟨ht, _⟩ | ⟨h, ht, hh, hd⟩
  · left
    refine ⟨?_, by rw [ht]; decide⟩
    show (if _ then _ else _) = _
    rw [if_pos (by rw [ht]; decide)]
  · right
    refine ⟨h, ht, hh, hd, ?_, runSt_step ht⟩
    have hk := runSt_k P s h0 m
    rcases Nat.lt_or_ge (runSt P s m).k m with l | l
    · have := hk.2 l; rw [ht] at this; omega
    · omega

/-- Each step of a run. -/
theorem hist (P : Par) (s : St K) (h0 : s.k = 0) : ∀ m i, i < (runSt P s m).k → (runSt P s i).k = i ∧ (∃ h : Nat, (runSt P s i).turn P = h ∧ h < P.nh ∧ (runSt P s i).done h < P.jn h ∧ runSt P s (i + 1) = stepSt P (runSt P s i) h) ∧ (runSt P s m).s i = (runSt P s (i + 1)).s i
  | 0, i, hi => by have : (runSt P s 0).k = 0 := h0; omega
  | m + 1, i, hi => by
    rcases run_succ_cases P s h0 m with ⟨e, _⟩ | ⟨h, ht, hh, hd, hk, e⟩
    · rw [e] at hi ⊢
      exact hist P s h0 m i hi
    · have hk1 : (runSt P s (m + 1)).k = m + 1 := by rw [e]; show (runSt P s m).k + 1 = _; rw [hk]
      rw [hk1] at hi
      by_cases him : i = m
      · subst him
        exact ⟨hk, ⟨h, ht, hh, hd, e⟩, rfl⟩
      · obtain ⟨a, b, c⟩ := hist P s h0 m i (by rw [hk]; omega)
        refine ⟨a, b, ?_⟩
        rw [← c, e]
        show upd (runSt P s m).s (runSt P s m).k _ i = _
        rw [upd_other _ _ (by omega)]

theorem step_done (P : Par) (st : St K) (h h' : Nat) : st.done h' ≤ (stepSt P st h).done h' ∧ ∀ j, j < st.done h' → (stepSt P st h).ans h' j = st.ans h' j := by
  simp only [stepSt]
  split
  · by_cases e : h' = h
    · subst e
      rw [upd_same, upd_same]
      exact ⟨by omega, fun j hj => upd_other _ _ (by omega)⟩
    · rw [upd_other _ _ e, upd_other _ _ e]
      exact ⟨Nat.le_refl _, fun _ _ => rfl⟩
  · exact ⟨Nat.le_refl _, fun _ _ => rfl⟩

/-- What was told stays told. -/
theorem stays (P : Par) (s : St K) (h0 : s.k = 0) (i h' : Nat) : ∀ d, (runSt P s i).done h' ≤ (runSt P s (i + d)).done h' ∧ ∀ j, j < (runSt P s i).done h' → (runSt P s (i + d)).ans h' j = (runSt P s i).ans h' j
  | 0 => ⟨Nat.le_refl _, fun _ _ => rfl⟩
  | d + 1 => by
    obtain ⟨a, b⟩ := stays P s h0 i h' d
    rcases run_succ_cases P s h0 (i + d) with ⟨e, _⟩ | ⟨h, ht, hh, hd, hk, e⟩
    · rw [show i + (d + 1) = i + d + 1 by omega, e]
      exact ⟨a, b⟩
    · rw [show i + (d + 1) = i + d + 1 by omega, e]
      obtain ⟨x, y⟩ := step_done P (runSt P s (i + d)) h h'
      exact ⟨by omega, fun j hj => (y j (by omega)).trans (b j hj)⟩

/-- A run as long as its steps is the whole run. -/
theorem run_at_k (P : Par) (s : St K) (h0 : s.k = 0) (m : Nat) : runSt P s (runSt P s m).k = runSt P s m := by
  obtain ⟨h1, h2⟩ := runSt_k P s h0 m
  rcases Nat.lt_or_ge (runSt P s m).k m with l | l
  · -- the first time that none goes on
    induction m with
    | zero => omega
    | succ m ih =>
      rcases run_succ_cases P s h0 m with ⟨e, ht⟩ | ⟨h, ht, hh, hd, hk, e⟩
      · rw [e]
        obtain ⟨h1', h2'⟩ := runSt_k P s h0 m
        rcases Nat.lt_or_ge (runSt P s m).k m with l' | l'
        · exact ih h1' h2' l'
        · rw [show (runSt P s m).k = m by omega]
      · have : (runSt P s (m + 1)).k = m + 1 := by rw [e]; show (runSt P s m).k + 1 = _; rw [hk]
        omega
  · rw [show (runSt P s m).k = m by omega]

end Go.Proofs.Ytmkkkknalldckaa

/-
  A run's words stay words, and its tasks stay whole, for every kind of tasks. No program here.
-/
namespace Go.Proofs.Ytmkkkknalldckaa
set_option linter.unusedVariables false
set_option linter.unusedSimpArgs false

theorem wordsOf_bounds {n : Nat} {f : Nat → Int} (hf : ∀ i, i < n → 0 ≤ f i ∧ f i ≤ 18446744073709551615) {q : Stp} (hq : 0 ≤ q.put ∧ q.put ≤ 18446744073709551615) : ∀ i, i < n → 0 ≤ wordsOf n f q i ∧ wordsOf n f q i ≤ 18446744073709551615 := by
  intro i hi
  unfold wordsOf
  split
  · rename_i h
    unfold putF
    split
    · unfold stepOf
      rw [if_pos h]
      exact putBy_bounds (hf _ (by omega)) hq
    · exact hf i hi
  · exact hf i hi

theorem stepOf_had {n : Nat} {f : Nat → Int} (hf : ∀ i, i < n → 0 ≤ f i ∧ f i ≤ 18446744073709551615) (q : Stp) : 0 ≤ (stepOf n f q).had ∧ (stepOf n f q).had ≤ 18446744073709551615 := by
  unfold stepOf
  split
  · rename_i h
    exact hf _ (by omega)
  · exact ⟨Int.le_refl 0, by show (0 : Int) ≤ 18446744073709551615; decide⟩

/-- What a run keeps: its words are words, the task under way of a hand that goes on is one of its job's. -/
structure WR {K : Kd} (P : Par) (st : St K) : Prop where
  word : ∀ i, i < P.n → 0 ≤ st.f i ∧ st.f i ≤ 18446744073709551615
  wf : ∀ h, h < P.nh → st.done h < P.jn h → K.wf (P.jb h (st.done h)) (st.cur h)

theorem WR.step {K : Kd} {P : Par} {st : St K} (ok : K.Ok) (hput : ∀ j s, K.wf j s → 0 ≤ (K.req s).put ∧ (K.req s).put ≤ 18446744073709551615) (hfine : ∀ h, h < P.nh → ∀ j, j < P.jn h → K.fine (P.jb h j)) (W : WR P st) {h : Nat} (hh : h < P.nh) (hd : st.done h < P.jn h) : WR P (stepSt P st h) := by
  have w0 := W.wf h hh hd
  refine ⟨wordsOf_bounds W.word (hput _ _ w0), fun h' hh' hd' => ?_⟩
  by_cases e : h' = h
  · subst e
    by_cases he : K.ends (st.cur h') (stepOf P.n st.f (K.req (st.cur h'))) = true
    · have ed : (stepSt P st h').done = upd st.done h' (st.done h' + 1) := if_pos he
      have ec : (stepSt P st h').cur h' = K.init h' (P.jb h' (st.done h' + 1)) := by
        show upd st.cur h' _ h' = _
        rw [upd_same, if_pos he]
      rw [ed, upd_same] at hd' ⊢
      rw [ec]
      exact ok.init _ _ (hfine h' hh _ hd')
    · have ed : (stepSt P st h').done = st.done := if_neg he
      have ec : (stepSt P st h').cur h' = K.next (st.cur h') (stepOf P.n st.f (K.req (st.cur h'))) := by
        show upd st.cur h' _ h' = _
        rw [upd_same, if_neg he]
      rw [ed, ec]
      exact ok.next _ _ _ _ W.word w0 he
  · have ec : (stepSt P st h).cur h' = st.cur h' := upd_other _ _ e
    have ed : (stepSt P st h).done h' = st.done h' := by
      by_cases he : K.ends (st.cur h) (stepOf P.n st.f (K.req (st.cur h))) = true
      · have ed : (stepSt P st h).done = upd st.done h (st.done h + 1) := if_pos he
        rw [ed]; exact upd_other _ _ e
      · have ed : (stepSt P st h).done = st.done := if_neg he
        rw [ed]
    rw [ed] at hd' ⊢
    rw [ec]
    exact W.wf h' hh' hd'

theorem wr_run {K : Kd} {P : Par} {f : Nat → Int} (ok : K.Ok) (hput : ∀ j s, K.wf j s → 0 ≤ (K.req s).put ∧ (K.req s).put ≤ 18446744073709551615) (hfine : ∀ h, h < P.nh → ∀ j, j < P.jn h → K.fine (P.jb h j)) (hf : ∀ i, i < P.n → 0 ≤ f i ∧ f i ≤ 18446744073709551615) : ∀ m, WR P (runSt P (st0 K P f) m)
  | 0 => ⟨hf, fun h hh hd => ok.init _ _ (hfine h hh _ hd)⟩
  | m + 1 => by
    have W := wr_run ok hput hfine hf m
    rcases run_succ_cases P (st0 K P f) rfl m with ⟨e, _⟩ | ⟨h, ht, hh, hd, hk, e⟩
    · rw [e]; exact W
    · rw [e]; exact W.step ok hput hfine hh hd

/-- An answer that a run has told is still told at its end. -/
theorem told_later {K : Kd} (P : Par) (s : St K) (h0 : s.k = 0) {i m : Nat} (him : i ≤ m) (h' : Nat) : (runSt P s i).done h' ≤ (runSt P s m).done h' ∧ ∀ j, j < (runSt P s i).done h' → (runSt P s m).ans h' j = (runSt P s i).ans h' j := by
  obtain ⟨d, rfl⟩ : ∃ d, m = i + d := ⟨m - i, by omega⟩
  exact stays P s h0 i h' d
end Go.Proofs.Ytmkkkknalldckaa

/-
  What a layer's reference does with its tasks.
-/
namespace Go.Proofs.Ytmkkkknalldckaa
open Go.RowKit
set_option linter.unusedVariables false

structure RKind (K : Kd) (rep : List Value → K.σ → Prop) (sh : Shp) (fst fsp : FuncId) : Prop where
  start : ∀ (k : Int) (j : Jb), 0 ≤ k → k < 8 → j.wf → ∃ cs, IsTk cs ∧ (K.err k j = 0 → rep cs (K.init k j)) ∧ ∀ w : World, Calls Try.prog fst #[sh.val, .int .i64 k, j.val, kept0] w fun e w' => e = .returned (.tuple #[.agg cs.toArray, .int .i64 (K.err k j)]) ∧ Below w.heap.size w w'
  step : ∀ (cs : List Value) (s : K.σ), IsTk cs → rep cs s → ∀ (n : Nat) (f : Nat → Int), (∀ i, i < n → 0 ≤ f i ∧ f i ≤ 18446744073709551615) → ∃ cs', IsTk cs' ∧ (¬ K.ends s (stepOf n f (K.req s)) = true → rep cs' (K.next s (stepOf n f (K.req s)))) ∧
    (K.ends s (stepOf n f (K.req s)) = true → cs'[22]? = some (.bool (K.tell (K.next s (stepOf n f (K.req s)))).ok) ∧ cs'[23]? = some (.int .u64 (K.tell (K.next s (stepOf n f (K.req s)))).val)) ∧ (∀ q, q < 4 → cs'[24 + q]? = some (.int .u64 0)) ∧
    ∀ (w : World) (g cap : Nat), IsRow w g n cap f → Calls Try.prog fsp #[.agg cs.toArray, .slice (some ⟨g, 0, none⟩) n cap] w fun e w' => e = .returned (.tuple #[.agg cs'.toArray, (stepOf n f (K.req s)).val, .bool (K.ends s (stepOf n f (K.req s)))]) ∧ IsRow w' g n cap (wordsOf n f (K.req s)) ∧ w.grownBy w' (some g)
end Go.Proofs.Ytmkkkknalldckaa

/-
  What both sides tell of a run.
-/
namespace Go.Proofs.Ytmkkkknalldckaa
open Go.RowKit
set_option linter.unusedVariables false
set_option linter.unusedSimpArgs false
set_option linter.unnecessarySimpa false
set_option maxRecDepth 20000

/-- What a run tells. -/
structure Vw where
  k : Nat
  s : Nat → Stp
  n : Nat
  f : Nat → Int
  en : Bool
  m : Nat
  dn : Nat → Nat
  an : Nat → Nat → Ans
  er : Int

/-- A told value, as it is seen. -/
def TV (w : World) (V : Vw) (v : Value) : Prop :=
  ∃ sa sc wa wc aa ac, v = .tuple #[.agg #[.slice sa V.k sc, .slice wa V.n wc, .bool V.en], .slice aa V.m ac, .int .i64 V.er] ∧ SeesS w w.heap.size sa V.k V.s ∧ Sees w w.heap.size wa V.n V.f ∧ SeesA w w.heap.size aa V.m V.dn V.an

/-- ran, whatever it is given. -/
def RAllR (K : Kd) (rep : List Value → K.σ → Prop) (w : World) (P : Par) (f : Nat → Int) (most : Int) (e : Ending) (w' : World) : Prop :=
  Below w.heap.size w w' ∧ ((∃ er, ErrOf K P most er ∧ e = .returned (errVal er)) ∨ (Fine P most ∧ AllOk K P ∧ ∃ v, e = .returned v ∧ RTold K rep P (runSt P (st0 K P f) most.toNat) (w.heap.size + 1) v w'))

theorem views (K : Kd) (rep : List Value → K.σ → Prop) (P : Par) (f : Nat → Int) (most : Int) : ∃ V : Vw, V.k ≤ 65536 ∧ V.n ≤ 4096 ∧ V.m ≤ 8 ∧ (∀ h, h < V.m → V.dn h ≤ 256) ∧
    (∀ w e w', RAllR K rep w P f most e w' → Below w.heap.size w w' ∧ ∃ v, e = .returned v ∧ TV w' V v) ∧ (∀ w e w', OfAny.AllB K w P f most e w' → Below w.heap.size w w' ∧ ∃ v, e = .returned v ∧ TV w' V v) := by
  by_cases hE : ∃ er, ErrOf K P most er
  · obtain ⟨er, hE⟩ := hE
    have tv : ∀ w, TV w ⟨0, fun _ => ⟨0, 0, 0, 0, 0, false⟩, 0, fun _ => 0, false, 0, fun _ => 0, fun _ _ => ⟨false, 0⟩, er⟩ (errVal er) := fun w => ⟨none, 0, none, 0, none, 0, rfl, fun j hj => absurd hj (Nat.not_lt_zero j), fun j hj => absurd hj (Nat.not_lt_zero j), fun j hj => absurd hj (Nat.not_lt_zero j)⟩
    refine ⟨⟨0, fun _ => ⟨0, 0, 0, 0, 0, false⟩, 0, fun _ => 0, false, 0, fun _ => 0, fun _ _ => ⟨false, 0⟩, er⟩, Nat.zero_le _, Nat.zero_le _, Nat.zero_le _, fun _ _ => Nat.zero_le _, ?_, ?_⟩
    · rintro w e w' ⟨hb, ⟨er', h, rfl⟩ | ⟨h1, h2, _⟩⟩
      · obtain rfl := h.one hE
        exact ⟨hb, _, rfl, tv w'⟩
      · exact absurd ⟨h1, h2⟩ hE.not
    · rintro w e w' ⟨hb, ⟨er', h, rfl⟩ | ⟨h1, h2, _⟩⟩
      · obtain rfl := h.one hE
        exact ⟨hb, _, rfl, tv w'⟩
      · exact absurd ⟨h1, h2⟩ hE.not
  · by_cases hf : Fine P most
    · have st := runSt P (st0 K P f) most.toNat
      have hk : (runSt P (st0 K P f) most.toNat).k ≤ 65536 := by
        have := (runSt_k P (st0 K P f) rfl most.toNat).1
        have := hf.2.2.2
        omega
      have hnh : P.nh ≤ 8 := by rcases Nat.lt_or_ge 8 P.nh with l | l; exact absurd (.inl l) hf.2.1; exact l
      by_cases hd : ∀ h, h < P.nh → (runSt P (st0 K P f) most.toNat).done h ≤ 256
      · refine ⟨⟨(runSt P (st0 K P f) most.toNat).k, (runSt P (st0 K P f) most.toNat).s, P.n, (runSt P (st0 K P f) most.toNat).f, decide (cnt ((runSt P (st0 K P f) most.toNat).going P) P.nh = 0), P.nh, (runSt P (st0 K P f) most.toNat).done, (runSt P (st0 K P f) most.toNat).ans, 0⟩, hk, hf.1, hnh, hd, ?_, ?_⟩
        · rintro w e w' ⟨hb, ⟨er', h, rfl⟩ | ⟨h1, h2, v, rfl, blk, c, un, capw, sv, rfl, H, G⟩⟩
          · exact absurd ⟨_, h⟩ hE
          · obtain ⟨sa, sc, rfl⟩ := G.steps.isSlice'
            exact ⟨hb, _, rfl, sa, sc, _, _, _, _, rfl, G.steps.seesS H, G.seesW H, seesA_of G.answers H⟩
        · rintro w e w' ⟨hb, ⟨er', h, rfl⟩ | ⟨h1, h2, v, rfl, blk, c, g, sv, rfl, H, G, GS, R, hg, hne⟩⟩
          · exact absurd ⟨_, h⟩ hE
          · obtain ⟨sa, sc, rfl⟩ := GS.isSlice'
            exact ⟨hb, _, rfl, sa, sc, _, _, _, _, rfl, GS.seesS H, R.sees, seesA_of G.answers H⟩
      · refine ⟨⟨0, fun _ => ⟨0, 0, 0, 0, 0, false⟩, 0, fun _ => 0, false, 0, fun _ => 0, fun _ _ => ⟨false, 0⟩, 0⟩, Nat.zero_le _, Nat.zero_le _, Nat.zero_le _, fun _ _ => Nat.zero_le _, ?_, ?_⟩
        · rintro w e w' ⟨hb, ⟨er', h, rfl⟩ | ⟨h1, h2, v, rfl, blk, c, un, capw, sv, rfl, H, G⟩⟩
          · exact absurd ⟨_, h⟩ hE
          · exact absurd (fun h hh => Nat.le_trans (G.doneLe h hh) (G.jobs h hh)) hd
        · rintro w e w' ⟨hb, ⟨er', h, rfl⟩ | ⟨h1, h2, v, rfl, blk, c, g, sv, rfl, H, G, GS, R, hg, hne⟩⟩
          · exact absurd ⟨_, h⟩ hE
          · exact absurd (fun h hh => Nat.le_trans (G.doneLe h hh) (G.jobs h hh)) hd
    · refine ⟨⟨0, fun _ => ⟨0, 0, 0, 0, 0, false⟩, 0, fun _ => 0, false, 0, fun _ => 0, fun _ _ => ⟨false, 0⟩, 0⟩, Nat.zero_le _, Nat.zero_le _, Nat.zero_le _, fun _ _ => Nat.zero_le _, ?_, ?_⟩
      · rintro w e w' ⟨hb, ⟨er', h, rfl⟩ | ⟨h1, _⟩⟩
        · exact absurd ⟨_, h⟩ hE
        · exact absurd h1 hf
      · rintro w e w' ⟨hb, ⟨er', h, rfl⟩ | ⟨h1, _⟩⟩
        · exact absurd ⟨_, h⟩ hE
        · exact absurd h1 hf

end Go.Proofs.Ytmkkkknalldckaa

/-
  What both sides of a layer's run tell.
-/
namespace Go.Proofs.Ytmkkkknalldckaa
open Go.RowKit
set_option linter.unusedVariables false
set_option linter.unusedSimpArgs false
set_option linter.unnecessarySimpa false
set_option maxRecDepth 20000

def RLAll (K : Kd) (rep : List Value → K.σ → Prop) (want : Nat) (w : World) (P : Par) (f : Nat → Int) (most : Int) (e : Ending) (w' : World) : Prop :=
  Below w.heap.size w w' ∧ ((∃ er, LErr K want P most er ∧ e = .returned (errVal er)) ∨ (P.n = want ∧ Fine P most ∧ AllOk K P ∧ ∃ v, e = .returned v ∧ RTold K rep P (runSt P (st0 K P f) most.toNat) w.heap.size v w'))

theorem LErr.one {K : Kd} {want : Nat} {P : Par} {most e e' : Int} (h : LErr K want P most e) (h' : LErr K want P most e') : e = e' := by
  rcases h with ⟨a, rfl⟩ | ⟨a, h⟩
  · rcases h' with ⟨_, rfl⟩ | ⟨b, _⟩
    · rfl
    · exact absurd b a
  · rcases h' with ⟨b, _⟩ | ⟨_, h'⟩
    · exact absurd a b
    · exact h.one h'
theorem LErr.not {K : Kd} {want : Nat} {P : Par} {most e : Int} (h : LErr K want P most e) (h0 : P.n = want) : ¬ (Fine P most ∧ AllOk K P) := by
  rcases h with ⟨a, _⟩ | ⟨_, h⟩
  · exact absurd h0 a
  · exact h.not

theorem rtold_touch {K : Kd} {rep : List Value → K.σ → Prop} {P : Par} {st : St K} {base base' b : Nat} {v : Value} {w w' : World} (h : RTold K rep P st base v w) (ht : Touch w w' (fun k => k = b)) (hb : b < base) (hbb : base' ≤ base) : RTold K rep P st base' v w' := by
  obtain ⟨blk, c, un, capw, sv, rfl, H, G⟩ := h
  exact ⟨blk, c, un, capw, sv, rfl, ((H.touch ht (fun r x e he => by have := H.new r x e; omega))).base_le hbb, G⟩
theorem RLAll.up {K : Kd} {rep : List Value → K.σ → Prop} {want : Nat} {w0 w w' w2 : World} {P : Par} {f : Nat → Int} {most : Int} {e : Ending} {b : Nat} (h : RLAll K rep want w P f most e w') (h0 : Below w0.heap.size w0 w) (ht : Touch w' w2 (fun k => k = b)) (hb0 : w0.heap.size ≤ b) (hb : b < w.heap.size) : RLAll K rep want w0 P f most e w2 := by
  obtain ⟨hB, hc⟩ := h
  refine ⟨(h0.trans (hB.mono h0.size)).trans (ht.below (fun k hk => by omega) (Nat.le_trans h0.size hB.size)), ?_⟩
  rcases hc with h | ⟨h1, h2, h3, v, he, hT⟩
  · exact .inl h
  · exact .inr ⟨h1, h2, h3, v, he, rtold_touch hT ht hb h0.size⟩
theorem RLAll.shape {K : Kd} {rep : List Value → K.σ → Prop} {want : Nat} {w w' : World} {P : Par} {f : Nat → Int} {most : Int} {e : Ending} (h : RLAll K rep want w P f most e w') : ∃ sa k sc wa n wc en aa m ac er, e = .returned (tv3 sa k sc wa n wc en aa m ac er) := by
  rcases h.2 with ⟨er, _, rfl⟩ | ⟨_, _, _, v, rfl, blk, c, un, capw, sv, rfl, H, G⟩
  · exact ⟨none, 0, 0, none, 0, 0, false, none, 0, 0, er, rfl⟩
  · obtain ⟨sa, sc, rfl⟩ := G.steps.isSlice'
    exact ⟨_, _, _, _, _, _, _, _, _, _, _, rfl⟩

theorem lviews (K : Kd) (rep : List Value → K.σ → Prop) (want : Nat) (P : Par) (f : Nat → Int) (most : Int) : ∃ V : Vw, V.k ≤ 65536 ∧ V.n ≤ 4096 ∧ V.m ≤ 8 ∧ (∀ h, h < V.m → V.dn h ≤ 256) ∧
    (∀ w e w', RLAll K rep want w P f most e w' → Below w.heap.size w w' ∧ ∃ v, e = .returned v ∧ TV w' V v) ∧ (∀ w e w', LAll K want w P f most e w' → Below w.heap.size w w' ∧ ∃ v, e = .returned v ∧ TV w' V v) := by
  by_cases hE : ∃ er, LErr K want P most er
  · obtain ⟨er, hE⟩ := hE
    have tv : ∀ w, TV w ⟨0, fun _ => ⟨0, 0, 0, 0, 0, false⟩, 0, fun _ => 0, false, 0, fun _ => 0, fun _ _ => ⟨false, 0⟩, er⟩ (errVal er) := fun w => ⟨none, 0, none, 0, none, 0, rfl, fun j hj => absurd hj (Nat.not_lt_zero j), fun j hj => absurd hj (Nat.not_lt_zero j), fun j hj => absurd hj (Nat.not_lt_zero j)⟩
    refine ⟨⟨0, fun _ => ⟨0, 0, 0, 0, 0, false⟩, 0, fun _ => 0, false, 0, fun _ => 0, fun _ _ => ⟨false, 0⟩, er⟩, Nat.zero_le _, Nat.zero_le _, Nat.zero_le _, fun _ _ => Nat.zero_le _, ?_, ?_⟩
    · rintro w e w' ⟨hb, ⟨er', h, rfl⟩ | ⟨h0, h1, h2, _⟩⟩
      · obtain rfl := h.one hE
        exact ⟨hb, _, rfl, tv w'⟩
      · exact absurd ⟨h1, h2⟩ (hE.not h0)
    · rintro w e w' ⟨hb, ⟨er', h, rfl⟩ | ⟨h0, h1, h2, _⟩⟩
      · obtain rfl := h.one hE
        exact ⟨hb, _, rfl, tv w'⟩
      · exact absurd ⟨h1, h2⟩ (hE.not h0)
  · by_cases hf : Fine P most
    · have st := runSt P (st0 K P f) most.toNat
      have hk : (runSt P (st0 K P f) most.toNat).k ≤ 65536 := by
        have := (runSt_k P (st0 K P f) rfl most.toNat).1
        have := hf.2.2.2
        omega
      have hnh : P.nh ≤ 8 := by rcases Nat.lt_or_ge 8 P.nh with l | l; exact absurd (.inl l) hf.2.1; exact l
      by_cases hd : ∀ h, h < P.nh → (runSt P (st0 K P f) most.toNat).done h ≤ 256
      · refine ⟨⟨(runSt P (st0 K P f) most.toNat).k, (runSt P (st0 K P f) most.toNat).s, P.n, (runSt P (st0 K P f) most.toNat).f, decide (cnt ((runSt P (st0 K P f) most.toNat).going P) P.nh = 0), P.nh, (runSt P (st0 K P f) most.toNat).done, (runSt P (st0 K P f) most.toNat).ans, 0⟩, hk, hf.1, hnh, hd, ?_, ?_⟩
        · rintro w e w' ⟨hb, ⟨er', h, rfl⟩ | ⟨h0, h1, h2, v, rfl, blk, c, un, capw, sv, rfl, H, G⟩⟩
          · exact absurd ⟨_, h⟩ hE
          · obtain ⟨sa, sc, rfl⟩ := G.steps.isSlice'
            exact ⟨hb, _, rfl, sa, sc, _, _, _, _, rfl, G.steps.seesS H, G.seesW H, seesA_of G.answers H⟩
        · rintro w e w' ⟨hb, ⟨er', h, rfl⟩ | ⟨h0, h1, h2, v, rfl, blk, c, g, sv, rfl, H, G, GS, R, hg, hne⟩⟩
          · exact absurd ⟨_, h⟩ hE
          · obtain ⟨sa, sc, rfl⟩ := GS.isSlice'
            exact ⟨hb, _, rfl, sa, sc, _, _, _, _, rfl, GS.seesS H, R.sees, seesA_of G.answers H⟩
      · refine ⟨⟨0, fun _ => ⟨0, 0, 0, 0, 0, false⟩, 0, fun _ => 0, false, 0, fun _ => 0, fun _ _ => ⟨false, 0⟩, 0⟩, Nat.zero_le _, Nat.zero_le _, Nat.zero_le _, fun _ _ => Nat.zero_le _, ?_, ?_⟩
        · rintro w e w' ⟨hb, ⟨er', h, rfl⟩ | ⟨h0, h1, h2, v, rfl, blk, c, un, capw, sv, rfl, H, G⟩⟩
          · exact absurd ⟨_, h⟩ hE
          · exact absurd (fun h hh => Nat.le_trans (G.doneLe h hh) (G.jobs h hh)) hd
        · rintro w e w' ⟨hb, ⟨er', h, rfl⟩ | ⟨h0, h1, h2, v, rfl, blk, c, g, sv, rfl, H, G, GS, R, hg, hne⟩⟩
          · exact absurd ⟨_, h⟩ hE
          · exact absurd (fun h hh => Nat.le_trans (G.doneLe h hh) (G.jobs h hh)) hd
    · refine ⟨⟨0, fun _ => ⟨0, 0, 0, 0, 0, false⟩, 0, fun _ => 0, false, 0, fun _ => 0, fun _ _ => ⟨false, 0⟩, 0⟩, Nat.zero_le _, Nat.zero_le _, Nat.zero_le _, fun _ _ => Nat.zero_le _, ?_, ?_⟩
      · rintro w e w' ⟨hb, ⟨er', h, rfl⟩ | ⟨h0, h1, _⟩⟩
        · exact absurd ⟨_, h⟩ hE
        · exact absurd h1 hf
      · rintro w e w' ⟨hb, ⟨er', h, rfl⟩ | ⟨h0, h1, _⟩⟩
        · exact absurd ⟨_, h⟩ hE
        · exact absurd h1 hf


variable {K : Kd} {rep : List Value → K.σ → Prop} {sh : Shp} {want : Nat} {w : World} {ao aoh aos : Option Addr} {cap caph caps : Nat} {P : Par} {f : Nat → Int} {most : Int}
end Go.Proofs.Ytmkkkknalldckaa

/-
  A region that draws its order, reads by a table and writes two variables made ahead of it.
-/
namespace Go.Proofs.Ytmkkkknalldckaa
open Go.RowKit
set_option linter.unusedVariables false
set_option linter.unusedSimpArgs false
set_option linter.unnecessarySimpa false

namespace RetN

def pv (ks : List (Nat × Nat)) (vals : Nat → Value) (i : Nat) : Option (Nat × Value) := (Reg.look ks i).map (fun d => (d, vals i))
def D (ks : List (Nat × Nat)) (k : Nat) : Prop := (ks.any (fun p => p.2 == k)) = true

structure In (ks : List (Nat × Nat)) (vals : Nat → Value) (w0 : World) (a0 : Act) (C E iC iE : Nat) (lt ls : List Value) (L : Nat → Bool) (a : Act) (w : World) : Prop where
  sz : a.tmps.size = a0.tmps.size
  df : a.defers = a0.defers
  fix : ∀ k, ¬ D ks k → a.eval (.tmp k) = a0.eval (.tmp k)
  pure : ∀ i d v, pv ks vals i = some (d, v) → L i = true → a.eval (.tmp d) = v
  tch : Touch w0 w (fun k => k = C ∨ k = E)
  tC : w.there C 0 lt.length
  tE : w.there E 0 ls.length
  sC : L iC = true → w.rangeAt C 0 lt
  sE : L iE = true → w.rangeAt E 0 ls

theorem region {P : Program} {id : Nat} {ops : Array Oper} {Q : Exit → Act → World → Prop} {ks : List (Nat × Nat)} {vals : Nat → Value} {w0 : World} {a0 : Act} {C E iC iE : Nat} {lt ls : List Value}
    (hm : P.follows .mixedOrders = true) (hg : ∀ (i : Nat) (o : Oper), ops[i]? = some o → o.guard = none) (hback : ∀ (i : Nat) (o : Oper), ops[i]? = some o → ∀ e ∈ o.after, Region.binds .any e = true → e.on < i)
    (hgood : (ks.all fun p => (ks.all fun q => p.1 == q.1 || p.2 != q.2) && (p.1 != iC && p.1 != iE)) = true) (hCE : C ≠ E) (hi : iC ≠ iE) (hD : ∀ k, D ks k → k < a0.tmps.size)
    (hl : ∀ u ∈ lt, u.oneCell' = true) (hs : ∀ u ∈ ls, u.oneCell' = true) (tC : w0.there C 0 lt.length) (tE : w0.there E 0 ls.length)
    (kinds : ∀ (i : Nat) (o : Oper), ops[i]? = some o →
      (∃ d v, pv ks vals i = some (d, v) ∧ o.dst = some d ∧ ∀ L a w, In ks vals w0 a0 C E iC iE lt ls L a w → (∀ e ∈ o.after, Region.binds .any e = true → L e.on = true) → (execOp a.eval o).run P w = .ok (.value v) w) ∨
      (i = iC ∧ o.dst = none ∧ ∃ ty x y, o.op = .store ty x y ∧ (P.info? ty).map (·.size) = some lt.length ∧ ∀ L a w, In ks vals w0 a0 C E iC iE lt ls L a w → (∀ e ∈ o.after, Region.binds .any e = true → L e.on = true) → a.eval x = .pointer (some ⟨C, 0, none⟩) ∧ a.eval y = .agg lt.toArray) ∨
      (i = iE ∧ o.dst = none ∧ ∃ ty x y, o.op = .store ty x y ∧ (P.info? ty).map (·.size) = some ls.length ∧ ∀ L a w, In ks vals w0 a0 C E iC iE lt ls L a w → (∀ e ∈ o.after, Region.binds .any e = true → L e.on = true) → a.eval x = .pointer (some ⟨E, 0, none⟩) ∧ a.eval y = .agg ls.toArray))
    (fin : ∀ L a w, In ks vals w0 a0 C E iC iE lt ls L a w → (∀ i, i < ops.size → L i = true) → Q .normal a w) :
    (Code.region id ops true).wp P Q a0 w0 := by
  simp only [Bool.and_eq_true, List.all_eq_true, bne_iff_ne, Bool.or_eq_true, beq_iff_eq] at hgood
  have pvm : ∀ {i d v}, pv ks vals i = some (d, v) → (i, d) ∈ ks := fun {i d v} h => by
    obtain ⟨d', h1, h2⟩ := Option.map_eq_some_iff.1 h
    cases h2; exact Reg.look_mem h1
  refine region_inv hm hg hback (fun L a w => In ks vals w0 a0 C E iC iE lt ls L a w) ?step (fun L a w h hall => fin L a w h hall) ?start
  case start => exact ⟨rfl, rfl, fun _ _ => rfl, fun _ _ _ _ h => (by cases h), ⟨rfl, rfl, rfl, Nat.le_refl _, fun _ _ _ => rfl⟩, tC, tE, fun h => (by cases h), fun h => (by cases h)⟩
  case step =>
    rintro L a w i o h ho hL hd
    rcases kinds i o ho with ⟨d, v, hv, hdst, hrun⟩ | ⟨rfl, hdst, ty, x, y, hop, hsz, hev⟩ | ⟨rfl, hdst, ty, x, y, hop, hsz, hev⟩
    · refine wp_value (hrun L a w h hd) ?_
      rw [hdst]
      have hm' := pvm hv
      obtain ⟨hap, hnC, hnE⟩ := hgood _ hm'
      have hDd : D ks d := by simp only [D, List.any_eq_true, beq_iff_eq]; exact ⟨_, hm', rfl⟩
      have e : ∀ k : Nat, k ≠ d → (a.put (some d) v).eval (.tmp k) = a.eval (.tmp k) := fun k hk => put_other hk
      refine ⟨by rw [put_size]; exact h.sz, by rw [put_defs]; exact h.df, fun k hk => ?_, fun j d' v' hj hLj => ?_, h.tch, h.tC, h.tE, fun h1 => h.sC ?_, fun h1 => h.sE ?_⟩
      · rw [e k (fun he => hk (he ▸ hDd))]; exact h.fix k hk
      · by_cases hij : j = i
        · subst hij
          rw [hv] at hj; cases hj
          exact put_eval (by rw [h.sz]; exact hD _ hDd)
        · rw [upd_other _ _ hij] at hLj
          have : d' ≠ d := by
            rcases hap _ (pvm hj) with e1 | e1
            · exact absurd e1.symm hij
            · exact Ne.symm e1
          rw [e d' this]
          exact h.pure j d' v' hj hLj
      · rwa [upd_other _ _ (Ne.symm hnC)] at h1
      · rwa [upd_other _ _ (Ne.symm hnE)] at h1
    · obtain ⟨px, py⟩ := hev L a w h hd
      refine wp_store_mid ty x y hop C 0 lt.toArray px py (by simpa using h.tC) (by simpa using hsz) (all_oneCell_toArray hl) ?_
      rw [hdst]
      have tt := touch_setCells C lt 0 w
      have sm := World.rangeAt_setCells_same w C 0 lt h.tC
      have nk : ∀ {j d v}, pv ks vals j = some (d, v) → j ≠ i := fun {j d v} hj => (hgood _ (pvm hj)).2.1
      exact ⟨h.sz, h.df, h.fix, fun j d' v' hj hLj => h.pure j d' v' hj (by rwa [upd_other _ _ (nk hj)] at hLj), h.tch.trans' tt (fun k _ h => .inl h), World.there_setCells h.tC _ _ _, World.there_setCells h.tE _ _ _, fun _ => sm, fun h1 => World.rangeAt_setCells_apart (h.sE (by rwa [upd_other _ _ (Ne.symm hi)] at h1)) _ _ _ (.inl (Ne.symm hCE))⟩
    · obtain ⟨px, py⟩ := hev L a w h hd
      refine wp_store_mid ty x y hop E 0 ls.toArray px py (by simpa using h.tE) (by simpa using hsz) (all_oneCell_toArray hs) ?_
      rw [hdst]
      have tt := touch_setCells E ls 0 w
      have sm := World.rangeAt_setCells_same w E 0 ls h.tE
      have nk : ∀ {j d v}, pv ks vals j = some (d, v) → j ≠ i := fun {j d v} hj => (hgood _ (pvm hj)).2.2
      exact ⟨h.sz, h.df, h.fix, fun j d' v' hj hLj => h.pure j d' v' hj (by rwa [upd_other _ _ (nk hj)] at hLj), h.tch.trans' tt (fun k _ h => .inr h), World.there_setCells h.tC _ _ _, World.there_setCells h.tE _ _ _, fun h1 => World.rangeAt_setCells_apart (h.sC (by rwa [upd_other _ _ hi] at h1)) _ _ _ (.inl hCE), fun _ => sm⟩
end RetN
end Go.Proofs.Ytmkkkknalldckaa
