/-
  Lemmas: HistG, RunW, EpochN, EpochAF, EpochX, EpochQ.
-/
import Derived.Test.YtdflicgjkleonaaTp13
import Derived.Test.YtdflicgjkleonaaTp21
import Derived.Test.YtdflicgjkleonaaTp33
import Derived.Test.YtdflicgjkleonaaTp20
import Derived.Deep.CutBlock
import Derived.Deep.CutRange
set_option linter.unusedVariables false
set_option linter.unusedSimpArgs false
set_option linter.unnecessarySimpa false
set_option maxRecDepth 20000
namespace Go.Proofs.Ytdflicgjkleonaa

variable {K : Kd} {P : Par} {f : Nat → Int}

theorem run_succ_cases (P : Par) (s : St K) (h0 : s.k = 0) (m : Nat) : (runSt P s (m + 1) = runSt P s m ∧ (runSt P s m).turn P < 0) ∨
    ∃ h : Nat, (runSt P s m).turn P = h ∧ h < P.nh ∧ (runSt P s m).done h < P.jn h ∧ (runSt P s m).k = m ∧ runSt P s (m + 1) = stepSt P (runSt P s m) h := by
  rcases turn_ok P (runSt P s m) with ⟨ht, _⟩ | ⟨h, ht, hh, hd⟩
  · left
    refine ⟨?_, by rw [ht]; decide⟩
    show (if _ then _ else _) = _
    rw [if_pos (by rw [ht]; decide)]
  · right
    refine ⟨h, ht, hh, hd, ?_, runSt_step ht⟩
    have hk := runSt_k P s h0 m
    rcases Nat.lt_or_ge (runSt P s m).k m with l | l
    · have := hk.2 l; rw [ht] at this; omega
    · omega

/-- Each step of a run. -/
theorem hist (P : Par) (s : St K) (h0 : s.k = 0) : ∀ m i, i < (runSt P s m).k → (runSt P s i).k = i ∧ (∃ h : Nat, (runSt P s i).turn P = h ∧ h < P.nh ∧ (runSt P s i).done h < P.jn h ∧ runSt P s (i + 1) = stepSt P (runSt P s i) h) ∧ (runSt P s m).s i = (runSt P s (i + 1)).s i
  | 0, i, hi => by have : (runSt P s 0).k = 0 := h0; omega
  | m + 1, i, hi => by
    rcases run_succ_cases P s h0 m with ⟨e, _⟩ | ⟨h, ht, hh, hd, hk, e⟩
    · rw [e] at hi ⊢
      exact hist P s h0 m i hi
    · have hk1 : (runSt P s (m + 1)).k = m + 1 := by rw [e]; show (runSt P s m).k + 1 = _; rw [hk]
      rw [hk1] at hi
      by_cases him : i = m
      · subst him
        exact ⟨hk, ⟨h, ht, hh, hd, e⟩, rfl⟩
      · obtain ⟨a, b, c⟩ := hist P s h0 m i (by rw [hk]; omega)
        refine ⟨a, b, ?_⟩
        rw [← c, e]
        show upd (runSt P s m).s (runSt P s m).k _ i = _
        rw [upd_other _ _ (by omega)]

theorem step_done (P : Par) (st : St K) (h h' : Nat) : st.done h' ≤ (stepSt P st h).done h' ∧ ∀ j, j < st.done h' → (stepSt P st h).ans h' j = st.ans h' j := by
  simp only [stepSt]
  split
  · by_cases e : h' = h
    · subst e
      rw [upd_same, upd_same]
      exact ⟨by omega, fun j hj => upd_other _ _ (by omega)⟩
    · rw [upd_other _ _ e, upd_other _ _ e]
      exact ⟨Nat.le_refl _, fun _ _ => rfl⟩
  · exact ⟨Nat.le_refl _, fun _ _ => rfl⟩

/-- What was told stays told. -/
theorem stays (P : Par) (s : St K) (h0 : s.k = 0) (i h' : Nat) : ∀ d, (runSt P s i).done h' ≤ (runSt P s (i + d)).done h' ∧ ∀ j, j < (runSt P s i).done h' → (runSt P s (i + d)).ans h' j = (runSt P s i).ans h' j
  | 0 => ⟨Nat.le_refl _, fun _ _ => rfl⟩
  | d + 1 => by
    obtain ⟨a, b⟩ := stays P s h0 i h' d
    rcases run_succ_cases P s h0 (i + d) with ⟨e, _⟩ | ⟨h, ht, hh, hd, hk, e⟩
    · rw [show i + (d + 1) = i + d + 1 by omega, e]
      exact ⟨a, b⟩
    · rw [show i + (d + 1) = i + d + 1 by omega, e]
      obtain ⟨x, y⟩ := step_done P (runSt P s (i + d)) h h'
      exact ⟨by omega, fun j hj => (y j (by omega)).trans (b j hj)⟩

/-- A run as long as its steps is the whole run. -/
theorem run_at_k (P : Par) (s : St K) (h0 : s.k = 0) (m : Nat) : runSt P s (runSt P s m).k = runSt P s m := by
  obtain ⟨h1, h2⟩ := runSt_k P s h0 m
  rcases Nat.lt_or_ge (runSt P s m).k m with l | l
  · -- the first time that none goes on
    induction m with
    | zero => omega
    | succ m ih =>
      rcases run_succ_cases P s h0 m with ⟨e, ht⟩ | ⟨h, ht, hh, hd, hk, e⟩
      · rw [e]
        obtain ⟨h1', h2'⟩ := runSt_k P s h0 m
        rcases Nat.lt_or_ge (runSt P s m).k m with l' | l'
        · exact ih h1' h2' l'
        · rw [show (runSt P s m).k = m by omega]
      · have : (runSt P s (m + 1)).k = m + 1 := by rw [e]; show (runSt P s m).k + 1 = _; rw [hk]
        omega
  · rw [show (runSt P s m).k = m by omega]

end Go.Proofs.Ytdflicgjkleonaa

namespace Go.Proofs.Ytdflicgjkleonaa

theorem wordsOf_bounds {n : Nat} {f : Nat → Int} (hf : ∀ i, i < n → 0 ≤ f i ∧ f i ≤ 18446744073709551615) {q : Stp} (hq : 0 ≤ q.put ∧ q.put ≤ 18446744073709551615) : ∀ i, i < n → 0 ≤ wordsOf n f q i ∧ wordsOf n f q i ≤ 18446744073709551615 := by
  intro i hi
  unfold wordsOf
  split
  · rename_i h
    unfold putF
    split
    · unfold stepOf
      rw [if_pos h]
      exact putBy_bounds (hf _ (by omega)) hq
    · exact hf i hi
  · exact hf i hi

theorem stepOf_had {n : Nat} {f : Nat → Int} (hf : ∀ i, i < n → 0 ≤ f i ∧ f i ≤ 18446744073709551615) (q : Stp) : 0 ≤ (stepOf n f q).had ∧ (stepOf n f q).had ≤ 18446744073709551615 := by
  unfold stepOf
  split
  · rename_i h
    exact hf _ (by omega)
  · exact ⟨Int.le_refl 0, by show (0 : Int) ≤ 18446744073709551615; decide⟩

/-- What a run keeps: its words are words, the task under way of a hand that goes on is one of its job's. -/
structure WR {K : Kd} (P : Par) (st : St K) : Prop where
  word : ∀ i, i < P.n → 0 ≤ st.f i ∧ st.f i ≤ 18446744073709551615
  wf : ∀ h, h < P.nh → st.done h < P.jn h → K.wf (P.jb h (st.done h)) (st.cur h)

theorem WR.step {K : Kd} {P : Par} {st : St K} (ok : K.Ok) (hput : ∀ j s, K.wf j s → 0 ≤ (K.req s).put ∧ (K.req s).put ≤ 18446744073709551615) (hfine : ∀ h, h < P.nh → ∀ j, j < P.jn h → K.fine (P.jb h j)) (W : WR P st) {h : Nat} (hh : h < P.nh) (hd : st.done h < P.jn h) : WR P (stepSt P st h) := by
  have w0 := W.wf h hh hd
  refine ⟨wordsOf_bounds W.word (hput _ _ w0), fun h' hh' hd' => ?_⟩
  by_cases e : h' = h
  · subst e
    by_cases he : K.ends (st.cur h') (stepOf P.n st.f (K.req (st.cur h'))) = true
    · have ed : (stepSt P st h').done = upd st.done h' (st.done h' + 1) := if_pos he
      have ec : (stepSt P st h').cur h' = K.init h' (P.jb h' (st.done h' + 1)) := by
        show upd st.cur h' _ h' = _
        rw [upd_same, if_pos he]
      rw [ed, upd_same] at hd' ⊢
      rw [ec]
      exact ok.init _ _ (hfine h' hh _ hd')
    · have ed : (stepSt P st h').done = st.done := if_neg he
      have ec : (stepSt P st h').cur h' = K.next (st.cur h') (stepOf P.n st.f (K.req (st.cur h'))) := by
        show upd st.cur h' _ h' = _
        rw [upd_same, if_neg he]
      rw [ed, ec]
      exact ok.next _ _ _ _ W.word w0 he
  · have ec : (stepSt P st h).cur h' = st.cur h' := upd_other _ _ e
    have ed : (stepSt P st h).done h' = st.done h' := by
      by_cases he : K.ends (st.cur h) (stepOf P.n st.f (K.req (st.cur h))) = true
      · have ed : (stepSt P st h).done = upd st.done h (st.done h + 1) := if_pos he
        rw [ed]; exact upd_other _ _ e
      · have ed : (stepSt P st h).done = st.done := if_neg he
        rw [ed]
    rw [ed] at hd' ⊢
    rw [ec]
    exact W.wf h' hh' hd'

theorem wr_run {K : Kd} {P : Par} {f : Nat → Int} (ok : K.Ok) (hput : ∀ j s, K.wf j s → 0 ≤ (K.req s).put ∧ (K.req s).put ≤ 18446744073709551615) (hfine : ∀ h, h < P.nh → ∀ j, j < P.jn h → K.fine (P.jb h j)) (hf : ∀ i, i < P.n → 0 ≤ f i ∧ f i ≤ 18446744073709551615) : ∀ m, WR P (runSt P (st0 K P f) m)
  | 0 => ⟨hf, fun h hh hd => ok.init _ _ (hfine h hh _ hd)⟩
  | m + 1 => by
    have W := wr_run ok hput hfine hf m
    rcases run_succ_cases P (st0 K P f) rfl m with ⟨e, _⟩ | ⟨h, ht, hh, hd, hk, e⟩
    · rw [e]; exact W
    · rw [e]; exact W.step ok hput hfine hh hd

/-- An answer that a run has told is still told at its end. -/
theorem told_later {K : Kd} (P : Par) (s : St K) (h0 : s.k = 0) {i m : Nat} (him : i ≤ m) (h' : Nat) : (runSt P s i).done h' ≤ (runSt P s m).done h' ∧ ∀ j, j < (runSt P s i).done h' → (runSt P s m).ans h' j = (runSt P s i).ans h' j := by
  obtain ⟨d, rfl⟩ : ∃ d, m = i + d := ⟨m - i, by omega⟩
  exact stays P s h0 i h' d
end Go.Proofs.Ytdflicgjkleonaa

namespace Go.Proofs.Ytdflicgjkleonaa
open Go.RowKit
namespace Epoch

def sm (f : Nat → Nat) : Nat → Nat
  | 0 => 0
  | n + 1 => sm f n + f n
theorem sm_congr {f g : Nat → Nat} : ∀ n, (∀ i, i < n → f i = g i) → sm f n = sm g n
  | 0, _ => rfl
  | n + 1, h => by
    show sm f n + f n = sm g n + g n
    rw [sm_congr n (fun i hi => h i (by omega)), h n (by omega)]
theorem sm_split (f : Nat → Nat) (h : Nat) : ∀ n, h < n → ∃ c, ∀ g : Nat → Nat, (∀ i, i < n → i ≠ h → g i = f i) → sm g n = c + g h
  | 0, hh => absurd hh (Nat.not_lt_zero h)
  | n + 1, hh => by
    by_cases e : h = n
    · subst e
      refine ⟨sm f h, fun g hg => ?_⟩
      show sm g h + g h = _
      rw [sm_congr h (fun i hi => hg i (by omega) (by omega))]
    · obtain ⟨c, hc⟩ := sm_split f h n (by omega)
      refine ⟨c + f n, fun g hg => ?_⟩
      show sm g n + g n = _
      rw [hc g (fun i hi hn => hg i (by omega) hn), hg n (by omega) (by omega)]
      omega
theorem sm_zero {f : Nat → Nat} : ∀ n, (∀ i, i < n → f i = 0) → sm f n = 0
  | 0, _ => rfl
  | n + 1, h => by
    show sm f n + f n = 0
    rw [sm_zero n (fun i hi => h i (by omega)), h n (by omega)]

def bit (p : Nat) (m : Int) : Nat := if m.toNat.testBit p = true then 1 else 0
def nz (v : Int) : Nat := if v = 0 then 0 else 1
/-- A place given up, by a job and its answer. -/
def gv (p : Nat) (j : Jb) (a : Ans) : Nat := if j.kind = 3 ∧ j.a = (p : Int) ∧ a.ok = true then 1 else 0
/-- A place reaped, by a job and its answer. -/
def rp (p : Nat) (j : Jb) (a : Ans) : Nat := if j.kind = 4 then bit p a.val else 0
theorem bit_le (p : Nat) (m : Int) : bit p m ≤ 1 := by unfold bit; split <;> omega
theorem bit_put (p : Nat) {m nx : Int} (hn : 0 ≤ nx) (h : bit nx.toNat m = 0) : bit p (mput m nx) = bit p m + (if (p : Int) = nx then 1 else 0) := by
  unfold bit at h ⊢
  unfold mput
  rw [Int.toNat_natCast, Nat.testBit_or, Nat.testBit_two_pow]
  by_cases e : (p : Int) = nx
  · have e' : nx.toNat = p := by omega
    rw [e'] at h
    rw [if_pos e, e']
    have hb : m.toNat.testBit p = false := by
      cases hb : m.toNat.testBit p with
      | false => rfl
      | true => rw [hb] at h; cases h
    rw [hb]
    simp
  · have e' : ¬ nx.toNat = p := by omega
    rw [if_neg e]
    simp [e']

/-- Counted over all that hands have told. -/
def tot (g : Jb → Ans → Nat) (P : Par) (done : Nat → Nat) (ans : Nat → Nat → Ans) : Nat := sm (fun h => sm (fun j => g (P.jb h j) (ans h j)) (done h)) P.nh
/-- Reaped by tasks under way. -/
def und (p : Nat) (P : Par) (done : Nat → Nat) (cur : Nat → EpS) : Nat := sm (fun h => if done h < P.jn h then bit p (cur h).mask else 0) P.nh

structure Iv (r : Nat) (P : Par) (f : Nat → Int) (done : Nat → Nat) (cur : Nat → EpS) (ans : Nat → Nat → Ans) (k : Nat) : Prop where
  wd : ∀ i, i < P.n → 0 ≤ f i ∧ f i ≤ 18446744073709551615
  f0 : 0 ≤ f 0 ∧ f 0 ≤ k
  wf : ∀ h, h < P.nh → done h < P.jn h → (cur h).j = P.jb h (done h) ∧ Wf r (cur h) ∧ (cur h).hand = (h : Int)
  ep : ∀ h, h < P.nh → done h < P.jn h → (cur h).e ≤ f 0 ∧ (cur h).f ≤ f 0
  gz : ∀ h, h < P.nh → done h < P.jn h → (cur h).st = 5 → ¬ (cur h).given = 0
  mb : ∀ h, h < P.nh → done h < P.jn h → ∀ p, bit p (cur h).mask = 1 → 4 ≤ (cur h).st ∧ (p : Int) < (cur h).nx
  av : ∀ h, h < P.nh → ∀ j, j < done h → 0 ≤ (ans h j).val ∧ (ans h j).val ≤ 18446744073709551615
  cn : ∀ p, p < r → tot (gv p) P done ans = tot (rp p) P done ans + und p P done cur + nz (f (9 + p))

section
variable {r : Nat} {P : Par} {f f' : Nat → Int} {done : Nat → Nat} {cur : Nat → EpS} {ans : Nat → Nat → Ans} {k h : Nat}

theorem Iv.goes (I : Iv r P f done cur ans k) (hh : h < P.nh) (hd : done h < P.jn h) (hw : ∀ i, i < P.n → 0 ≤ f' i ∧ f' i ≤ 18446744073709551615) {s' : EpS} (hj : s'.j = (cur h).j) (W : Wf r s') (hha : s'.hand = (cur h).hand) (h0 : f 0 ≤ f' 0) (h1 : f' 0 ≤ (k : Int) + 1) (ep : s'.e ≤ f' 0 ∧ s'.f ≤ f' 0) (gz : s'.st = 5 → ¬ s'.given = 0)
    (mk : ∀ p, bit p s'.mask = 1 → 4 ≤ s'.st ∧ (p : Int) < s'.nx) (cn : ∀ p, p < r → bit p (cur h).mask + nz (f (9 + p)) = bit p s'.mask + nz (f' (9 + p))) : Iv r P f' done (upd cur h s') ans (k + 1) := by
  have at_ : ∀ i, i ≠ h → upd cur h s' i = cur i := fun i hi => upd_other _ _ hi
  refine ⟨hw, ⟨by have := I.f0.1; omega, by omega⟩, fun i hi hl => ?_, fun i hi hl => ?_, fun i hi hl => ?_, fun i hi hl => ?_, I.av, fun p hp => ?_⟩
  · by_cases e : i = h
    · subst e; rw [upd_same]; obtain ⟨a, b, c⟩ := I.wf i hi hl; exact ⟨hj.trans a, W, hha.trans c⟩
    · rw [at_ i e]; exact I.wf i hi hl
  · by_cases e : i = h
    · subst e; rw [upd_same]; exact ep
    · rw [at_ i e]; have := I.ep i hi hl; exact ⟨by omega, by omega⟩
  · by_cases e : i = h
    · subst e; rw [upd_same]; exact gz
    · rw [at_ i e]; exact I.gz i hi hl
  · by_cases e : i = h
    · subst e; rw [upd_same]; exact mk
    · rw [at_ i e]; exact I.mb i hi hl
  · obtain ⟨c, hc⟩ := sm_split (fun h => if done h < P.jn h then bit p (cur h).mask else 0) h P.nh hh
    have u1 := hc _ (fun i _ _ => rfl)
    have u2 := hc (fun i => if done i < P.jn i then bit p (upd cur h s' i).mask else 0) (fun i _ hn => by rw [at_ i hn])
    simp only [if_pos hd, upd_same] at u1 u2
    have i1 := I.cn p hp
    have i2 := cn p hp
    unfold und at i1 ⊢
    omega

theorem Iv.over (I : Iv r P f done cur ans k) (hh : h < P.nh) (hd : done h < P.jn h) (hw : ∀ i, i < P.n → 0 ≤ f' i ∧ f' i ≤ 18446744073709551615) {a : Ans} {s0 : EpS} (hav : 0 ≤ a.val ∧ a.val ≤ 18446744073709551615) (h0 : f 0 ≤ f' 0) (h1 : f' 0 ≤ (k : Int) + 1)
    (hs0 : s0 = einit h (P.jb h (done h + 1))) (hwf : done h + 1 < P.jn h → Wf r s0 ∧ (0 ≤ (h : Int) ∧ (h : Int) < 8)) (cn : ∀ p, p < r → nz (f (9 + p)) + gv p (P.jb h (done h)) a + bit p (cur h).mask = rp p (P.jb h (done h)) a + nz (f' (9 + p))) :
    Iv r P f' (upd done h (done h + 1)) (upd cur h s0) (upd ans h (upd (ans h) (done h) a)) (k + 1) := by
  have at_ : ∀ i, i ≠ h → upd cur h s0 i = cur i := fun i hi => upd_other _ _ hi
  have dt : ∀ i, i ≠ h → upd done h (done h + 1) i = done i := fun i hi => upd_other _ _ hi
  refine ⟨hw, ⟨by have := I.f0.1; omega, by omega⟩, fun i hi hl => ?_, fun i hi hl => ?_, fun i hi hl => ?_, fun i hi hl => ?_, fun i hi q hq => ?_, fun p hp => ?_⟩
  · by_cases e : i = h
    · subst e
      rw [upd_same] at hl ⊢
      rw [upd_same]
      obtain ⟨W, hb⟩ := hwf hl
      subst hs0
      exact ⟨rfl, W, by show (if 0 ≤ (i : Int) ∧ (i : Int) < 8 then (i : Int) else 0) = i; rw [if_pos hb]⟩
    · rw [dt i e] at hl ⊢; rw [at_ i e]; exact I.wf i hi hl
  · by_cases e : i = h
    · subst e; rw [upd_same]; subst hs0; have := I.f0.1; exact ⟨by show (0 : Int) ≤ _; omega, by show (0 : Int) ≤ _; omega⟩
    · rw [dt i e] at hl; rw [at_ i e]; have := I.ep i hi hl; exact ⟨by omega, by omega⟩
  · by_cases e : i = h
    · subst e; rw [upd_same]; subst hs0; intro h; exact absurd h (by show ¬ (0 : Int) = 5; decide)
    · rw [dt i e] at hl; rw [at_ i e]; exact I.gz i hi hl
  · by_cases e : i = h
    · subst e; rw [upd_same]; subst hs0; intro p hp; exact absurd hp (by show ¬ bit p 0 = 1; simp [bit])
    · rw [dt i e] at hl; rw [at_ i e]; exact I.mb i hi hl
  · by_cases e : i = h
    · subst e
      rw [upd_same] at hq
      rw [upd_same]
      by_cases e2 : q = done i
      · subst e2; rw [upd_same]; exact hav
      · rw [upd_other _ _ e2]; exact I.av i hi q (by omega)
    · rw [dt i e] at hq; rw [upd_other _ _ e]; exact I.av i hi q hq
  · obtain ⟨c, hc⟩ := sm_split (fun h => if done h < P.jn h then bit p (cur h).mask else 0) h P.nh hh
    have u1 := hc _ (fun i _ _ => rfl)
    have u2 := hc (fun i => if upd done h (done h + 1) i < P.jn i then bit p (upd cur h s0 i).mask else 0) (fun i _ hn => by rw [at_ i hn, dt i hn])
    simp only [if_pos hd, upd_same] at u1 u2
    have z : bit p s0.mask = 0 := by subst hs0; show bit p 0 = 0; simp [bit]
    rw [z, ite_self] at u2
    have tt : ∀ g : Jb → Ans → Nat, tot g P (upd done h (done h + 1)) (upd ans h (upd (ans h) (done h) a)) = tot g P done ans + g (P.jb h (done h)) a := fun g => by
      obtain ⟨c', hc'⟩ := sm_split (fun h => sm (fun j => g (P.jb h j) (ans h j)) (done h)) h P.nh hh
      have v1 := hc' _ (fun i _ _ => rfl)
      have v2 := hc' (fun i => sm (fun j => g (P.jb i j) (upd ans h (upd (ans h) (done h) a) i j)) (upd done h (done h + 1) i)) (fun i _ hn => by rw [dt i hn]; exact sm_congr _ (fun j _ => by rw [upd_other _ _ hn]))
      simp only [upd_same] at v2
      have v3 : sm (fun j => g (P.jb h j) (upd (ans h) (done h) a j)) (done h + 1) = sm (fun j => g (P.jb h j) (ans h j)) (done h) + g (P.jb h (done h)) a := by
        show sm _ (done h) + g _ (upd (ans h) (done h) a (done h)) = _
        rw [upd_same, sm_congr (done h) (fun j hj => by rw [upd_other _ _ (show j ≠ done h by omega)])]
      unfold tot
      omega
    have i1 := I.cn p hp
    have i2 := cn p hp
    rw [tt, tt]
    unfold und at i1 ⊢
    omega
end

/-- What a load tells. -/
theorem ld_step {n : Nat} {f : Nat → Int} {a : Nat} (h : Int) (ha : a < n) : stepOf n f ⟨h, 1, (a : Int), 0, 0, true⟩ = ⟨h, 1, a, f a, f a, true⟩ := by
  have : (0 : Int) ≤ a ∧ (a : Int) < n := by omega
  simp [stepOf, this, actOf, putBy]
theorem ld_words {n : Nat} {f : Nat → Int} {a : Nat} (h : Int) (ha : a < n) : wordsOf n f ⟨h, 1, (a : Int), 0, 0, true⟩ = f := by
  unfold wordsOf
  have : (0 : Int) ≤ a ∧ (a : Int) < n := by omega
  rw [if_pos this, ld_step h ha]
  funext j
  show (if j = (a : Int).toNat then f a else f j) = f j
  split
  · rename_i e; rw [e]; simp
  · rfl
theorem st_step {n : Nat} {f : Nat → Int} {a : Nat} (h v : Int) (ha : a < n) : stepOf n f ⟨h, 2, (a : Int), 0, v, true⟩ = ⟨h, 2, a, f a, v, true⟩ := by
  have : (0 : Int) ≤ a ∧ (a : Int) < n := by omega
  simp [stepOf, this, actOf, putBy]
theorem st_words {n : Nat} {f : Nat → Int} {a : Nat} (h v : Int) (ha : a < n) : wordsOf n f ⟨h, 2, (a : Int), 0, v, true⟩ = putF f a v := by
  unfold wordsOf
  have : (0 : Int) ≤ a ∧ (a : Int) < n := by omega
  rw [if_pos this, st_step h v ha]
  simp
theorem cas_yes {n : Nat} {f : Nat → Int} {a : Nat} (h o v : Int) (ha : a < n) (e : f a = o) : stepOf n f ⟨h, 5, (a : Int), o, v, true⟩ = ⟨h, 5, a, f a, v, true⟩ ∧ wordsOf n f ⟨h, 5, (a : Int), o, v, true⟩ = putF f a v := by
  have t : (0 : Int) ≤ a ∧ (a : Int) < n := by omega
  have x : stepOf n f ⟨h, 5, (a : Int), o, v, true⟩ = ⟨h, 5, a, f a, v, true⟩ := by simp [stepOf, t, actOf, putBy, e]
  refine ⟨x, ?_⟩
  unfold wordsOf
  rw [if_pos t, x]
  simp
theorem cas_no {n : Nat} {f : Nat → Int} {a : Nat} (h o v : Int) (ha : a < n) (e : ¬ f a = o) : stepOf n f ⟨h, 5, (a : Int), o, v, true⟩ = ⟨h, 5, a, f a, f a, false⟩ ∧ wordsOf n f ⟨h, 5, (a : Int), o, v, true⟩ = f := by
  have t : (0 : Int) ≤ a ∧ (a : Int) < n := by omega
  have x : stepOf n f ⟨h, 5, (a : Int), o, v, true⟩ = ⟨h, 5, a, f a, f a, false⟩ := by simp [stepOf, t, actOf, putBy, e]
  refine ⟨x, ?_⟩
  unfold wordsOf
  rw [if_pos t, x]
  funext j
  show (if j = (a : Int).toNat then f a else f j) = f j
  split
  · rename_i e; rw [e]; simp
  · rfl
theorem putF_other {f : Nat → Int} {a j : Nat} {v : Int} (h : j ≠ a) : putF f a v j = f j := if_neg h
theorem putF_same {f : Nat → Int} {a : Nat} {v : Int} : putF f a v a = v := if_pos rfl

/-- Word 0 and the step that is told. -/
theorem word0 {n : Nat} (hn : 0 < n) (f : Nat → Int) (q : Stp) : (q.at_ = 0 → (stepOf n f q).had = f 0 ∧ (stepOf n f q).put = wordsOf n f q 0) ∧ (¬ q.at_ = 0 → wordsOf n f q 0 = f 0) := by
  constructor
  · intro e
    have t : 0 ≤ q.at_ ∧ q.at_ < n := by omega
    unfold wordsOf
    rw [if_pos t, e]
    refine ⟨by unfold stepOf; rw [if_pos t, e]; rfl, ?_⟩
    exact (if_pos (show (0 : Nat) = (0 : Int).toNat from rfl)).symm
  · intro e
    unfold wordsOf
    split
    · exact putF_other (by omega)
    · rfl

theorem step_at (n : Nat) (f : Nat → Int) (q : Stp) : (stepOf n f q).at_ = q.at_ ∧ (stepOf n f q).hand = q.hand := by unfold stepOf; split <;> exact ⟨rfl, rfl⟩

theorem told_b {r : Nat} {s : EpS} {x : Stp} (H : Wf r s) (hr : r ≤ 64) (he : eends r s x = true) : 0 ≤ (enext r s x).told.val ∧ (enext r s x).told.val ≤ 18446744073709551615 := by
  have he' := H.e
  have hm := H.mask
  have hz : (0 : Int) ≤ 0 ∧ (0 : Int) ≤ 18446744073709551615 := by omega
  unfold eends at he
  unfold enext
  by_cases k1 : s.j.kind = 1
  · rw [if_pos k1] at he ⊢
    by_cases s0 : s.st = 0
    · rw [if_pos s0] at he; cases he
    · rw [if_neg s0]; exact he'
  rw [if_neg k1] at he ⊢
  by_cases k2 : s.j.kind = 2
  · rw [if_pos k2]; exact hz
  rw [if_neg k2] at he ⊢
  by_cases k3 : s.j.kind = 3
  · rw [if_pos k3] at he ⊢
    by_cases s0 : s.st = 0
    · rw [if_pos s0] at he; cases he
    · rw [if_neg s0]; exact hz
  rw [if_neg k3] at he ⊢
  by_cases s4 : s.st = 4
  · rw [if_pos s4] at he
    have n0 : ¬ s.st = 0 := by omega
    have n1 : ¬ s.st = 1 := by omega
    have n2 : ¬ s.st = 2 := by omega
    have n3 : ¬ s.st = 3 := by omega
    rw [if_neg n0, if_neg n1, if_neg n2, if_neg n3, if_pos s4]
    by_cases d : due x.had s.f
    · rw [if_pos d] at he; cases he
    · rw [if_neg d] at he ⊢
      have a9 : ¬ s.nx + 1 < r := by simpa using he
      simp only [if_neg a9]
      exact hm
  rw [if_neg s4] at he
  by_cases s5 : s.st = 5
  · rw [if_pos s5] at he
    have n0 : ¬ s.st = 0 := by omega
    have n1 : ¬ s.st = 1 := by omega
    have n2 : ¬ s.st = 2 := by omega
    have n3 : ¬ s.st = 3 := by omega
    rw [if_neg n0, if_neg n1, if_neg n2, if_neg n3, if_neg s4]
    have a9 : ¬ s.nx + 1 < r := by simpa using he
    simp only [if_neg a9]
    split
    · exact mput_bounds hm ⟨H.nx.1, by have := H.nx4 (by omega); omega⟩
    · exact hm
  · rw [if_neg s5] at he; cases he

/-- A step of a run. -/
theorem Iv.step {r : Nat} {P : Par} {f : Nat → Int} {done : Nat → Nat} {cur : Nat → EpS} {ans : Nat → Nat → Ans} {k h : Nat} (hr1 : 1 ≤ r) (hr2 : r ≤ 64) (hn : P.n = 9 + r) (hok : ∀ h, h < P.nh → ∀ j, j < P.jn h → eerr r h (P.jb h j) = 0 ∧ (P.jb h j).wf) (hk : k ≤ 65536) (I : Iv r P f done cur ans k) (hh : h < P.nh) (hd : done h < P.jn h) {x : Stp} {f' : Nat → Int} (hx : stepOf P.n f (ereq (cur h)) = x) (hf : wordsOf P.n f (ereq (cur h)) = f') :
    Iv r P f' (if eends r (cur h) x = true then upd done h (done h + 1) else done) (upd cur h (if eends r (cur h) x = true then einit h (P.jb h (done h + 1)) else enext r (cur h) x)) (if eends r (cur h) x = true then upd ans h (upd (ans h) (done h) (enext r (cur h) x).told) else ans) (k + 1) ∧ (f' 0 = f 0 ∨ f' 0 = u64 (f 0 + 1)) := by
  obtain ⟨hj, W, hha⟩ := I.wf h hh hd
  obtain ⟨ep1, ep2⟩ := I.ep h hh hd
  have gz := I.gz h hh hd
  have M := I.mb h hh hd
  have hf0 := I.f0
  have hxb := had_bounds I.wd (ereq (cur h))
  have hwd := wordsOf_bounds I.wd (ereq_put W)
  rw [hx] at hxb
  rw [hf] at hwd
  have hhb : 0 ≤ (h : Int) ∧ (h : Int) < 8 := (eerr_cases (hok h hh _ hd).1).2
  have hini : done h + 1 < P.jn h → Wf r (einit h (P.jb h (done h + 1))) ∧ (0 ≤ (h : Int) ∧ (h : Int) < 8) := fun hl => ⟨wf_init (by omega) _ ⟨(hok h hh _ hl).2, h, (hok h hh _ hl).1⟩, hhb⟩
  have bz : (cur h).st < 4 → ∀ p, bit p (cur h).mask = 0 := fun hs p => by
    have := bit_le p (cur h).mask
    rcases Nat.lt_or_ge (bit p (cur h).mask) 1 with l | l
    · omega
    · exact absurd (M p (by omega)).1 (by omega)
  have own : ∀ v, wordsOf P.n f ⟨(cur h).hand, 2, 1 + (cur h).hand, 0, v, true⟩ = putF f (1 + h) v := fun v => by
    rw [hha]
    have := st_words (n := P.n) (f := f) (a := 1 + h) (h : Int) v (by omega)
    simpa using this
  rcases W.st with ⟨kk, hst⟩ | ⟨kk, hst⟩ | ⟨kk, hja, hst⟩ | ⟨kk, hst⟩
  · rcases hst with hst | hst
    · skip
      have e4 : ereq (cur h) = ⟨(cur h).hand, 1, ((0 : Nat) : Int), 0, 0, true⟩ := by simp [ereq, kk, hst]
      rw [e4] at hx hf
      rw [ld_step _ (by omega)] at hx
      rw [ld_words _ (by omega)] at hf
      subst hf
      subst hx
      have e7 : enext r (cur h) ⟨(cur h).hand, 1, ((0 : Nat) : Int), f 0, f 0, true⟩ = { cur h with e := f 0, st := 1 } := by simp [enext, kk, hst]
      have e5 : eends r (cur h) ⟨(cur h).hand, 1, ((0 : Nat) : Int), f 0, f 0, true⟩ = false := by simp [eends, kk, hst]
      have W' := enext_wf (r := r) ⟨by omega, by omega⟩ W hxb (by rw [e5]; decide)
      have ej := enext_j r (cur h) ⟨(cur h).hand, 1, ((0 : Nat) : Int), f 0, f 0, true⟩
      have eh := enext_hand r (cur h) ⟨(cur h).hand, 1, ((0 : Nat) : Int), f 0, f 0, true⟩
      rw [e7] at W' ej eh
      rw [e5, e7]
      exact ⟨I.goes hh hd hwd ej W' eh (Int.le_refl _) (by omega) ⟨Int.le_refl _, ep2⟩ (fun h => absurd h (by show ¬ (1 : Int) = 5; decide)) (fun p hp => absurd (bz (by omega) p) (by show ¬ bit p (cur h).mask = 0; have : bit p (cur h).mask = 1 := hp; omega)) (fun p hp => rfl), .inl rfl⟩
    · skip
      have e4 : ereq (cur h) = ⟨(cur h).hand, 2, 1 + (cur h).hand, 0, u64 ((cur h).e + 1), true⟩ := by simp [ereq, kk, hst]
      rw [e4, own] at hf
      have z0 : f' 0 = f 0 := by rw [← hf]; exact putF_other (by omega)
      have zp : ∀ p, f' (9 + p) = f (9 + p) := fun p => by rw [← hf]; exact putF_other (by omega)
      have e5 : eends r (cur h) x = true := by simp [eends, kk, hst]
      rw [e5]
      refine ⟨?_, .inl z0⟩
      simp only [if_true]
      refine I.over hh hd hwd (told_b W hr2 e5) (by omega) (by omega) rfl hini (fun p hp => ?_)
      rw [zp p, ← hj]
      have b := bz (by omega) p
      simp [gv, rp, kk, b]
  · skip
    have e4 : ereq (cur h) = ⟨(cur h).hand, 2, 1 + (cur h).hand, 0, 0, true⟩ := by simp [ereq, kk]
    rw [e4, own] at hf
    have z0 : f' 0 = f 0 := by rw [← hf]; exact putF_other (by omega)
    have zp : ∀ p, f' (9 + p) = f (9 + p) := fun p => by rw [← hf]; exact putF_other (by omega)
    have e5 : eends r (cur h) x = true := by simp [eends, kk]
    rw [e5]
    refine ⟨?_, .inl z0⟩
    simp only [if_true]
    refine I.over hh hd hwd (told_b W hr2 e5) (by omega) (by omega) rfl hini (fun p hp => ?_)
    rw [zp p, ← hj]
    have b := bz (by omega) p
    simp [gv, rp, kk, b]
  · rcases hst with hst | hst
    · skip
      have e4 : ereq (cur h) = ⟨(cur h).hand, 1, ((0 : Nat) : Int), 0, 0, true⟩ := by simp [ereq, kk, hst]
      rw [e4] at hx hf
      rw [ld_step _ (by omega)] at hx
      rw [ld_words _ (by omega)] at hf
      subst hf
      subst hx
      have e7 : enext r (cur h) ⟨(cur h).hand, 1, ((0 : Nat) : Int), f 0, f 0, true⟩ = { cur h with e := f 0, st := 1 } := by simp [enext, kk, hst]
      have e5 : eends r (cur h) ⟨(cur h).hand, 1, ((0 : Nat) : Int), f 0, f 0, true⟩ = false := by simp [eends, kk, hst]
      have W' := enext_wf (r := r) ⟨by omega, by omega⟩ W hxb (by rw [e5]; decide)
      have ej := enext_j r (cur h) ⟨(cur h).hand, 1, ((0 : Nat) : Int), f 0, f 0, true⟩
      have eh := enext_hand r (cur h) ⟨(cur h).hand, 1, ((0 : Nat) : Int), f 0, f 0, true⟩
      rw [e7] at W' ej eh
      rw [e5, e7]
      exact ⟨I.goes hh hd hwd ej W' eh (Int.le_refl _) (by omega) ⟨Int.le_refl _, ep2⟩ (fun h => absurd h (by show ¬ (1 : Int) = 5; decide)) (fun p hp => absurd (bz (by omega) p) (by show ¬ bit p (cur h).mask = 0; have : bit p (cur h).mask = 1 := hp; omega)) (fun p hp => rfl), .inl rfl⟩
    · obtain ⟨p0, hp0⟩ : ∃ p0 : Nat, (cur h).j.a = p0 := ⟨(cur h).j.a.toNat, by omega⟩
      have e4 : ereq (cur h) = ⟨(cur h).hand, 5, ((9 + p0 : Nat) : Int), 0, u64 ((cur h).e + 1), true⟩ := by simp [ereq, kk, hst, hp0]
      have eu : u64 ((cur h).e + 1) = (cur h).e + 1 := u64_id (by have := W.e; omega)
      rw [e4] at hx hf
      by_cases hc : f (9 + p0) = 0
      · obtain ⟨c1, c2⟩ := cas_yes (n := P.n) (f := f) (a := 9 + p0) (cur h).hand 0 (u64 ((cur h).e + 1)) (by omega) hc
        rw [c1] at hx
        rw [c2] at hf
        have z0 : f' 0 = f 0 := by rw [← hf]; exact putF_other (by omega)
        have e5 : eends r (cur h) x = true := by simp [eends, kk, hst]
        rw [e5]
        refine ⟨?_, .inl z0⟩
        simp only [if_true]
        refine I.over hh hd hwd (told_b W hr2 e5) (by omega) (by omega) rfl hini (fun p hp => ?_)
        have ea : (enext r (cur h) x).told = ⟨true, 0⟩ := by rw [← hx]; simp [enext, kk, hst]
        rw [ea, ← hj]
        have b := bz (by omega) p
        by_cases e : p = p0
        · subst e
          have z1 : f' (9 + p) = (cur h).e + 1 := by rw [← hf, putF_same, eu]
          have : ¬ (cur h).e + 1 = 0 := by have := W.e; omega
          simp [gv, rp, kk, b, hp0, z1, hc, nz, this]
        · have z1 : f' (9 + p) = f (9 + p) := by rw [← hf]; exact putF_other (by omega)
          have e' : ¬ (p0 : Int) = p := by omega
          simp [gv, rp, kk, b, hp0, z1, e']
      · obtain ⟨c1, c2⟩ := cas_no (n := P.n) (f := f) (a := 9 + p0) (cur h).hand 0 (u64 ((cur h).e + 1)) (by omega) hc
        rw [c1] at hx
        rw [c2] at hf
        subst hf
        have e5 : eends r (cur h) x = true := by simp [eends, kk, hst]
        rw [e5]
        refine ⟨?_, .inl rfl⟩
        simp only [if_true]
        refine I.over hh hd hwd (told_b W hr2 e5) (Int.le_refl _) (by omega) rfl hini (fun p hp => ?_)
        have ea : (enext r (cur h) x).told = ⟨false, 0⟩ := by rw [← hx]; simp [enext, kk, hst]
        rw [ea, ← hj]
        have b := bz (by omega) p
        simp [gv, rp, kk, b]
  · have n1 : ¬ (cur h).j.kind = 1 := by omega
    have n2 : ¬ (cur h).j.kind = 2 := by omega
    have n3 : ¬ (cur h).j.kind = 3 := by omega
    obtain hst | hst | hst | hst | hst | hst : (cur h).st = 0 ∨ (cur h).st = 1 ∨ (cur h).st = 2 ∨ (cur h).st = 3 ∨ (cur h).st = 4 ∨ (cur h).st = 5 := by omega
    · skip
      have e4 : ereq (cur h) = ⟨(cur h).hand, 1, ((0 : Nat) : Int), 0, 0, true⟩ := by simp [ereq, n1, n2, n3, hst]
      rw [e4] at hx hf
      rw [ld_step _ (by omega)] at hx
      rw [ld_words _ (by omega)] at hf
      subst hf
      subst hx
      have e7 : enext r (cur h) ⟨(cur h).hand, 1, ((0 : Nat) : Int), f 0, f 0, true⟩ = { cur h with e := f 0, nx := 0, st := 1 } := by simp [enext, n1, n2, n3, hst]
      have e5 : eends r (cur h) ⟨(cur h).hand, 1, ((0 : Nat) : Int), f 0, f 0, true⟩ = false := by simp [eends, n1, n2, n3, hst]
      have W' := enext_wf (r := r) ⟨by omega, by omega⟩ W hxb (by rw [e5]; decide)
      have ej := enext_j r (cur h) ⟨(cur h).hand, 1, ((0 : Nat) : Int), f 0, f 0, true⟩
      have eh := enext_hand r (cur h) ⟨(cur h).hand, 1, ((0 : Nat) : Int), f 0, f 0, true⟩
      rw [e7] at W' ej eh
      rw [e5, e7]
      exact ⟨I.goes hh hd hwd ej W' eh (Int.le_refl _) (by omega) ⟨Int.le_refl _, ep2⟩ (fun h => absurd h (by show ¬ (1 : Int) = 5; decide)) (fun p hp => absurd (bz (by omega) p) (by show ¬ bit p (cur h).mask = 0; have : bit p (cur h).mask = 1 := hp; omega)) (fun p hp => rfl), .inl rfl⟩
    · obtain ⟨q, hq⟩ : ∃ q : Nat, (cur h).nx = q := ⟨(cur h).nx.toNat, by have := W.nx; omega⟩
      have hq8 := W.nx1 hst
      have e4 : ereq (cur h) = ⟨(cur h).hand, 1, ((1 + q : Nat) : Int), 0, 0, true⟩ := by simp [ereq, kk, hst, hq]
      rw [e4] at hx hf
      rw [ld_words _ (by omega)] at hf
      subst hf
      obtain ⟨v, hv, hv2⟩ : ∃ v : Int, (if bars x.had (cur h).e then 3 else if (cur h).nx + 1 = 8 then 2 else 1) = v ∧ (v = 3 ∨ v = 2 ∨ v = 1) := ⟨_, rfl, by
        split
        · exact .inl rfl
        · split
          · exact .inr (.inl rfl)
          · exact .inr (.inr rfl)⟩
      have e7 : enext r (cur h) x = { cur h with nx := (cur h).nx + 1, st := v } := by rw [← hv]; simp [enext, kk, hst]
      have e5 : eends r (cur h) x = false := by simp [eends, kk, hst]
      have W' := enext_wf (r := r) ⟨by omega, by omega⟩ W hxb (by rw [e5]; decide)
      have ej := enext_j r (cur h) x
      have eh := enext_hand r (cur h) x
      rw [e7] at W' ej eh
      rw [e5, e7]
      exact ⟨I.goes hh hd hwd ej W' eh (Int.le_refl _) (by omega) ⟨ep1, ep2⟩ (fun h => absurd h (by show ¬ v = 5; omega)) (fun p hp => absurd (bz (by omega) p) (by show ¬ bit p (cur h).mask = 0; have : bit p (cur h).mask = 1 := hp; omega)) (fun p hp => rfl), .inl rfl⟩
    · have e4 : ereq (cur h) = ⟨(cur h).hand, 5, ((0 : Nat) : Int), (cur h).e, u64 ((cur h).e + 1), true⟩ := by simp [ereq, kk, hst]
      have eu : u64 ((cur h).e + 1) = (cur h).e + 1 := u64_id (by have := W.e; omega)
      have e7 : enext r (cur h) x = { cur h with st := 3 } := by simp [enext, kk, hst]
      rw [e4] at hx hf
      by_cases hc : f 0 = (cur h).e
      · obtain ⟨c1, c2⟩ := cas_yes (n := P.n) (f := f) (a := 0) (cur h).hand (cur h).e (u64 ((cur h).e + 1)) (by omega) hc
        rw [c2] at hf
        have z0 : f' 0 = f 0 + 1 := by rw [← hf, putF_same, eu, hc]
        have zp : ∀ p, f' (9 + p) = f (9 + p) := fun p => by rw [← hf]; exact putF_other (by omega)
        have e5 : eends r (cur h) x = false := by simp [eends, kk, hst]
        have W' := enext_wf (r := r) ⟨by omega, by omega⟩ W hxb (by rw [e5]; decide)
        have ej := enext_j r (cur h) x
        have eh := enext_hand r (cur h) x
        rw [e7] at W' ej eh
        rw [e5, e7]
        exact ⟨I.goes hh hd hwd ej W' eh (by omega) (by omega) ⟨by show (cur h).e ≤ _; omega, by show (cur h).f ≤ _; omega⟩ (fun h => absurd h (by show ¬ (3 : Int) = 5; decide)) (fun p hp => absurd (bz (by omega) p) (by show ¬ bit p (cur h).mask = 0; have : bit p (cur h).mask = 1 := hp; omega)) (fun p hp => by show bit p (cur h).mask + _ = bit p (cur h).mask + _; rw [zp p]), .inr (by rw [z0]; exact (u64_id (by omega)).symm)⟩
      · obtain ⟨c1, c2⟩ := cas_no (n := P.n) (f := f) (a := 0) (cur h).hand (cur h).e (u64 ((cur h).e + 1)) (by omega) hc
        rw [c2] at hf
        subst hf
        have e5 : eends r (cur h) x = false := by simp [eends, kk, hst]
        have W' := enext_wf (r := r) ⟨by omega, by omega⟩ W hxb (by rw [e5]; decide)
        have ej := enext_j r (cur h) x
        have eh := enext_hand r (cur h) x
        rw [e7] at W' ej eh
        rw [e5, e7]
        exact ⟨I.goes hh hd hwd ej W' eh (Int.le_refl _) (by omega) ⟨ep1, ep2⟩ (fun h => absurd h (by show ¬ (3 : Int) = 5; decide)) (fun p hp => absurd (bz (by omega) p) (by show ¬ bit p (cur h).mask = 0; have : bit p (cur h).mask = 1 := hp; omega)) (fun p hp => rfl), .inl rfl⟩
    · skip
      have e4 : ereq (cur h) = ⟨(cur h).hand, 1, ((0 : Nat) : Int), 0, 0, true⟩ := by simp [ereq, n1, n2, n3, hst]
      rw [e4] at hx hf
      rw [ld_step _ (by omega)] at hx
      rw [ld_words _ (by omega)] at hf
      subst hf
      subst hx
      have e7 : enext r (cur h) ⟨(cur h).hand, 1, ((0 : Nat) : Int), f 0, f 0, true⟩ = { cur h with f := f 0, nx := 0, st := 4 } := by simp [enext, n1, n2, n3, hst]
      have e5 : eends r (cur h) ⟨(cur h).hand, 1, ((0 : Nat) : Int), f 0, f 0, true⟩ = false := by simp [eends, n1, n2, n3, hst]
      have W' := enext_wf (r := r) ⟨by omega, by omega⟩ W hxb (by rw [e5]; decide)
      have ej := enext_j r (cur h) ⟨(cur h).hand, 1, ((0 : Nat) : Int), f 0, f 0, true⟩
      have eh := enext_hand r (cur h) ⟨(cur h).hand, 1, ((0 : Nat) : Int), f 0, f 0, true⟩
      rw [e7] at W' ej eh
      rw [e5, e7]
      exact ⟨I.goes hh hd hwd ej W' eh (Int.le_refl _) (by omega) ⟨ep1, Int.le_refl _⟩ (fun h => absurd h (by show ¬ (4 : Int) = 5; decide)) (fun p hp => absurd (bz (by omega) p) (by show ¬ bit p (cur h).mask = 0; have : bit p (cur h).mask = 1 := hp; omega)) (fun p hp => rfl), .inl rfl⟩
    · obtain ⟨q, hq⟩ : ∃ q : Nat, (cur h).nx = q := ⟨(cur h).nx.toNat, by have := W.nx; omega⟩
      have hq4 := W.nx4 (by omega)
      have e4 : ereq (cur h) = ⟨(cur h).hand, 1, ((9 + q : Nat) : Int), 0, 0, true⟩ := by simp [ereq, kk, hst, hq]
      rw [e4] at hx hf
      rw [ld_words _ (by omega)] at hf
      subst hf
      by_cases d : due x.had (cur h).f
      · have e7 : enext r (cur h) x = { cur h with w := x.had, given := x.had, st := 5 } := by simp [enext, kk, hst, d]
        have e5 : eends r (cur h) x = false := by simp [eends, kk, hst, d]
        have W' := enext_wf (r := r) ⟨by omega, by omega⟩ W hxb (by rw [e5]; decide)
        have ej := enext_j r (cur h) x
        have eh := enext_hand r (cur h) x
        rw [e7] at W' ej eh
        rw [e5, e7]
        exact ⟨I.goes hh hd hwd ej W' eh (Int.le_refl _) (by omega) ⟨ep1, ep2⟩ (fun _ => d.1) (fun p hp => ⟨by show (4 : Int) ≤ 5; decide, (M p hp).2⟩) (fun p hp => rfl), .inl rfl⟩
      · by_cases a9 : (cur h).nx + 1 < r
        · have e7 : enext r (cur h) x = { cur h with w := x.had, nx := (cur h).nx + 1 } := by simp [enext, kk, hst, d, a9]
          have e5 : eends r (cur h) x = false := by simp [eends, kk, hst, d, a9]
          have W' := enext_wf (r := r) ⟨by omega, by omega⟩ W hxb (by rw [e5]; decide)
          have ej := enext_j r (cur h) x
          have eh := enext_hand r (cur h) x
          rw [e7] at W' ej eh
          rw [e5, e7]
          exact ⟨I.goes hh hd hwd ej W' eh (Int.le_refl _) (by omega) ⟨ep1, ep2⟩ (fun h => absurd h (by show ¬ (cur _).st = 5; omega)) (fun p hp => ⟨by show (4 : Int) ≤ (cur h).st; omega, by have := (M p hp).2; show (p : Int) < (cur h).nx + 1; omega⟩) (fun p hp => rfl), .inl rfl⟩
        · skip
          have e5 : eends r (cur h) x = true := by simp [eends, kk, hst, d, a9]
          rw [e5]
          refine ⟨?_, .inl rfl⟩
          simp only [if_true]
          refine I.over hh hd hwd (told_b W hr2 e5) (Int.le_refl _) (by omega) rfl hini (fun p hp => ?_)
          have ea : (enext r (cur h) x).told = ⟨true, (cur h).mask⟩ := by simp [enext, kk, hst, d, a9]
          rw [ea, ← hj]
          simp [gv, rp, kk]
          omega
    · obtain ⟨q, hq⟩ : ∃ q : Nat, (cur h).nx = q := ⟨(cur h).nx.toNat, by have := W.nx; omega⟩
      have hq4 := W.nx4 (by omega)
      have e4 : ereq (cur h) = ⟨(cur h).hand, 5, ((9 + q : Nat) : Int), (cur h).given, 0, true⟩ := by simp [ereq, kk, hst, hq]
      have g0 := gz hst
      have qb : bit (cur h).nx.toNat (cur h).mask = 0 := by
        have := bit_le (cur h).nx.toNat (cur h).mask
        rcases Nat.lt_or_ge (bit (cur h).nx.toNat (cur h).mask) 1 with l | l
        · omega
        · exact absurd (M (cur h).nx.toNat (by omega)).2 (by omega)
      have bp : ∀ p, bit p (mput (cur h).mask (cur h).nx) = bit p (cur h).mask + (if (p : Int) = (cur h).nx then 1 else 0) := fun p => bit_put p (by omega) qb
      rw [e4] at hx hf
      by_cases hc : f (9 + q) = (cur h).given
      · obtain ⟨c1, c2⟩ := cas_yes (n := P.n) (f := f) (a := 9 + q) (cur h).hand (cur h).given 0 (by omega) hc
        rw [c1] at hx
        rw [c2] at hf
        have z0 : f' 0 = f 0 := by rw [← hf]; exact putF_other (by omega)
        have xo : x.ok = true := by rw [← hx]
        have zp : ∀ p : Nat, (if (p : Int) = (cur h).nx then 1 else 0) + nz (f' (9 + p)) = nz (f (9 + p)) := fun p => by
          by_cases e : p = q
          · subst e
            rw [← hf, putF_same, if_pos hq.symm, hc]
            simp [nz, g0]
          · rw [← hf, putF_other (by omega), if_neg (by omega)]
            omega
        by_cases a9 : (cur h).nx + 1 < r
        · have e7 : enext r (cur h) x = { cur h with mask := mput (cur h).mask (cur h).nx, nx := (cur h).nx + 1, st := 4 } := by simp [enext, kk, hst, xo, a9]
          have e5 : eends r (cur h) x = false := by simp [eends, kk, hst, a9]
          have W' := enext_wf (r := r) ⟨by omega, by omega⟩ W hxb (by rw [e5]; decide)
          have ej := enext_j r (cur h) x
          have eh := enext_hand r (cur h) x
          rw [e7] at W' ej eh
          rw [e5, e7]
          exact ⟨I.goes hh hd hwd ej W' eh (by omega) (by omega) ⟨by show (cur h).e ≤ _; omega, by show (cur h).f ≤ _; omega⟩ (fun h => absurd h (by show ¬ (4 : Int) = 5; decide)) (fun p hp => ⟨by show (4 : Int) ≤ 4; decide, by
            have hp' : bit p (mput (cur h).mask (cur h).nx) = 1 := hp
            rw [bp p] at hp'
            show (p : Int) < (cur h).nx + 1
            by_cases e : (p : Int) = (cur h).nx
            · omega
            · rw [if_neg e] at hp'
              have := (M p (by omega)).2
              omega⟩) (fun p hp => by have := bp p; have := zp p; show bit p (cur h).mask + _ = bit p (mput (cur h).mask (cur h).nx) + _; omega), .inl z0⟩
        · skip
          have e5 : eends r (cur h) x = true := by simp [eends, kk, hst, a9]
          rw [e5]
          refine ⟨?_, .inl z0⟩
          simp only [if_true]
          refine I.over hh hd hwd (told_b W hr2 e5) (by omega) (by omega) rfl hini (fun p hp => ?_)
          have ea : (enext r (cur h) x).told = ⟨true, mput (cur h).mask (cur h).nx⟩ := by simp [enext, kk, hst, xo, a9]
          rw [ea, ← hj]
          have b1 := bp p
          have b2 := zp p
          simp only [gv, rp, kk]
          simp
          omega
      · obtain ⟨c1, c2⟩ := cas_no (n := P.n) (f := f) (a := 9 + q) (cur h).hand (cur h).given 0 (by omega) hc
        rw [c1] at hx
        rw [c2] at hf
        subst hf
        have xo : x.ok = false := by rw [← hx]
        by_cases a9 : (cur h).nx + 1 < r
        · have e7 : enext r (cur h) x = { cur h with nx := (cur h).nx + 1, st := 4 } := by simp [enext, kk, hst, xo, a9]
          have e5 : eends r (cur h) x = false := by simp [eends, kk, hst, a9]
          have W' := enext_wf (r := r) ⟨by omega, by omega⟩ W hxb (by rw [e5]; decide)
          have ej := enext_j r (cur h) x
          have eh := enext_hand r (cur h) x
          rw [e7] at W' ej eh
          rw [e5, e7]
          exact ⟨I.goes hh hd hwd ej W' eh (Int.le_refl _) (by omega) ⟨ep1, ep2⟩ (fun h => absurd h (by show ¬ (4 : Int) = 5; decide)) (fun p hp => ⟨by show (4 : Int) ≤ 4; decide, by have := (M p hp).2; show (p : Int) < (cur h).nx + 1; omega⟩) (fun p hp => rfl), .inl rfl⟩
        · skip
          have e5 : eends r (cur h) x = true := by simp [eends, kk, hst, a9]
          rw [e5]
          refine ⟨?_, .inl rfl⟩
          simp only [if_true]
          refine I.over hh hd hwd (told_b W hr2 e5) (Int.le_refl _) (by omega) rfl hini (fun p hp => ?_)
          have ea : (enext r (cur h) x).told = ⟨true, (cur h).mask⟩ := by simp [enext, kk, hst, xo, a9]
          rw [ea, ← hj]
          simp [gv, rp, kk]
          omega

end Epoch
end Go.Proofs.Ytdflicgjkleonaa

namespace Go.Proofs.Ytdflicgjkleonaa
open Go.RowKit
namespace Epoch

variable {w : World} {aw : Option Addr} {nw cw : Nat} {ao aoh aos : Option Addr} {cap caph caps : Nat} {P : Par} {most : Int} {sh : Shp}

/-- A run that was taken. -/
def TB (sh : Shp) (P : Par) (most : Int) (base : Nat) (er : Int) (sa : Option Addr) (k sc : Nat) (wa : Option Addr) (n wc : Nat) (en : Bool) (aa : Option Addr) (m ac : Nat) (w' : World) : Prop :=
  er = 0 → (1 ≤ sh.f ∧ sh.f ≤ 64) ∧ (AllOk (kEpoch sh.f) P ∧ Fine P most) ∧ Told (kEpoch sh.f) P (runSt P (st0 (kEpoch sh.f) P (fun _ => 0)) most.toNat) base (tv3 sa k sc wa n wc en aa m ac 0) w'

theorem TB.touch {base base' b : Nat} {er : Int} {sa wa aa : Option Addr} {k sc n wc m ac : Nat} {en : Bool} {w1 w2 : World} (h : TB sh P most base er sa k sc wa n wc en aa m ac w1) (ht : Touch w1 w2 (fun k => k = b)) (hb : b < base) (hbb : base' ≤ base) : TB sh P most base' er sa k sc wa n wc en aa m ac w2 := fun he =>
  ⟨(h he).1, (h he).2.1, told_touch (h he).2.2 ht hb hbb⟩

theorem play_tb (h1 : 1 ≤ sh.f) (h2 : sh.f ≤ 64) (hn : (P.n : Int) = 9 + sh.f) (S : Sees w w.heap.size ao P.n (fun _ => 0)) (SH : SeesH w w.heap.size aoh P.nh P.jn P.jb) (hn63 : P.nh ≤ 9223372036854775807) (SI : SeesI w w.heap.size aos P.ns P.sched) (hjw : ∀ h, h < P.nh → ∀ j, j < P.jn h → (P.jb h j).wf) :
    Calls Try.prog 11 #[sh.val, .slice ao P.n cap, .slice aoh P.nh caph, .slice aos P.ns caps, .int .i64 most] w fun e w' => Below w.heap.size w w' ∧ ∃ sa k sc wa n wc en aa m ac er, e = .returned (tv3 sa k sc wa n wc en aa m ac er) ∧ TB sh P most w.heap.size er sa k sc wa n wc en aa m ac w' := by
  refine (play_all h1 h2 hn S (fun i _ => ⟨Int.le_refl 0, by show (0 : Int) ≤ 18446744073709551615; decide⟩) SH hn63 SI hjw).mono fun e w' h => ?_
  refine ⟨h.1, ?_⟩
  rcases h.2 with ⟨er, hle, he⟩ | ⟨hn', hF, hok, v, he, hT⟩
  · refine ⟨none, 0, 0, none, 0, 0, false, none, 0, 0, er, he, fun h0 => ?_⟩
    rcases hle with ⟨_, rfl⟩ | ⟨_, h⟩
    · exact absurd h0 (by decide)
    · exact absurd h0 h.ne
  · obtain ⟨sa, k, sc, wa, n, wc, en, aa, m, ac, rfl⟩ := told_shape hT
    exact ⟨sa, k, sc, wa, n, wc, en, aa, m, ac, 0, he, fun _ => ⟨⟨h1, h2⟩, ⟨hok, hF⟩, hT⟩⟩

set_option maxHeartbeats 8000000 in
theorem fresh_any (hn : 1 ≤ sh.f ∧ sh.f ≤ 64 → (P.n : Int) = 9 + sh.f) (SH : SeesH w w.heap.size aoh P.nh P.jn P.jb) (hn63 : P.nh ≤ 9223372036854775807) (SI : SeesI w w.heap.size aos P.ns P.sched) (hjw : ∀ h, h < P.nh → ∀ j, j < P.jn h → (P.jb h j).wf) :
    Calls Try.prog 25 #[.agg #[.int .i64 sh.a, .int .i64 sh.b, .int .i64 sh.c, .int .i64 sh.d, .int .i64 sh.e, .int .i64 sh.f, .slice aw nw cw, .slice aoh P.nh caph, .slice aos P.ns caps, .int .i64 most]] w fun e w' => Below w.heap.size w w' ∧ ∃ sa k sc wa n wc en aa m ac er, e = .returned (.tuple #[.agg #[.slice sa k sc, .slice wa n wc, .bool en], .slice aa m ac, .bool (er == 0)]) ∧ TB sh P most w.heap.size er sa k sc wa n wc en aa m ac w' := by
  have FB := hide (fun (h : sh.f < 1 ∨ 64 < sh.f) (w1 : World) => fresh_bad w1 sh h)
  have FO := hide (fun (h1 : 1 ≤ sh.f) (h2 : sh.f ≤ 64) (w1 : World) => fresh_ok w1 sh h1 h2 (want := P.n) (hn ⟨h1, h2⟩))
  have PL := hide (fun (h1 : 1 ≤ sh.f) (h2 : sh.f ≤ 64) (w1 : World) (B1 : Below w.heap.size w w1) ao cap (S : Sees w1 w1.heap.size ao P.n (fun _ => 0)) => play_tb (sh := sh) (most := most) (cap := cap) (caph := caph) (caps := caps) h1 h2 (hn ⟨h1, h2⟩) S ((SH.below B1 (Nat.le_refl _)).up B1.size) hn63 ((SI.below B1 (Nat.le_refl _)).up B1.size) hjw)
  have UP := hide (fun (base base' b : Nat) er sa k sc wa n wc en aa m ac (w1 w2 : World) => @TB.touch P most sh base base' b er sa wa aa k sc n wc m ac en w1 w2)
  obtain ⟨SB, hSB⟩ : ∃ SB, TB sh P most = SB := ⟨_, rfl⟩
  have NO := hide (fun base sa k sc wa n wc en aa m ac (w2 : World) => show SB base 120 sa k sc wa n wc en aa m ac w2 from by rw [← hSB]; exact fun h => absurd h (by decide))
  rw [hSB] at PL UP ⊢
  clear hSB
  obtain ⟨s0, s1, s2, s3, s4, s5⟩ := sh
  simp only [Shp.val] at PL FB FO ⊢
  clear SH SI hjw hn
  obtain ⟨W0, hW0⟩ : ∃ W0, (w.alloc (.cells #[.int .i64 s0, .int .i64 s1, .int .i64 s2, .int .i64 s3, .int .i64 s4, .int .i64 s5, .slice aw nw cw, .slice aoh P.nh caph, .slice aos P.ns caps, .int .i64 most] 28)).alloc (.cells #[.slice none 0 0, .slice none 0 0, .bool false] 32) = W0 := ⟨_, rfl⟩
  have b0 : Below w.heap.size w W0 := by rw [← hW0]; exact ((Below.refl _ w).alloc (Nat.le_refl _) _).alloc (by simp) _
  have sz0 : W0.heap.size = w.heap.size + 2 := by rw [← hW0]; simp
  have R0 : W0.rowIs w.heap.size 28 10 (lrow [.int .i64 s0, .int .i64 s1, .int .i64 s2, .int .i64 s3, .int .i64 s4, .int .i64 s5, .slice aw nw cw, .slice aoh P.nh caph, .slice aos P.ns caps, .int .i64 most]) := by rw [← hW0]; exact (rowL_alloc w [.int .i64 s0, .int .i64 s1, .int .i64 s2, .int .i64 s3, .int .i64 s4, .int .i64 s5, .slice aw nw cw, .slice aoh P.nh caph, .slice aos P.ns caps, .int .i64 most] _ rfl).alloc _
  have RT : W0.rowIs (w.heap.size + 1) 32 3 (lrow [.slice none 0 0, .slice none 0 0, .bool false]) := by
    rw [← hW0]
    have := rowL_alloc (w.alloc (.cells #[.int .i64 s0, .int .i64 s1, .int .i64 s2, .int .i64 s3, .int .i64 s4, .int .i64 s5, .slice aw nw cw, .slice aoh P.nh caph, .slice aos P.ns caps, .int .i64 most] 28)) [.slice none 0 0, .slice none 0 0, .bool false] 32 (n := 3) rfl
    rwa [World.size_alloc] at this
  have c0 : W0.cell? ⟨w.heap.size, 0, none⟩ = some (.int .i64 s0) := R0.cell (i := 0) (by omega)
  have c1 : W0.cell? ⟨w.heap.size, 1, none⟩ = some (.int .i64 s1) := R0.cell (i := 1) (by omega)
  have c2 : W0.cell? ⟨w.heap.size, 2, none⟩ = some (.int .i64 s2) := R0.cell (i := 2) (by omega)
  have c3 : W0.cell? ⟨w.heap.size, 3, none⟩ = some (.int .i64 s3) := R0.cell (i := 3) (by omega)
  have c4 : W0.cell? ⟨w.heap.size, 4, none⟩ = some (.int .i64 s4) := R0.cell (i := 4) (by omega)
  have c5 : W0.cell? ⟨w.heap.size, 5, none⟩ = some (.int .i64 s5) := R0.cell (i := 5) (by omega)
  have HR0 := hide R0
  have HRT := hide RT
  have HB0 := hide b0
  clear R0 RT b0
  go_enter Try.func25, Try.ntmps25
  by_cases hr : s5 < 1 ∨ 64 < s5
  · have HF := hide (FB.out hr)
    clear FB FO PL
    go_wp2_with fail
    refine (HF.out _).mono ?_
    rintro e w1 ⟨rfl, hg1⟩
    have b1 := below_of_grown_none hg1 _ (Nat.le_refl _)
    have hs1 := b1.size
    have RT1 := HRT.out.of_block (b1.block (w.heap.size + 1) (by omega))
    have z0 : w1.cell? ⟨w.heap.size + 1, 0, none⟩ = some (.slice none 0 0) := RT1.cell (i := 0) (by omega)
    have z1 : w1.cell? ⟨w.heap.size + 1, 1, none⟩ = some (.slice none 0 0) := RT1.cell (i := 1) (by omega)
    have z2 : w1.cell? ⟨w.heap.size + 1, 2, none⟩ = some (.bool false) := RT1.cell (i := 2) (by omega)
    have y0 := RT1.frozen 0
    have y1 := RT1.frozen 1
    have y2 := RT1.frozen 2
    have tt := touch3 w1 (w.heap.size + 1) (.slice none 0 0) (.slice none 0 0) (.bool false)
    have FIN := hide ((HB0.out.trans (b1.mono (by omega))).trans (tt.below (fun k hk => by omega) (by have := HB0.out.size; omega)))
    clear hg1 b1 RT1 tt c0 c1 c2 c3 c4 c5 hW0
    go_wp2_with fail
    go_light
    refine bodyPost_ret (v := .tuple #[.agg #[.slice none 0 0, .slice none 0 0, .bool false], .slice none 0 0, .bool false]) ?_ rfl ⟨FIN.out, none, 0, 0, none, 0, 0, false, none, 0, 0, 120, rfl, NO.out _ _ _ _ _ _ _ _ _ _ _ _⟩
    simp [results, Try.results25, go_sem, *]
  · have h1 : 1 ≤ s5 := by omega
    have h2 : s5 ≤ 64 := by omega
    have HF := hide (FO.out h1 h2)
    have HP := hide (PL.out h1 h2)
    clear FB FO PL
    go_wp2_with fail
    refine (HF.out _).mono ?_
    rintro e w3 ⟨g, rfl, RW, hg, hg3⟩
    have b3 := below_of_grown_none hg3 _ (Nat.le_refl _)
    have hs3 := b3.size
    have S3 := hide RW.sees
    have B3 := hide (HB0.out.trans (b3.mono (by omega)))
    have R3 := HR0.out.of_block (b3.block w.heap.size (by omega))
    have RT3 := hide (HRT.out.of_block (b3.block (w.heap.size + 1) (by omega)))
    have d0 : w3.cell? ⟨w.heap.size, 0, none⟩ = some (.int .i64 s0) := R3.cell (i := 0) (by omega)
    have d1 : w3.cell? ⟨w.heap.size, 1, none⟩ = some (.int .i64 s1) := R3.cell (i := 1) (by omega)
    have d2 : w3.cell? ⟨w.heap.size, 2, none⟩ = some (.int .i64 s2) := R3.cell (i := 2) (by omega)
    have d3 : w3.cell? ⟨w.heap.size, 3, none⟩ = some (.int .i64 s3) := R3.cell (i := 3) (by omega)
    have d4 : w3.cell? ⟨w.heap.size, 4, none⟩ = some (.int .i64 s4) := R3.cell (i := 4) (by omega)
    have d5 : w3.cell? ⟨w.heap.size, 5, none⟩ = some (.int .i64 s5) := R3.cell (i := 5) (by omega)
    have d7 : w3.cell? ⟨w.heap.size, 7, none⟩ = some (.slice aoh P.nh caph) := R3.cell (i := 7) (by omega)
    have d8 : w3.cell? ⟨w.heap.size, 8, none⟩ = some (.slice aos P.ns caps) := R3.cell (i := 8) (by omega)
    have d9 : w3.cell? ⟨w.heap.size, 9, none⟩ = some (.int .i64 most) := R3.cell (i := 9) (by omega)
    clear hg3 b3 RW R3 c0 c1 c2 c3 c4 c5 hW0
    go_wp2_with fail
    refine (HP.out w3 B3.out _ _ S3.out).mono ?_
    rintro e w1 ⟨hb1, sa, k, sc, wa, n, wc, en, aa, m, ac, er, rfl, hS⟩
    have hs1 := hb1.size
    have RT1 := RT3.out.of_block (hb1.block (w.heap.size + 1) (by omega))
    obtain ⟨W2, hW2⟩ : ∃ W2, w1.alloc (.cells #[.slice sa k sc, .slice wa n wc, .bool en] 32) = W2 := ⟨_, rfl⟩
    have R2 : W2.rowIs w1.heap.size 32 3 (lrow [.slice sa k sc, .slice wa n wc, .bool en]) := by rw [← hW2]; exact rowL_alloc w1 [.slice sa k sc, .slice wa n wc, .bool en] _ rfl
    have RT2 : W2.rowIs (w.heap.size + 1) 32 3 (lrow [.slice none 0 0, .slice none 0 0, .bool false]) := by rw [← hW2]; exact RT1.alloc _
    have B2 : Below w.heap.size w W2 := by rw [← hW2]; exact (B3.out.trans (hb1.mono B3.out.size)).alloc (by have := B3.out.size; omega) _
    have T2 : Touch w1 W2 (fun k => k = w.heap.size + 1) := by rw [← hW2]; exact (Touch.refl w1 _).alloc _
    have sz2 : W2.heap.size = w1.heap.size + 1 := by rw [← hW2]; simp
    have e0 : W2.cell? ⟨w1.heap.size, 0, none⟩ = some (.slice sa k sc) := R2.cell (i := 0) (by omega)
    have e1 : W2.cell? ⟨w1.heap.size, 1, none⟩ = some (.slice wa n wc) := R2.cell (i := 1) (by omega)
    have e2 : W2.cell? ⟨w1.heap.size, 2, none⟩ = some (.bool en) := R2.cell (i := 2) (by omega)
    have z0 : W2.cell? ⟨w.heap.size + 1, 0, none⟩ = some (.slice none 0 0) := RT2.cell (i := 0) (by omega)
    have z1 : W2.cell? ⟨w.heap.size + 1, 1, none⟩ = some (.slice none 0 0) := RT2.cell (i := 1) (by omega)
    have z2 : W2.cell? ⟨w.heap.size + 1, 2, none⟩ = some (.bool false) := RT2.cell (i := 2) (by omega)
    have y0 := RT2.frozen 0
    have y1 := RT2.frozen 1
    have y2 := RT2.frozen 2
    have tt := touch3 W2 (w.heap.size + 1) (.slice sa k sc) (.slice wa n wc) (.bool en)
    have FIN := hide (And.intro (B2.trans (tt.below (fun k hk => by omega) (by have := B3.out.size; omega))) (UP.out w3.heap.size w.heap.size (w.heap.size + 1) er sa k sc wa n wc en aa m ac w1 _ hS (T2.trans tt) (by omega) (by omega)))
    clear hb1 hS RT1 R2 RT2 B2 T2 tt d0 d1 d2 d3 d4 d5 d7 d8 d9
    unfold tv3
    go_wp2_with fail
    go_light
    refine bodyPost_ret (v := .tuple #[.agg #[.slice sa k sc, .slice wa n wc, .bool en], .slice aa m ac, .bool (er == 0)]) ?_ rfl ⟨FIN.out.1, sa, k, sc, wa, n, wc, en, aa, m, ac, er, rfl, FIN.out.2⟩
    simp [results, Try.results25, go_sem, *]
end Epoch
end Go.Proofs.Ytdflicgjkleonaa

namespace Go.Proofs.Ytdflicgjkleonaa
open Go.RowKit
namespace Epoch

abbrev rn (r : Nat) (P : Par) (m : Nat) : St (kEpoch r) := runSt P (st0 (kEpoch r) P (fun _ => 0)) m

/-- What is asked of the jobs. -/
def Jok (r : Nat) (P : Par) : Prop := ∀ h, h < P.nh → ∀ j, j < P.jn h → eerr r h (P.jb h j) = 0 ∧ (P.jb h j).wf

theorem iv_start {r : Nat} {P : Par} (hr1 : 1 ≤ r) (hok : Jok r P) : Iv r P (fun _ => 0) (fun _ => 0) (fun h => einit h (P.jb h 0)) (fun _ _ => ⟨false, 0⟩) 0 := by
  refine ⟨fun i _ => ⟨Int.le_refl 0, by show (0 : Int) ≤ 18446744073709551615; decide⟩, ⟨Int.le_refl 0, Int.le_refl 0⟩, fun h hh hd => ?_, fun h hh hd => ⟨Int.le_refl 0, Int.le_refl 0⟩, fun h hh hd e => absurd e (by show ¬ (0 : Int) = 5; decide), fun h hh hd p e => absurd e (by show ¬ bit p 0 = 1; simp [bit]), fun h hh j hj => absurd hj (Nat.not_lt_zero j), fun p hp => ?_⟩
  · have h8 := (eerr_cases (hok h hh _ hd).1).2
    exact ⟨rfl, wf_init (by omega) _ ⟨(hok h hh _ hd).2, h, (hok h hh _ hd).1⟩, by show (if 0 ≤ (h : Int) ∧ (h : Int) < 8 then (h : Int) else 0) = h; rw [if_pos h8]⟩
  · have u : und p P (fun _ => 0) (fun h => einit h (P.jb h 0)) = 0 := sm_zero _ (fun i hi => by
      show (if 0 < P.jn i then bit p 0 else 0) = 0
      split
      · simp [bit]
      · rfl)
    have g : ∀ g' : Jb → Ans → Nat, tot g' P (fun _ => 0) (fun _ _ => ⟨false, 0⟩) = 0 := fun g' => sm_zero _ (fun i hi => rfl)
    rw [u, g, g]
    rfl

theorem one_on {r : Nat} {P : Par} (hr1 : 1 ≤ r) (hr2 : r ≤ 64) (hn : P.n = 9 + r) (hok : Jok r P) {k h : Nat} (hk : k ≤ 65536) {st : St (kEpoch r)} (I : Iv r P st.f st.done st.cur st.ans k) (hh : h < P.nh) (hd : st.done h < P.jn h) :
    Iv r P (stepSt P st h).f (stepSt P st h).done (stepSt P st h).cur (stepSt P st h).ans (k + 1) ∧ ((stepSt P st h).f 0 = st.f 0 ∨ (stepSt P st h).f 0 = u64 (st.f 0 + 1)) :=
  I.step hr1 hr2 hn hok hk hh hd rfl rfl

theorem run_iv {r : Nat} {P : Par} (hr1 : 1 ≤ r) (hr2 : r ≤ 64) (hn : P.n = 9 + r) (hok : Jok r P) : ∀ m, m ≤ 65536 → Iv r P (rn r P m).f (rn r P m).done (rn r P m).cur (rn r P m).ans m
  | 0, _ => iv_start hr1 hok
  | m + 1, hm => by
    have I := run_iv hr1 hr2 hn hok m (by omega)
    rcases run_succ_cases P (st0 (kEpoch r) P (fun _ => 0)) rfl m with ⟨e, _⟩ | ⟨h, _, hh, hd, _, e⟩
    · have e' : rn r P (m + 1) = rn r P m := e
      rw [e']
      exact ⟨I.wd, ⟨I.f0.1, by have := I.f0.2; omega⟩, I.wf, I.ep, I.gz, I.mb, I.av, I.cn⟩
    · have e' : rn r P (m + 1) = stepSt P (rn r P m) h := e
      rw [e']
      exact (one_on hr1 hr2 hn hok (by omega) I hh hd).1

/-- Each step, in the law's words. -/
theorem law_step {r : Nat} {P : Par} (hr1 : 1 ≤ r) (hr2 : r ≤ 64) (hn : P.n = 9 + r) (hok : Jok r P) {m i : Nat} (hm : m ≤ 65536) (hi : i < (rn r P m).k) :
    (((rn r P m).s i).at_ = 0 → ((rn r P m).s i).had = (rn r P i).f 0 ∧ ((rn r P m).s i).put = (rn r P (i + 1)).f 0 ∧ (((rn r P m).s i).put = ((rn r P m).s i).had ∨ ((rn r P m).s i).put = u64 (((rn r P m).s i).had + 1))) ∧ (¬ ((rn r P m).s i).at_ = 0 → (rn r P (i + 1)).f 0 = (rn r P i).f 0) := by
  obtain ⟨hk, ⟨h, _, hh, hg, e⟩, es⟩ := hist P (st0 (kEpoch r) P (fun _ => 0)) rfl m i hi
  have hle : i ≤ m := by
    have := (runSt_k P (st0 (kEpoch r) P (fun _ => 0)) rfl m).1
    have hi' : i < (runSt P (st0 (kEpoch r) P (fun _ => 0)) m).k := hi
    omega
  have I := run_iv hr1 hr2 hn hok i (by omega)
  have ex : (rn r P m).s i = stepOf P.n (rn r P i).f (ereq ((rn r P i).cur h)) := by
    show (runSt P (st0 (kEpoch r) P (fun _ => 0)) m).s i = _
    rw [es, e]
    show upd (runSt P (st0 (kEpoch r) P (fun _ => 0)) i).s (runSt P (st0 (kEpoch r) P (fun _ => 0)) i).k _ i = _
    rw [hk, upd_same]
    rfl
  have e' : rn r P (i + 1) = stepSt P (rn r P i) h := e
  have ef : (rn r P (i + 1)).f = wordsOf P.n (rn r P i).f (ereq ((rn r P i).cur h)) := by rw [e']; rfl
  obtain ⟨w1, w2⟩ := word0 (n := P.n) (by omega) (rn r P i).f (ereq ((rn r P i).cur h))
  have sa := (step_at P.n (rn r P i).f (ereq ((rn r P i).cur h))).1
  have o := (one_on hr1 hr2 hn hok (by omega) I hh hg).2
  rw [← e'] at o
  rw [ex, sa, ef]
  refine ⟨fun h0 => ?_, fun h0 => w2 h0⟩
  obtain ⟨a, b⟩ := w1 h0
  rw [ef] at o
  refine ⟨a, b, ?_⟩
  rw [b, a]
  exact o

theorem had_put {r : Nat} {P : Par} (hr1 : 1 ≤ r) (hr2 : r ≤ 64) (hn : P.n = 9 + r) (hok : Jok r P) {m i : Nat} (hm : m ≤ 65536) (hi : i < (rn r P m).k) : 0 ≤ ((rn r P m).s i).had ∧ ((rn r P m).s i).had ≤ 18446744073709551615 := by
  obtain ⟨hk, ⟨h, _, hh, hg, e⟩, es⟩ := hist P (st0 (kEpoch r) P (fun _ => 0)) rfl m i hi
  have hle : i ≤ m := by
    have := (runSt_k P (st0 (kEpoch r) P (fun _ => 0)) rfl m).1
    have hi' : i < (runSt P (st0 (kEpoch r) P (fun _ => 0)) m).k := hi
    omega
  have I := run_iv hr1 hr2 hn hok i (by omega)
  have ex : (rn r P m).s i = stepOf P.n (rn r P i).f (ereq ((rn r P i).cur h)) := by
    show (runSt P (st0 (kEpoch r) P (fun _ => 0)) m).s i = _
    rw [es, e]
    show upd (runSt P (st0 (kEpoch r) P (fun _ => 0)) i).s (runSt P (st0 (kEpoch r) P (fun _ => 0)) i).k _ i = _
    rw [hk, upd_same]
    rfl
  rw [ex]
  exact had_bounds I.wd _

/-- Where all have ended, what was given up and not reaped stands in the words. -/
theorem end_cn {r : Nat} {P : Par} (hr1 : 1 ≤ r) (hr2 : r ≤ 64) (hn : P.n = 9 + r) (hok : Jok r P) {m : Nat} (hm : m ≤ 65536) (hd : ∀ h, h < P.nh → (rn r P m).done h = P.jn h) {p : Nat} (hp : p < r) :
    tot (gv p) P (rn r P m).done (rn r P m).ans = tot (rp p) P (rn r P m).done (rn r P m).ans + nz ((rn r P m).f (9 + p)) := by
  have I := run_iv hr1 hr2 hn hok m hm
  have u : und p P (rn r P m).done (rn r P m).cur = 0 := sm_zero _ (fun i hi => by
    show (if (rn r P m).done i < P.jn i then _ else 0) = 0
    rw [if_neg (by rw [hd i hi]; omega)])
  have := I.cn p hp
  rw [u] at this
  omega

/-- What a run from fresh words told. -/
def SE (r : Nat) (P : Par) (m0 : Nat) (er : Int) (sa : Option Addr) (k : Nat) (wa : Option Addr) (n : Nat) (en : Bool) (aa : Option Addr) (m : Nat) (w' : World) : Prop :=
  er = 0 → (1 ≤ r ∧ r ≤ 64) ∧ P.n = 9 + r ∧ m0 ≤ 65536 ∧ P.nh ≤ 8 ∧ (∀ h, h < P.nh → P.jn h ≤ 256) ∧ (∀ h, h < P.nh → (rn r P m0).done h ≤ P.jn h) ∧ (∀ h, h < P.nh → ∀ j, j < P.jn h → eerr r h (P.jb h j) = 0) ∧ k = (rn r P m0).k ∧ m = P.nh ∧ n = P.n ∧ en = decide (cnt ((rn r P m0).going P) P.nh = 0) ∧ SeesS w' w'.heap.size sa (rn r P m0).k (rn r P m0).s ∧ Sees w' w'.heap.size wa P.n (rn r P m0).f ∧ SeesA w' w'.heap.size aa P.nh (rn r P m0).done (rn r P m0).ans

theorem se_of {sh : Shp} {P : Par} {most : Int} {base : Nat} {er : Int} {sa : Option Addr} {k sc : Nat} {wa : Option Addr} {n wc : Nat} {en : Bool} {aa : Option Addr} {m ac : Nat} {w' : World} {r : Nat} (hr : 1 ≤ sh.f ∧ sh.f ≤ 64 → sh.f = (r : Int) ∧ P.n = 9 + r) (h : TB sh P most base er sa k sc wa n wc en aa m ac w') : SE r P most.toNat er sa k wa n en aa m w' := by
  intro h0
  obtain ⟨h12, ⟨hok, hF⟩, hT⟩ := h h0
  obtain ⟨hr', hn⟩ := hr h12
  rw [hr'] at hok hT
  obtain ⟨blk, c, g', sv, ev, H, G, GS, R, hg, hne⟩ := hT
  simp only [tv3, Value.tuple.injEq, Array.mk.injEq, List.cons.injEq, Value.agg.injEq, Value.slice.injEq, Value.bool.injEq, and_true, true_and] at ev
  obtain ⟨⟨e1, ⟨e2, e3, e4⟩, e5⟩, e6, e7, e8⟩ := ev
  obtain ⟨sa', sc', es⟩ := GS.isSlice'
  rw [es] at e1
  simp only [Value.slice.injEq] at e1
  obtain ⟨rfl, rfl, _⟩ := e1
  subst e2 e3 e5 e6 e7
  rw [es] at GS
  refine ⟨⟨by omega, by omega⟩, hn, by have := hF.2.2.2.2; omega, ?_, fun h hh => G.jobs h hh, fun h hh => G.doneLe h hh, fun h hh j hj => hok h hh j hj, rfl, rfl, rfl, rfl, GS.seesS H, R.sees, seesA_of G.answers H⟩
  rcases Nat.lt_or_ge 8 P.nh with l | l
  · exact absurd (.inl l) hF.2.1
  · exact l

/-- All have ended: each hand has done its jobs. -/
theorem all_done {r : Nat} {P : Par} {m : Nat} (hc : cnt ((rn r P m).going P) P.nh = 0) (hle : ∀ h, h < P.nh → (rn r P m).done h ≤ P.jn h) {h : Nat} (hh : h < P.nh) : (rn r P m).done h = P.jn h := by
  have := cnt_zero hc h hh
  have hl := hle h hh
  simp only [St.going, decide_eq_false_iff_not] at this
  omega
end Epoch
end Go.Proofs.Ytdflicgjkleonaa

namespace Go.Proofs.Ytdflicgjkleonaa
open Go.RowKit
namespace Epoch

theorem meas_b {k n : Nat} (h : k < n) : n - (intOf (.int .i64 ((k : Int) + 1))).toNat < n - (intOf (.int .i64 (k : Int))).toNat := by
  show n - ((k : Int) + 1).toNat < n - (k : Int).toNat
  omega
theorem vi_b {i : Nat} : Value.int .i64 ((i : Int) + 1) = .int .i64 ((i + 1 : Nat) : Int) := by simp
theorem below_drewN {b : Nat} {w wr : World} (h : Below b w wr) (m : Nat) : Below b w (wr.drewN m) := ⟨h.os, h.tape, h.output, h.size, h.block⟩

/-- A row of counts. -/
abbrev RI (w : World) (g n : Nat) (F : Nat → Nat) : Prop := w.rowIs g 3 n (fun i => .int .i64 ((F i : Nat) : Int))

set_option maxHeartbeats 8000000 in
theorem left_ok {w : World} {r : Nat} {wa : Option Addr} {wc g1 g2 : Nat} {f : Nat → Int} {G R : Nat → Nat} (h2 : r ≤ 64) (SW : Sees w w.heap.size wa (9 + r) f) (R1 : RI w g1 r G) (R2 : RI w g2 r R) (hG : ∀ p, p < r → G p ≤ 2304) (hcn : ∀ p, p < r → G p = R p + nz (f (9 + p))) :
    Calls Try.prog 28 #[.slice wa ((9 + r : Nat)) wc, .slice (some ⟨g1, 0, none⟩) r r, .slice (some ⟨g2, 0, none⟩) r r] w fun e w' => e = .returned (.bool true) ∧ Below w.heap.size w w' := by
  have WD := hide (fun (k : Nat) (hk : k < r) (wr : World) (hb : Below w.heap.size w wr) => show ∃ b off, wa = some ⟨b, off, none⟩ ∧ b < wr.heap.size ∧ wr.cell? ⟨b, off + (9 + k), none⟩ = some (.int .u64 (f (9 + k))) from by
    obtain ⟨b, off, e, l, c⟩ := SW (9 + k) (by omega)
    exact ⟨b, off, e, Nat.lt_of_lt_of_le l hb.size, (hb.cell (p := ⟨b, off + (9 + k), none⟩) l).trans c⟩)
  have WR := hide (fun (k : Nat) (hk : k < r) (wr : World) (hb : Below w.heap.size w wr) => show wr.cell? ⟨g1, k, none⟩ = some (.int .i64 (G k)) ∧ wr.cell? ⟨g2, k, none⟩ = some (.int .i64 (R k)) ∧ g1 < wr.heap.size ∧ g2 < wr.heap.size from
    ⟨(hb.cell (p := ⟨g1, k, none⟩) R1.lt).trans (R1.cell hk), (hb.cell (p := ⟨g2, k, none⟩) R2.lt).trans (R2.cell hk), Nat.lt_of_lt_of_le R1.lt hb.size, Nat.lt_of_lt_of_le R2.lt hb.size⟩)
  have CN := hide (fun (k : Nat) (hk : k < r) => And.intro (hG k hk) (hcn k hk))
  clear SW R1 R2 hG hcn
  go_enter Try.func28, Try.ntmps28
  go_wp2_with fail
  go_loopw [7] (fun i wr => ∃ k : Nat, k ≤ r ∧ i = .int .i64 (k : Int) ∧ Below w.heap.size w wr) (fun i _ => r - (intOf i).toNat)
  case atStart => exact ⟨0, Nat.zero_le _, rfl, Below.refl _ _⟩
  case round =>
    obtain ⟨k, hk, rfl, hb⟩ := hrel
    have HB1 := hide hb
    obtain ⟨W1, hW1⟩ : ∃ W1, W1 = wr := ⟨_, rfl⟩
    subst hW1
    clear hb
    by_cases hlt : k < r
    · have hlt' : (k : Int) < r := by omega
      obtain ⟨bw, ow, rfl, lw, cw⟩ := WD.out k hlt W1 HB1.out
      obtain ⟨c1, c2, l1, l2⟩ := WR.out k hlt W1 HB1.out
      obtain ⟨n1, n2⟩ := CN.out k hlt
      obtain ⟨a, ha⟩ : ∃ a : Int, ((G k : Nat) : Int) = a := ⟨_, rfl⟩
      obtain ⟨b, hb⟩ : ∃ b : Int, ((R k : Nat) : Int) = b := ⟨_, rfl⟩
      rw [ha] at c1
      rw [hb] at c2
      by_cases hz : f (9 + k) = 0
      · have hs : wrap64 (a - b) = 0 := by rw [hz] at n2; have : nz 0 = 0 := rfl; unfold wrap64; omega
        rw [hz] at cw
        clear WD WR CN n1 n2 ha hb hz
        go_wp2_with fail
        go_quiet (fail)
        go_wp2_with fail
        go_roundw
        case rel => exact ⟨k + 1, hlt, vi_b, below_drewN HB1.out _⟩
        case measure => exact meas_b hlt
      · have hs : wrap64 (a - b) = 1 := by have : nz (f (9 + k)) = 1 := if_neg hz; unfold wrap64; omega
        have hz' : (f (9 + k) != 0) = true := by simpa using hz
        clear WD WR CN n1 n2 ha hb hz
        go_wp2_with fail
        go_quiet (fail)
        go_wp2_with fail
        go_roundw
        case rel => exact ⟨k + 1, hlt, vi_b, below_drewN HB1.out _⟩
        case measure => exact meas_b hlt
    · have hlt' : ¬ (k : Int) < r := by omega
      go_wp2_with fail
      go_ret
      exact ⟨rfl, HB1.out⟩
/-- How far the counting is. -/
def part (g : Jb → Ans → Nat) (P : Par) (done : Nat → Nat) (ans : Nat → Nat → Ans) (i n : Nat) : Nat := sm (fun h => sm (fun j => g (P.jb h j) (ans h j)) (done h)) i + sm (fun j => g (P.jb i j) (ans i j)) n
section
variable {g : Jb → Ans → Nat} {P : Par} {done : Nat → Nat} {ans : Nat → Nat → Ans} {i n : Nat}
theorem part_hand : part g P done ans i (done i) = part g P done ans (i + 1) 0 := rfl
theorem part_job : part g P done ans i (n + 1) = part g P done ans i n + g (P.jb i n) (ans i n) := by
  unfold part
  exact (Nat.add_assoc _ _ _).symm
theorem sm_le {f : Nat → Nat} {c : Nat} : ∀ n, (∀ i, i < n → f i ≤ c) → sm f n ≤ c * n
  | 0, _ => Nat.zero_le _
  | n + 1, h => by
    have a := sm_le n (fun i hi => h i (by omega))
    have b := h n (by omega)
    show sm f n + f n ≤ c * (n + 1)
    rw [Nat.mul_succ]
    omega
theorem part_le (hg : ∀ j a, g j a ≤ 1) (hd : ∀ h, h < i → done h ≤ 256) : part g P done ans i n ≤ 256 * i + n := by
  have a := sm_le (f := fun h => sm (fun j => g (P.jb h j) (ans h j)) (done h)) (c := 256) i (fun h hh => by
    have := sm_le (f := fun j => g (P.jb h j) (ans h j)) (c := 1) (done h) (fun j _ => hg _ _)
    have := hd h hh
    show sm _ (done h) ≤ 256
    omega)
  have b := sm_le (f := fun j => g (P.jb i j) (ans i j)) (c := 1) n (fun j _ => hg _ _)
  unfold part
  omega
end
theorem gv_le (p : Nat) (j : Jb) (a : Ans) : gv p j a ≤ 1 := by unfold gv; split <;> omega
theorem rp_le (p : Nat) (j : Jb) (a : Ans) : rp p j a ≤ 1 := by
  unfold rp
  split
  · exact bit_le _ _
  · omega
theorem infoI : (Try.prog.info? 3).map (fun i => (i.zero.map Value.cells, i.size, i.bytes)) = some (some #[.int .i64 0], 1, 8) := by kernel_rfl

theorem row_set {w : World} {g n a : Nat} {F F' : Nat → Nat} {c : Int} (R : RI w g n F) (hc : c = ((F' a : Nat) : Int)) (ho : ∀ q, q < n → q ≠ a → F' q = F q) : RI (w.setCell ⟨g, a, none⟩ (.int .i64 c)) g n F' := by
  refine World.rowIs.congr (R.set a (.int .i64 c)) (fun q hq => ?_)
  by_cases e : q = a
  · subst e; simp [hc]
  · simp [e, ho q hq e]

theorem at_rowsE {w : World} {aoh aa : Option Addr} {P : Par} {done : Nat → Nat} {ans : Nat → Nat → Ans} (SH : SeesH w w.heap.size aoh P.nh P.jn P.jb) (SA : SeesA w w.heap.size aa P.nh done ans) (hd : ∀ h, h < P.nh → done h ≤ P.jn h) {i : Nat} (hi : i < P.nh) :
    ∃ bh oh av cv ba oa bv ca, aoh = some ⟨bh, oh, none⟩ ∧ aa = some ⟨ba, oa, none⟩ ∧ ∀ wr, Below w.heap.size w wr → wr.cell? ⟨bh, oh + i, none⟩ = some (.slice av (P.jn i) cv) ∧ wr.cell? ⟨ba, oa + i, none⟩ = some (.slice bv (done i) ca) ∧ bh < wr.heap.size ∧ ba < wr.heap.size ∧
      ∀ n, n < done i → ∃ bj oj bx ox, av = some ⟨bj, oj, none⟩ ∧ bv = some ⟨bx, ox, none⟩ ∧ bj < wr.heap.size ∧ bx < wr.heap.size ∧ bx < w.heap.size ∧ ba < w.heap.size ∧ (∀ q, q < 5 → wr.cell? ⟨bj, oj + n * 5 + q, none⟩ = some ((P.jb i n).cell q)) ∧ wr.cell? ⟨bx, ox + n * 2, none⟩ = some (.bool (ans i n).ok) ∧ wr.cell? ⟨bx, ox + n * 2 + 1, none⟩ = some (.int .u64 (ans i n).val) := by
  obtain ⟨bh, oh, av, cv, e1, l1, c1, j1⟩ := SH i hi
  obtain ⟨ba, oa, bv, ca, e2, l2, c2, j2⟩ := SA i hi
  refine ⟨bh, oh, av, cv, ba, oa, bv, ca, e1, e2, fun wr hb => ⟨(hb.cell (p := ⟨bh, oh + i, none⟩) l1).trans c1, (hb.cell (p := ⟨ba, oa + i, none⟩) l2).trans c2, Nat.lt_of_lt_of_le l1 hb.size, Nat.lt_of_lt_of_le l2 hb.size, fun n hn => ?_⟩⟩
  obtain ⟨bj, oj, e3, l3, c3⟩ := j1 n (by have := hd i hi; omega)
  obtain ⟨bx, ox, e4, l4, c4⟩ := j2 n hn
  exact ⟨bj, oj, bx, ox, e3, e4, Nat.lt_of_lt_of_le l3 hb.size, Nat.lt_of_lt_of_le l4 hb.size, l4, l2, fun q hq => (hb.cell (p := ⟨bj, oj + n * 5 + q, none⟩) l3).trans (c3 q hq), (hb.cell (p := ⟨bx, ox + n * 2, none⟩) l4).trans (c4 0 (by omega)), (hb.cell (p := ⟨bx, ox + n * 2 + 1, none⟩) l4).trans (c4 1 (by omega))⟩

theorem bit_and {v : Int} (q : Nat) (hv : 0 ≤ v ∧ v ≤ 18446744073709551615) : bits .and .u64 (v / 2 ^ q) 1 = ((bit q v : Nat) : Int) := by
  obtain ⟨m, rfl⟩ : ∃ m : Nat, v = m := ⟨v.toNat, by omega⟩
  have e0 : ((m : Int) / 2 ^ q) = ((m / 2 ^ q : Nat) : Int) := by simp
  have hlt : m / 2 ^ q < 2 ^ 64 := Nat.lt_of_le_of_lt (Nat.div_le_self _ _) (by omega)
  have e1 : bits .and .u64 ((m / 2 ^ q : Nat) : Int) 1 = IntKind.u64.wrap (((BitVec.ofInt 64 ((m / 2 ^ q : Nat) : Int)) &&& (BitVec.ofInt 64 1)).toNat : Int) := rfl
  have e2 : (BitVec.ofInt 64 ((m / 2 ^ q : Nat) : Int)).toNat = m / 2 ^ q := by rw [BitVec.ofInt_natCast, BitVec.toNat_ofNat, Nat.mod_eq_of_lt hlt]
  have e3 : (BitVec.ofInt 64 1).toNat = 1 := rfl
  rw [e0, e1, BitVec.toNat_and, e2, e3, Nat.and_one_is_mod, IntKind.wrap_u64]
  have e4 : m / 2 ^ q % 2 = bit q (m : Int) := by
    unfold bit
    rw [Int.toNat_natCast, Nat.testBit_eq_decide_div_mod_eq]
    by_cases h : m / 2 ^ q % 2 = 1
    · rw [h]; simp
    · rw [if_neg (by simpa using h)]; omega
  rw [e4]
  have := bit_le q (m : Int)
  omega

theorem made2 (w : World) (r : Nat) : RI ((w.alloc (.cells (madeCells #[.int .i64 0] r) 3)).alloc (.cells (madeCells #[.int .i64 0] r) 3)).drew w.heap.size r (fun _ => 0) ∧ RI ((w.alloc (.cells (madeCells #[.int .i64 0] r) 3)).alloc (.cells (madeCells #[.int .i64 0] r) 3)).drew (w.heap.size + 1) r (fun _ => 0) ∧
    Below w.heap.size w ((w.alloc (.cells (madeCells #[.int .i64 0] r) 3)).alloc (.cells (madeCells #[.int .i64 0] r) 3)).drew := by
  have b := World.rowIs_made (w.alloc (.cells (madeCells #[.int .i64 0] r) 3)) (.int .i64 0) r 3
  rw [World.size_alloc] at b
  exact ⟨((World.rowIs_made w (.int .i64 0) r 3).alloc _).drew, b.drew, (((Below.refl _ w).alloc (Nat.le_refl _) _).alloc (by simp) _).drew⟩

set_option maxHeartbeats 16000000 in
theorem counted_ok {w : World} {r : Nat} {aoh aa : Option Addr} {caph ac : Nat} {P : Par} {done : Nat → Nat} {ans : Nat → Nat → Ans} (h1 : 1 ≤ r) (h2 : r ≤ 64) (hnh : P.nh ≤ 8) (hj : ∀ h, h < P.nh → P.jn h ≤ 256) (hd : ∀ h, h < P.nh → done h ≤ P.jn h) (hok : ∀ h, h < P.nh → ∀ j, j < P.jn h → eerr r h (P.jb h j) = 0) (hab : ∀ h, h < P.nh → ∀ j, j < done h → 0 ≤ (ans h j).val ∧ (ans h j).val ≤ 18446744073709551615) (SH : SeesH w w.heap.size aoh P.nh P.jn P.jb) (SA : SeesA w w.heap.size aa P.nh done ans) :
    Calls Try.prog 27 #[.int .i64 (r : Int), .slice aoh P.nh caph, .slice aa P.nh ac] w fun e w' => Below w.heap.size w w' ∧ ∃ g1 g2, e = .returned (.tuple #[.slice (some ⟨g1, 0, none⟩) r r, .slice (some ⟨g2, 0, none⟩) r r, .bool true]) ∧ RI w' g1 r (fun p => tot (gv p) P done ans) ∧ RI w' g2 r (fun p => tot (rp p) P done ans) := by
  have RW := hide (fun (i : Nat) (hi : i < P.nh) => at_rowsE SH SA hd hi)
  have HJ := hide (fun (i : Nat) (hi : i < P.nh) => show done i ≤ 256 ∧ done i ≤ P.jn i from ⟨Nat.le_trans (hd i hi) (hj i hi), hd i hi⟩)
  have HOK := hide (fun (i n : Nat) (hi : i < P.nh) (hn : n < P.jn i) => eerr_cases (hok i hi n hn))
  have HAB := hide hab
  have hmk := run_make_z (P := Try.prog) 26 3 _ 1 8 Try.underlying26 infoI r (by omega) (by omega)
  simp only [Nat.mul_one] at hmk
  clear SH SA hj hd hok hab
  go_enter Try.func27, Try.ntmps27
  go_upto_region 1 with (fail)
  go_cut [9, 10] from 15 to 18 (fun s9 s10 wy => ∃ g1 g2, s9 = .slice (some ⟨g1, 0, none⟩) r r ∧ s10 = .slice (some ⟨g2, 0, none⟩) r r ∧ g1 ≠ g2 ∧ w.heap.size ≤ g1 ∧ w.heap.size ≤ g2 ∧ RI wy g1 r (fun _ => 0) ∧ RI wy g2 r (fun _ => 0) ∧ Below w.heap.size w wy)
  case first =>
    have MD := hide (made2 w r)
    go_region
    all_goals go_wp2_with fail
    all_goals go_meet
    · exact ⟨w.heap.size, w.heap.size + 1, rfl, rfl, by omega, Nat.le_refl _, by omega, MD.out.1, MD.out.2.1, MD.out.2.2⟩
    · exact ⟨w.heap.size + 1, w.heap.size, rfl, rfl, by omega, by omega, Nat.le_refl _, MD.out.2.1, MD.out.1, MD.out.2.2⟩
  case rest =>
    obtain ⟨g1, g2, e1, e2, hne, hg1, hg2, R1, R2, B1⟩ := hcut
    subst e1 e2
    clear hmk
    go_wp2_with fail
    have HR1 := hide R1
    have HR2 := hide R2
    have HB1 := hide B1
    clear R1 R2 B1
    go_loopw [11] (fun v wr => ∃ i : Nat, i ≤ P.nh ∧ v = .int .i64 (i : Int) ∧ RI wr g1 r (fun p => part (gv p) P done ans i 0) ∧ RI wr g2 r (fun p => part (rp p) P done ans i 0) ∧ Below w.heap.size w wr) (fun v _ => P.nh - (intOf v).toNat)
    case atStart => exact ⟨0, Nat.zero_le _, rfl, HR1.out, HR2.out, HB1.out⟩
    case round =>
      clear HR1 HR2 HB1
      obtain ⟨i, hi, rfl, R1, R2, B1⟩ := hrel
      have HR1 := hide R1
      have HR2 := hide R2
      have HB1 := hide B1
      obtain ⟨W1, hW1⟩ : ∃ W1, W1 = wr := ⟨_, rfl⟩
      subst hW1
      clear R1 R2 B1
      by_cases hlt : i < P.nh
      · have hlt' : (i : Int) < P.nh := by omega
        have hge' : ¬ (P.nh : Int) ≤ i := by omega
        have rw0 := RW.out i hlt
        obtain ⟨bh, oh, av, cv, ba, oa, bv, ca, rfl, rfl, rr⟩ := rw0
        obtain ⟨rc1, rc2, rl1, rl2, rj⟩ := rr W1 HB1.out
        have RR := hide rr
        obtain ⟨d256, djn⟩ := HJ.out i hlt
        have djn' : ¬ ((P.jn i : Nat) : Int) < ((done i : Nat) : Int) := by omega
        obtain ⟨dn, hdn⟩ : ∃ dn, done i = dn := ⟨_, rfl⟩
        rw [hdn] at rc2 d256 djn djn'
        have HDN := hide hdn
        clear rr rj hdn
        have dg1 : decide (P.nh ≤ i) = false := by simpa using hlt
        have dg2 : decide (P.jn i < dn) = false := by simpa using djn
        go_wp2_with fail
        go_quiet (fail)
        go_wp2_with fail
        try simp only [dg1, dg2, Bool.or_false]
        clear dg1 dg2
        go_loopw [12] (fun v wr => ∃ n : Nat, n ≤ dn ∧ v = .int .i64 (n : Int) ∧ RI wr g1 r (fun p => part (gv p) P done ans i n) ∧ RI wr g2 r (fun p => part (rp p) P done ans i n) ∧ Below w.heap.size w wr) (fun v _ => dn - (intOf v).toNat)
        case atStart => exact ⟨0, Nat.zero_le _, rfl, HR1.out.of_block rfl, HR2.out.of_block rfl, below_drewN HB1.out _⟩
        case round =>
          clear HR1 HR2 HB1 rc1 rc2 rl1 rl2
          obtain ⟨n, hn, rfl, R1, R2, B1⟩ := hrel
          have HR1 := hide R1
          have HR2 := hide R2
          have HB1 := hide B1
          obtain ⟨W2, hW2⟩ : ∃ W2, W2 = wr := ⟨_, rfl⟩
          subst hW2
          clear R1 R2 B1
          obtain ⟨rc1, rc2, rl1, rl2, rj⟩ := RR.out W2 HB1.out
          rw [HDN.out] at rc2
          by_cases hlt2 : n < dn
          · have hlt2' : (n : Int) < dn := by omega
            have hnd : n < done i := by rw [HDN.out]; exact hlt2
            have hnj : n < P.jn i := by omega
            obtain ⟨bj, oj, bx, ox, rfl, rfl, lj, lx, lx0, la0, cj, cx0, cx1⟩ := rj n hnd
            have KC := hide (HOK.out i n hlt hnj).1
            have AB := hide (HAB.out i hlt n hnd)
            have q0 := cj 0 (by decide)
            have q1 := cj 1 (by decide)
            have q2 := cj 2 (by decide)
            have q3 := cj 3 (by decide)
            have q4 := cj 4 (by decide)
            simp only [Jb.cell, Nat.add_zero] at q0 q1 q2 q3 q4
            obtain ⟨jj, hjj⟩ : ∃ jj, P.jb i n = jj := ⟨_, rfl⟩
            obtain ⟨xx, hxx⟩ : ∃ xx, ans i n = xx := ⟨_, rfl⟩
            have PG := hide (fun p => part_job (g := gv p) (P := P) (done := done) (ans := ans) (i := i) (n := n))
            have PR := hide (fun p => part_job (g := rp p) (P := P) (done := done) (ans := ans) (i := i) (n := n))
            have LG := hide (fun p => part_le (g := gv p) (P := P) (done := done) (ans := ans) (i := i) (n := n) (gv_le p) (fun h hh => (HJ.out h (by omega)).1))
            have LR := hide (fun p => part_le (g := rp p) (P := P) (done := done) (ans := ans) (i := i) (n := n) (rp_le p) (fun h hh => (HJ.out h (by omega)).1))
            rw [hjj] at q0 q1 q2 q3 q4 KC
            rw [hxx] at cx0 cx1 AB
            simp only [hjj, hxx] at PG PR
            have HXX := hide hxx
            obtain ⟨jk, ja, jb, jc, jh⟩ := jj
            obtain ⟨xo, xv⟩ := xx
            simp only at q0 q1 q2 q3 q4 cx0 cx1 KC AB
            obtain ⟨WJ, hWJ⟩ : ∃ WJ, W2.alloc (.cells #[.int .i64 jk, .int .i64 ja, .int .i64 jb, .int .i64 jc, .int .u64 jh] 44) = WJ := ⟨_, rfl⟩
            clear rj cj
            go_upto_region 11 with (fail)
            try rw [hWJ]
            have BJ := hide (show Below W2.heap.size W2 WJ from by rw [← hWJ]; exact (Below.refl _ W2).alloc (Nat.le_refl _) _)
            have RJ := hide (show WJ.rowIs W2.heap.size 44 5 (lrow [.int .i64 jk, .int .i64 ja, .int .i64 jb, .int .i64 jc, .int .u64 jh]) from by rw [← hWJ]; exact rowL_alloc W2 [.int .i64 jk, .int .i64 ja, .int .i64 jb, .int .i64 jc, .int .u64 jh] _ rfl)
            have RG1 := hide (show RI WJ g1 r (fun p => part (gv p) P done ans i n) from by rw [← hWJ]; exact HR1.out.alloc _)
            have RG2 := hide (show RI WJ g2 r (fun p => part (rp p) P done ans i n) from by rw [← hWJ]; exact HR2.out.alloc _)
            have BW := hide (HB1.out.trans (BJ.out.mono HB1.out.size))
            have k0 : WJ.cell? ⟨W2.heap.size, 0, none⟩ = some (.int .i64 jk) := RJ.out.cell (i := 0) (by decide)
            have k1 : WJ.cell? ⟨W2.heap.size, 1, none⟩ = some (.int .i64 ja) := RJ.out.cell (i := 1) (by decide)
            have lWJ := RJ.out.lt
            have lg2 : g1 < W2.heap.size ∧ g2 < W2.heap.size := ⟨HR1.out.lt, HR2.out.lt⟩
            have rc2 := (BJ.out.cell (p := ⟨ba, oa + i, none⟩) rl2).trans rc2
            have cx0 := (BJ.out.cell (p := ⟨bx, ox + n * 2, none⟩) lx).trans cx0
            have rl2 : ba < WJ.heap.size := by have := BJ.out.size; omega
            have lx : bx < WJ.heap.size := by have := BJ.out.size; omega
            clear q0 q1 q2 q3 q4 rc1 lj rl1 hWJ HR1 HR2
            by_cases k3 : jk = 3
            · subst k3
              have ga : 0 ≤ ja ∧ ja < r := by have := KC.out; omega
              obtain ⟨a, rfl⟩ : ∃ a : Nat, ja = a := ⟨ja.toNat, by omega⟩
              have ha : a < r := by omega
              cases xo with
              | true =>
                obtain ⟨c, hc⟩ : ∃ c : Int, ((part (gv a) P done ans i n : Nat) : Int) = c := ⟨_, rfl⟩
                have ca1 : WJ.cell? ⟨g1, a, none⟩ = some (.int .i64 c) := by rw [← hc]; exact RG1.out.cell ha
                have cf1 := RG1.out.frozen a
                have cb : 0 ≤ c ∧ c ≤ 4000 := by have := LG.out a; omega
                have lg1 : g1 < WJ.heap.size := RG1.out.lt
                have HC := hide hc
                clear hc
                go_upto_region 13 with (fail)
                obtain ⟨WX, hWX⟩ : ∃ WX, WJ.setCell ⟨g1, a, none⟩ (.int .i64 (c + 1)) = WX := ⟨_, rfl⟩
                obtain ⟨R1, R2, k0, lWX, B2⟩ : RI WX g1 r (fun p => part (gv p) P done ans i (n + 1)) ∧ RI WX g2 r (fun p => part (rp p) P done ans i n) ∧ WX.cell? ⟨W2.heap.size, 0, none⟩ = some (.int .i64 3) ∧ W2.heap.size < WX.heap.size ∧ Below w.heap.size w WX := by
                  rw [← hWX]
                  refine ⟨row_set RG1.out (by rw [PG.out a, ← HC.out]; simp [gv]) (fun q hq hne' => by simp only [PG.out q]; have : ¬ (a : Int) = q := (by omega); simp [gv, this]), World.rowIs.setOther RG2.out (by simpa using Ne.symm hne) _, ?_, ?_, ?_⟩
                  · exact (World.cell?_of_block (a := ⟨W2.heap.size, 0, none⟩) ((Touch.setCell (S := fun k => k = g1) (Touch.refl WJ _) ⟨g1, a, none⟩ (.inl rfl) _).block _ lWJ (by show W2.heap.size ≠ g1; omega))).trans k0
                  · simpa using lWJ
                  · exact BW.out.setCell (by simpa using hg1) _
                try rw [hWX]
                clear hWX k1 RG1 RG2 BW RJ BJ rc2 cx0 rl2 lx lWJ ca1 cf1 lg1 cb
                have HR1 := hide R1
                have HR2 := hide R2
                have HB2 := hide B2
                clear R1 R2 B2
                go_wp2_with fail
                go_loopw [14] (fun v wr => ∃ q : Nat, q ≤ r ∧ v = .int .i64 (q : Int) ∧ RI wr g1 r (fun p => part (gv p) P done ans i (n + 1)) ∧ RI wr g2 r (fun p => part (rp p) P done ans i n + (if p < q then rp p ⟨3, a, jb, jc, jh⟩ ⟨true, xv⟩ else 0)) ∧ wr.cell? ⟨W2.heap.size, 0, none⟩ = some (.int .i64 3) ∧ Below w.heap.size w wr) (fun v _ => r - (intOf v).toNat)
                case atStart => exact ⟨0, Nat.zero_le _, rfl, HR1.out, World.rowIs.congr HR2.out (fun q hq => by simp), k0, HB2.out⟩
                case round =>
                  clear HR1 HR2 HB2 k0 lWX
                  obtain ⟨q, hq, rfl, R1, R2, k0, B2⟩ := hrel
                  have HR1 := hide R1
                  have HR2 := hide R2
                  have HB2 := hide B2
                  obtain ⟨W3, hW3⟩ : ∃ W3, W3 = wr := ⟨_, rfl⟩
                  subst hW3
                  clear R1 R2 B2
                  have lk0 : W2.heap.size < W3.heap.size := World.block_lt_of_cell? _ _ k0
                  have DONE := hide (fun (h : (3 : Int) = 4 → q = r) => show RI W3 g2 r (fun p => part (rp p) P done ans i (n + 1)) from World.rowIs.congr HR2.out (fun p hp => by
                    simp only [PR.out p]
                    by_cases h4 : (3 : Int) = 4
                    · rw [if_pos (by rw [h h4]; exact hp)]
                    · simp [rp, h4]))
                  by_cases hlt3 : q < r
                  · have hlt3' : (q : Int) < r := by omega
                    go_wp2_with fail
                    go_roundw
                    case rel => exact ⟨n + 1, hlt2, vi_b, HR1.out, DONE.out (fun h => absurd h (by decide)), HB2.out⟩
                    case measure => exact meas_b hlt2
                  · have hlt3' : ¬ (q : Int) < r := by omega
                    go_wp2_with fail
                    go_roundw
                    case rel => exact ⟨n + 1, hlt2, vi_b, HR1.out, DONE.out (fun h => absurd h (by decide)), HB2.out⟩
                    case measure => exact meas_b hlt2
              | false =>
                go_upto_region 13 with (fail)
                obtain ⟨WX, hWX⟩ : ∃ WX, WJ = WX := ⟨_, rfl⟩
                obtain ⟨R1, R2, k0, lWX, B2⟩ : RI WX g1 r (fun p => part (gv p) P done ans i (n + 1)) ∧ RI WX g2 r (fun p => part (rp p) P done ans i n) ∧ WX.cell? ⟨W2.heap.size, 0, none⟩ = some (.int .i64 3) ∧ W2.heap.size < WX.heap.size ∧ Below w.heap.size w WX := by
                  rw [← hWX]
                  exact ⟨World.rowIs.congr RG1.out (fun q hq => by simp only [PG.out q]; simp [gv]), RG2.out, k0, lWJ, BW.out⟩
                try rw [hWX]
                clear hWX k1 RG1 RG2 BW RJ BJ rc2 cx0 rl2 lx lWJ
                have HR1 := hide R1
                have HR2 := hide R2
                have HB2 := hide B2
                clear R1 R2 B2
                go_wp2_with fail
                go_loopw [14] (fun v wr => ∃ q : Nat, q ≤ r ∧ v = .int .i64 (q : Int) ∧ RI wr g1 r (fun p => part (gv p) P done ans i (n + 1)) ∧ RI wr g2 r (fun p => part (rp p) P done ans i n + (if p < q then rp p ⟨3, a, jb, jc, jh⟩ ⟨false, xv⟩ else 0)) ∧ wr.cell? ⟨W2.heap.size, 0, none⟩ = some (.int .i64 3) ∧ Below w.heap.size w wr) (fun v _ => r - (intOf v).toNat)
                case atStart => exact ⟨0, Nat.zero_le _, rfl, HR1.out, World.rowIs.congr HR2.out (fun q hq => by simp), k0, HB2.out⟩
                case round =>
                  clear HR1 HR2 HB2 k0 lWX
                  obtain ⟨q, hq, rfl, R1, R2, k0, B2⟩ := hrel
                  have HR1 := hide R1
                  have HR2 := hide R2
                  have HB2 := hide B2
                  obtain ⟨W3, hW3⟩ : ∃ W3, W3 = wr := ⟨_, rfl⟩
                  subst hW3
                  clear R1 R2 B2
                  have lk0 : W2.heap.size < W3.heap.size := World.block_lt_of_cell? _ _ k0
                  have DONE := hide (fun (h : (3 : Int) = 4 → q = r) => show RI W3 g2 r (fun p => part (rp p) P done ans i (n + 1)) from World.rowIs.congr HR2.out (fun p hp => by
                    simp only [PR.out p]
                    by_cases h4 : (3 : Int) = 4
                    · rw [if_pos (by rw [h h4]; exact hp)]
                    · simp [rp, h4]))
                  by_cases hlt3 : q < r
                  · have hlt3' : (q : Int) < r := by omega
                    go_wp2_with fail
                    go_roundw
                    case rel => exact ⟨n + 1, hlt2, vi_b, HR1.out, DONE.out (fun h => absurd h (by decide)), HB2.out⟩
                    case measure => exact meas_b hlt2
                  · have hlt3' : ¬ (q : Int) < r := by omega
                    go_wp2_with fail
                    go_roundw
                    case rel => exact ⟨n + 1, hlt2, vi_b, HR1.out, DONE.out (fun h => absurd h (by decide)), HB2.out⟩
                    case measure => exact meas_b hlt2
            · skip
              have k3' : (jk == 3) = false := by simpa using k3
              go_upto_region 13 with (fail)
              obtain ⟨WX, hWX⟩ : ∃ WX, WJ = WX := ⟨_, rfl⟩
              obtain ⟨R1, R2, k0, lWX, B2⟩ : RI WX g1 r (fun p => part (gv p) P done ans i (n + 1)) ∧ RI WX g2 r (fun p => part (rp p) P done ans i n) ∧ WX.cell? ⟨W2.heap.size, 0, none⟩ = some (.int .i64 jk) ∧ W2.heap.size < WX.heap.size ∧ Below w.heap.size w WX := by
                rw [← hWX]
                exact ⟨World.rowIs.congr RG1.out (fun q hq => by simp only [PG.out q]; simp [gv, k3]), RG2.out, k0, lWJ, BW.out⟩
              try rw [hWX]
              clear hWX k1 RG1 RG2 BW RJ BJ rc2 cx0 rl2 lx lWJ
              have HR1 := hide R1
              have HR2 := hide R2
              have HB2 := hide B2
              clear R1 R2 B2
              go_wp2_with fail
              go_loopw [14] (fun v wr => ∃ q : Nat, q ≤ r ∧ v = .int .i64 (q : Int) ∧ RI wr g1 r (fun p => part (gv p) P done ans i (n + 1)) ∧ RI wr g2 r (fun p => part (rp p) P done ans i n + (if p < q then rp p ⟨jk, ja, jb, jc, jh⟩ ⟨xo, xv⟩ else 0)) ∧ wr.cell? ⟨W2.heap.size, 0, none⟩ = some (.int .i64 jk) ∧ Below w.heap.size w wr) (fun v _ => r - (intOf v).toNat)
              case atStart => exact ⟨0, Nat.zero_le _, rfl, HR1.out, World.rowIs.congr HR2.out (fun q hq => by simp), k0, HB2.out⟩
              case round =>
                clear HR1 HR2 HB2 k0 lWX
                obtain ⟨q, hq, rfl, R1, R2, k0, B2⟩ := hrel
                have HR1 := hide R1
                have HR2 := hide R2
                have HB2 := hide B2
                obtain ⟨W3, hW3⟩ : ∃ W3, W3 = wr := ⟨_, rfl⟩
                subst hW3
                clear R1 R2 B2
                have lk0 : W2.heap.size < W3.heap.size := World.block_lt_of_cell? _ _ k0
                have DONE := hide (fun (h : jk = 4 → q = r) => show RI W3 g2 r (fun p => part (rp p) P done ans i (n + 1)) from World.rowIs.congr HR2.out (fun p hp => by
                  simp only [PR.out p]
                  by_cases h4 : jk = 4
                  · rw [if_pos (by rw [h h4]; exact hp)]
                  · simp [rp, h4]))
                by_cases h4 : jk = 4
                · subst h4
                  by_cases hlt3 : q < r
                  · have hlt3' : (q : Int) < r := by omega
                    obtain ⟨_, rc2, _, rl2, rj⟩ := RR.out W3 HB2.out
                    rw [HDN.out] at rc2
                    obtain ⟨bj', oj', bx', ox', e1, e2, _, lx, _, _, _, _, cx1⟩ := rj n hnd
                    cases e1
                    cases e2
                    rw [HXX.out] at cx1
                    simp only at cx1
                    obtain ⟨c, hc⟩ : ∃ c : Int, ((part (rp q) P done ans i n : Nat) : Int) = c := ⟨_, rfl⟩
                    have ca2 : W3.cell? ⟨g2, q, none⟩ = some (.int .i64 c) := by rw [← hc]; have := HR2.out.cell hlt3; simpa using this
                    have cf2 := HR2.out.frozen q
                    have lg2' : g2 < W3.heap.size := HR2.out.lt
                    have cb : 0 ≤ c ∧ c ≤ 4000 := by have := LR.out q; omega
                    have HC := hide hc
                    clear hc rj
                    go_wp2_with fail
                    have b1 := bit_and q AB.out
                    obtain ⟨bb, hbb⟩ : ∃ bb : Int, ((bit q xv : Nat) : Int) = bb := ⟨_, rfl⟩
                    rw [hbb] at b1
                    have b0 : 0 ≤ bb ∧ bb ≤ 1 := by have := bit_le q xv; omega
                    have b2 : wrap64 bb = bb := by unfold wrap64; omega
                    have b3 : wrap64 (c + bb) = c + bb := by unfold wrap64; omega
                    have HBB := hide hbb
                    clear hbb b0 cb
                    go_region
                    clear b1 b2 b3
                    go_wp2_with fail
                    go_roundw
                    case rel =>
                      refine ⟨q + 1, hlt3, vi_b, World.rowIs.drew (World.rowIs.setOther HR1.out (by simpa using hne) _), World.rowIs.drew (row_set HR2.out ?_ (fun p hp hpn => ?_)), ?_, Below.drew (HB2.out.setCell (by simpa using hg2) _)⟩
                      · rw [← HC.out, ← HBB.out, if_pos (by omega)]
                        simp [rp]
                      · by_cases hpq : p < q
                        · rw [if_pos hpq, if_pos (by omega)]
                        · rw [if_neg hpq, if_neg (by omega)]
                      · exact (World.cell?_of_block (a := ⟨W2.heap.size, 0, none⟩) ((Touch.setCell (S := fun k => k = g2) (Touch.refl W3 _) ⟨g2, q, none⟩ (.inl rfl) _).drew.block _ lk0 (by show W2.heap.size ≠ g2; omega))).trans k0
                    case measure => exact meas_b hlt3
                  · have hlt3' : ¬ (q : Int) < r := by omega
                    go_wp2_with fail
                    go_roundw
                    case rel => exact ⟨n + 1, hlt2, vi_b, HR1.out, DONE.out (fun _ => by omega), HB2.out⟩
                    case measure => exact meas_b hlt2
                · have h4' : (jk == 4) = false := by simpa using h4
                  by_cases hlt3 : q < r
                  · have hlt3' : (q : Int) < r := by omega
                    go_wp2_with fail
                    go_roundw
                    case rel => exact ⟨n + 1, hlt2, vi_b, HR1.out, DONE.out (fun h => absurd h h4), HB2.out⟩
                    case measure => exact meas_b hlt2
                  · have hlt3' : ¬ (q : Int) < r := by omega
                    go_wp2_with fail
                    go_roundw
                    case rel => exact ⟨n + 1, hlt2, vi_b, HR1.out, DONE.out (fun h => absurd h h4), HB2.out⟩
                    case measure => exact meas_b hlt2
          · have hlt2' : ¬ (n : Int) < dn := by omega
            have en : n = dn := by omega
            subst en
            go_wp2_with fail
            go_roundw
            case rel =>
              have e1 : ∀ g, part g P done ans (i + 1) 0 = part g P done ans i n := fun g => by rw [← part_hand, HDN.out]
              exact ⟨i + 1, hlt, vi_b, World.rowIs.congr HR1.out (fun q hq => by simp only [e1]), World.rowIs.congr HR2.out (fun q hq => by simp only [e1]), HB1.out⟩
            case measure => exact meas_b hlt
      · have hlt' : ¬ (i : Int) < P.nh := by omega
        have ei : i = P.nh := by omega
        subst ei
        go_wp2_with fail
        go_light
        refine bodyPost_ret (v := .tuple #[.slice (some ⟨g1, 0, none⟩) r r, .slice (some ⟨g2, 0, none⟩) r r, .bool true]) ?_ rfl ⟨HB1.out, g1, g2, rfl, HR1.out, HR2.out⟩
        simp [results, Try.results27, go_sem]
end Epoch
end Go.Proofs.Ytdflicgjkleonaa
