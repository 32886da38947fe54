/-
  Lemmas: BellN, BellO, BellQ.
-/
import Derived.Test.YtbjlpmahomjgjaaTp21
import Derived.Test.YtbjlpmahomjgjaaTp05
set_option linter.unusedVariables false
set_option linter.unusedSimpArgs false
namespace Go.Proofs.Ytbjlpmahomjgjaa
open Go.RowKit
namespace Bell

theorem cnt_on {g g' : Nat → Bool} {h : Nat} (h0 : g h = false) (h1 : g' h = true) (he : ∀ j, j ≠ h → g' j = g j) : ∀ n, h < n → cnt g' n = cnt g n + 1
  | 0, hh => absurd hh (Nat.not_lt_zero h)
  | n + 1, hh => by
    simp only [cnt]
    by_cases e : h = n
    · subst e
      rw [cnt_congr (g' := g) (fun i hi => he i (by omega)), h0, h1]
      simp
    · rw [cnt_on h0 h1 he n (by omega), he n (fun x => e x.symm)]
      omega
theorem cnt_lt {g : Nat → Bool} {h : Nat} (h0 : g h = false) : ∀ n, h < n → cnt g n < n
  | 0, hh => absurd hh (Nat.not_lt_zero h)
  | n + 1, hh => by
    simp only [cnt]
    by_cases e : h = n
    · subst e
      rw [h0]
      have := cnt_le g h
      simp
      omega
    · have := cnt_lt h0 n (by omega)
      split <;> omega
theorem cnt_full {g : Nat → Bool} {n : Nat} (h : cnt g n = n) : ∀ i, i < n → g i = true := fun i hi => by
  cases e : g i with
  | true => rfl
  | false => have := cnt_lt e n hi; omega

/-- Is it who lets the others go? -/
def isL (n : Nat) (c : BeS) : Prop := (c.st = 2 ∧ c.rung = n) ∨ c.st = 4
/-- Has hand h added itself in the round R? -/
def inR (cur : Nat → BeS) (d : Nat → Nat) (R : Nat) (h : Nat) : Bool := decide (¬ (cur h).st = 0 ∧ ¬ (cur h).st = 1 ∧ d h = R)
/-- A hand that has ended d Rings, in round R. -/
inductive HOk (n : Nat) (c : BeS) (d R : Nat) : Prop where
  | look (s : c.st = 0) (e : d = R)
  | count (s : c.st = 1) (e : d = R) (m : c.mine = R)
  | part (s : c.st = 2) (m : c.mine = d) (q : ¬ c.rung = n) (e : d = R ∨ d + 1 = R)
  | clear (s : c.st = 2) (m : c.mine = d) (q : c.rung = n) (e : d = R)
  | letgo (s : c.st = 4) (m : c.mine = d) (e : d = R)
  | wait (s : c.st = 5) (m : c.mine = d) (e : d = R ∨ d + 1 = R)
inductive Ph (n : Nat) (F0 : Int) (cur : Nat → BeS) (d : Nat → Nat) (R : Nat) : Prop where
  | no (a : ∀ h, h < n → ¬ isL n (cur h)) (f : F0 = cnt (inR cur d R) n) (l : cnt (inR cur d R) n < n)
  | clr (l : Nat) (hl : l < n) (s : (cur l).st = 2) (q : (cur l).rung = n) (a : ∀ h, h < n → h ≠ l → ¬ isL n (cur h)) (f : F0 = n) (al : ∀ h, h < n → inR cur d R h = true)
  | lets (l : Nat) (hl : l < n) (s : (cur l).st = 4) (a : ∀ h, h < n → h ≠ l → ¬ isL n (cur h)) (f : F0 = 0) (al : ∀ h, h < n → inR cur d R h = true)
structure BI (n : Nat) (F1 F0 : Int) (cur : Nat → BeS) (d : Nat → Nat) (R : Nat) : Prop where
  rnd : F1 = R
  ok : ∀ h, h < n → HOk n (cur h) (d h) R
  ph : Ph n F0 cur d R

section
variable {n : Nat} {F1 F0 : Int} {cur : Nat → BeS} {d : Nat → Nat} {R h : Nat}

theorem inR_of {cur cur' : Nat → BeS} {d d' : Nat → Nat} {q : Nat} (e : cur' q = cur q) (e' : d' q = d q) : inR cur' d' R q = inR cur d R q := by simp only [inR, e, e']

/-- A hand turns its state, in or out of the round as it was, and is not the one who lets go. -/
theorem BI.turn (H : BI n F1 F0 cur d R) (hh : h < n) {c' : BeS} {e' : Nat} (hok : HOk n c' e' R) (hl : ¬ isL n (cur h)) (hl' : ¬ isL n c') (hin : inR (upd cur h c') (upd d h e') R h = inR cur d R h) : BI n F1 F0 (upd cur h c') (upd d h e') R := by
  have same : ∀ q, inR (upd cur h c') (upd d h e') R q = inR cur d R q := fun q => by
    by_cases e : q = h
    · subst e; exact hin
    · exact inR_of (upd_other _ _ e) (upd_other _ _ e)
  have hsame : inR (upd cur h c') (upd d h e') R = inR cur d R := funext same
  refine ⟨H.rnd, fun q hq => ?_, ?_⟩
  · by_cases e : q = h
    · subst e; rw [upd_same, upd_same]; exact hok
    · rw [upd_other _ _ e, upd_other _ _ e]; exact H.ok q hq
  · rcases H.ph with ⟨a, f, l⟩ | ⟨l, hl1, s, q, a, f, al⟩ | ⟨l, hl1, s, a, f, al⟩
    · refine .no (fun q hq => ?_) (by rw [hsame]; exact f) (by rw [hsame]; exact l)
      by_cases e : q = h
      · subst e; rw [upd_same]; exact hl'
      · rw [upd_other _ _ e]; exact a q hq
    · have hne : l ≠ h := fun e => hl (by subst e; exact .inl ⟨s, q⟩)
      refine .clr l hl1 (by rw [upd_other _ _ hne]; exact s) (by rw [upd_other _ _ hne]; exact q) (fun q' hq' hn => ?_) f (fun q' hq' => by rw [same]; exact al q' hq')
      by_cases e : q' = h
      · subst e; rw [upd_same]; exact hl'
      · rw [upd_other _ _ e]; exact a q' hq' hn
    · have hne : l ≠ h := fun e => hl (by subst e; exact .inr s)
      refine .lets l hl1 (by rw [upd_other _ _ hne]; exact s) (fun q' hq' hn => ?_) f (fun q' hq' => by rw [same]; exact al q' hq')
      by_cases e : q' = h
      · subst e; rw [upd_same]; exact hl'
      · rw [upd_other _ _ e]; exact a q' hq' hn

theorem notL {c : BeS} (h2 : ¬ (c.st = 2 ∧ c.rung = n)) (h4 : ¬ c.st = 4) : ¬ isL n c := fun h => by rcases h with h | h; exact h2 h; exact h4 h

/-- It looks at the round. -/
theorem BI.looks (H : BI n F1 F0 cur d R) (hh : h < n) (s : (cur h).st = 0) : BI n F1 F0 (upd cur h { cur h with mine := F1, st := 1 }) d R := by
  have hd : d h = R := by
    rcases H.ok h hh with ⟨_, e⟩ | ⟨s', _⟩ | ⟨s', _⟩ | ⟨s', _⟩ | ⟨s', _⟩ | ⟨s', _⟩
    · exact e
    all_goals (rw [s] at s'; exact absurd s' (by decide))
  have := H.turn hh (c' := { cur h with mine := F1, st := 1 }) (e' := d h) (.count rfl hd H.rnd) (notL (by simp [s]) (by simp [s])) (notL (by simp) (by simp)) (by simp [inR, s])
  rwa [show upd d h (d h) = d from funext fun q => by by_cases e : q = h; subst e; simp; rw [upd_other _ _ e]] at this

/-- It adds itself. -/
theorem BI.counts (H : BI n F1 F0 cur d R) (hh : h < n) (s : (cur h).st = 1) : BI n F1 (F0 + 1) (upd cur h { cur h with rung := F0 + 1, st := 2 }) d R ∧ 0 ≤ F0 ∧ F0 < n := by
  have hd : d h = R ∧ (cur h).mine = R := by
    rcases H.ok h hh with ⟨s', _⟩ | ⟨_, e, m⟩ | ⟨s', _⟩ | ⟨s', _⟩ | ⟨s', _⟩ | ⟨s', _⟩
    rotate_left
    · exact ⟨e, m⟩
    all_goals (rw [s] at s'; exact absurd s' (by decide))
  have hout : inR cur d R h = false := by simp [inR, s]
  have hoth : ∀ q, q ≠ h → inR (upd cur h { cur h with rung := F0 + 1, st := 2 }) d R q = inR cur d R q := fun q e => inR_of (upd_other _ _ e) rfl
  have hin : inR (upd cur h { cur h with rung := F0 + 1, st := 2 }) d R h = true := by simp [inR, hd.1]
  rcases H.ph with ⟨a, f, l⟩ | ⟨l, hl1, _, _, _, _, al⟩ | ⟨l, hl1, _, _, _, al⟩
  · have hc := cnt_on hout hin hoth n hh
    refine ⟨⟨H.rnd, fun q hq => ?_, ?_⟩, by omega, by omega⟩
    · by_cases e : q = h
      · subst e
        rw [upd_same]
        by_cases hq : F0 + 1 = (n : Int)
        · exact .clear rfl (by show (cur q).mine = _; rw [hd.2, hd.1]) hq hd.1
        · exact .part rfl (by show (cur q).mine = _; rw [hd.2, hd.1]) hq (.inl hd.1)
      · rw [upd_other _ _ e]; exact H.ok q hq
    · by_cases hq : F0 + 1 = (n : Int)
      · have hfull : cnt (inR (upd cur h { cur h with rung := F0 + 1, st := 2 }) d R) n = n := by omega
        refine .clr h hh (by rw [upd_same]) (by rw [upd_same]; exact hq) (fun q hq' hn => by rw [upd_other _ _ hn]; exact a q hq') hq (cnt_full hfull)
      · refine .no (fun q hq' => ?_) (by rw [hc, f]; omega) (by rw [hc]; omega)
        by_cases e : q = h
        · subst e
          rw [upd_same]
          exact notL (fun ⟨_, h2⟩ => hq h2) (by simp)
        · rw [upd_other _ _ e]; exact a q hq'
  · have := al h hh; rw [hout] at this; cases this
  · have := al h hh; rw [hout] at this; cases this

/-- Who rang last clears. -/
theorem BI.clears (H : BI n F1 F0 cur d R) (hh : h < n) (s : (cur h).st = 2) (q : (cur h).rung = n) : BI n F1 0 (upd cur h { cur h with st := 4 }) d R := by
  have hd : d h = R ∧ (cur h).mine = d h := by
    rcases H.ok h hh with ⟨s', _⟩ | ⟨s', _⟩ | ⟨_, _, q', _⟩ | ⟨_, m, _, e⟩ | ⟨s', _⟩ | ⟨s', _⟩
    rotate_left 3
    · exact ⟨e, m⟩
    rotate_left 2
    rotate_left 2
    · exact absurd q q'
    all_goals (rw [s] at s'; exact absurd s' (by decide))
  have hall : ∀ p, inR (upd cur h { cur h with st := 4 }) d R p = inR cur d R p := fun p => by
    by_cases e : p = h
    · subst e; simp [inR, s]
    · exact inR_of (upd_other _ _ e) rfl
  rcases H.ph with ⟨a, _, _⟩ | ⟨l, hl1, s1, q1, a, f, al⟩ | ⟨l, hl1, s1, a, f, al⟩
  · exact absurd (.inl ⟨s, q⟩) (a h hh)
  · have el : l = h := by
      by_cases e : h = l
      · exact e.symm
      · exact absurd (.inl ⟨s, q⟩) (a h hh e)
    subst el
    refine ⟨H.rnd, fun p hp => ?_, .lets l hh (by rw [upd_same]) (fun p hp hn => by rw [upd_other _ _ hn]; exact a p hp hn) rfl (fun p hp => by rw [hall]; exact al p hp)⟩
    by_cases e : p = l
    · subst e; rw [upd_same]; exact .letgo rfl hd.2 hd.1
    · rw [upd_other _ _ e]; exact H.ok p hp
  · have hne : h ≠ l := fun e => by subst e; rw [s] at s1; exact absurd s1 (by decide)
    exact absurd (.inl ⟨s, q⟩) (a h hh hne)

/-- It lets the others go: the next round. -/
theorem BI.lets (H : BI n F1 F0 cur d R) (hh : h < n) (s : (cur h).st = 4) (j : Jb) (hand : Int) : BI n (R + 1) F0 (upd cur h (binit hand j)) (upd d h (d h + 1)) (R + 1) ∧ (cur h).mine = R ∧ d h = R ∧ F0 = 0 ∧ ∀ q, q < n → q ≠ h → d q = R := by
  have hd : d h = R ∧ (cur h).mine = d h := by
    rcases H.ok h hh with ⟨s', _⟩ | ⟨s', _⟩ | ⟨s', _⟩ | ⟨s', _⟩ | ⟨_, m, e⟩ | ⟨s', _⟩
    rotate_left 4
    · exact ⟨e, m⟩
    all_goals (rw [s] at s'; exact absurd s' (by decide))
  rcases H.ph with ⟨a, _, _⟩ | ⟨l, hl1, s1, q1, a, f, al⟩ | ⟨l, hl1, s1, a, f, al⟩
  · exact absurd (.inr s) (a h hh)
  · have hne : h ≠ l := fun e => by subst e; rw [s] at s1; exact absurd s1 (by decide)
    exact absurd (.inr s) (a h hh hne)
  · have el : l = h := by
      by_cases e : h = l
      · exact e.symm
      · exact absurd (.inr s) (a h hh e)
    subst el
    have hin : ∀ q, q < n → ¬ (cur q).st = 0 ∧ ¬ (cur q).st = 1 ∧ d q = R := fun q hq => by have := al q hq; simpa [inR] using this
    have hno : ∀ q, inR (upd cur l (binit hand j)) (upd d l (d l + 1)) (R + 1) q = false ∨ n ≤ q := fun q => by
      by_cases hq : q < n
      · refine .inl ?_
        by_cases e : q = l
        · subst e; simp [inR, binit]
        · have := (hin q hq).2.2
          simp only [inR, upd_other _ _ e]
          simp [this]
      · exact .inr (by omega)
    have hz : cnt (inR (upd cur l (binit hand j)) (upd d l (d l + 1)) (R + 1)) n = 0 := cnt_none fun i hi => by
      rcases hno i with e | e
      · exact e
      · omega
    refine ⟨⟨by simp, fun q hq => ?_, .no (fun q hq => ?_) (by rw [hz, f]; rfl) (by rw [hz]; omega)⟩, by rw [hd.2, hd.1], hd.1, f, fun q hq _ => (hin q hq).2.2⟩
    · by_cases e : q = l
      · subst e; rw [upd_same, upd_same]; exact .look rfl (by rw [hd.1])
      · rw [upd_other _ _ e, upd_other _ _ e]
        have hi := hin q hq
        rcases H.ok q hq with ⟨s', _⟩ | ⟨s', _⟩ | ⟨s', m, q', _⟩ | ⟨s', _, q', _⟩ | ⟨s', _⟩ | ⟨s', m, _⟩
        · exact absurd s' hi.1
        · exact absurd s' hi.2.1
        · exact .part s' m q' (.inr (by rw [hi.2.2]))
        · exact absurd (.inl ⟨s', q'⟩) (a q hq e)
        · exact absurd (.inr s') (a q hq e)
        · exact .wait s' m (.inr (by rw [hi.2.2]))
    · by_cases e : q = l
      · subst e; rw [upd_same]; exact notL (by simp [binit]) (by simp [binit])
      · rw [upd_other _ _ e]; exact a q hq e

/-- It waits on, or its round has passed. -/
theorem BI.waits (H : BI n F1 F0 cur d R) (hh : h < n) (s : ((cur h).st = 2 ∧ ¬ (cur h).rung = n) ∨ (cur h).st = 5) (j : Jb) (hand : Int) :
    (cur h).mine = d h ∧ ((F1 = (cur h).mine ∧ d h = R ∧ BI n F1 F0 (upd cur h { cur h with st := 5 }) d R) ∨ (¬ F1 = (cur h).mine ∧ d h + 1 = R ∧ BI n F1 F0 (upd cur h (binit hand j)) (upd d h (d h + 1)) R)) := by
  have hd : (cur h).mine = d h ∧ (d h = R ∨ d h + 1 = R) ∧ ¬ (cur h).st = 0 ∧ ¬ (cur h).st = 1 ∧ ¬ (cur h).st = 4 ∧ ¬ ((cur h).st = 2 ∧ (cur h).rung = n) := by
    rcases H.ok h hh with ⟨s', _⟩ | ⟨s', _⟩ | ⟨s', m, q', e⟩ | ⟨s', m, q', e⟩ | ⟨s', _⟩ | ⟨s', m, e⟩
    · rcases s with s | s <;> simp [s'] at s
    · rcases s with s | s <;> simp [s'] at s
    · exact ⟨m, e, by rw [s']; decide, by rw [s']; decide, by rw [s']; decide, fun h => q' h.2⟩
    · rcases s with s | s
      · exact absurd q' s.2
      · simp [s'] at s
    · rcases s with s | s <;> simp [s'] at s
    · exact ⟨m, e, by rw [s']; decide, by rw [s']; decide, by rw [s']; decide, fun h => by rw [s'] at h; exact absurd h.1 (by decide)⟩
  obtain ⟨m, e, h0, h1, h4, h2⟩ := hd
  refine ⟨m, ?_⟩
  rcases e with e | e
  · refine .inl ⟨by rw [H.rnd, m, e], e, ?_⟩
    have := H.turn hh (c' := { cur h with st := 5 }) (e' := d h) (.wait rfl m (.inl e)) (notL h2 h4) (notL (by simp) (by simp)) (by simp [inR, h0, h1])
    rwa [show upd d h (d h) = d from funext fun q => by by_cases e : q = h; subst e; simp; rw [upd_other _ _ e]] at this
  · refine .inr ⟨by rw [H.rnd, m]; omega, e, ?_⟩
    exact H.turn hh (c' := binit hand j) (e' := d h + 1) (.look rfl e) (notL h2 h4) (notL (by simp [binit]) (by simp [binit])) (by simp [inR, binit, h0, h1]; omega)

/-- How many adds a hand has made. -/
def adds (cur : Nat → BeS) (d : Nat → Nat) (h : Nat) : Nat := if (cur h).st = 0 ∨ (cur h).st = 1 then d h else d h + 1
/-- Nobody is more than a round ahead, and nobody behind. -/
theorem BI.adds_of (H : BI n F1 F0 cur d R) (hh : h < n) : R ≤ adds cur d h ∧ adds cur d h ≤ R + 1 ∧ d h ≤ R ∧ R ≤ d h + 1 := by
  unfold adds
  rcases H.ok h hh with ⟨s', e⟩ | ⟨s', e, _⟩ | ⟨s', m, q', e⟩ | ⟨s', m, q', e⟩ | ⟨s', _, e⟩ | ⟨s', m, e⟩
  all_goals (rw [s']; simp; omega)

theorem BI.start (hn : 1 ≤ n) (P : Par) : BI n 0 0 (fun h => binit h (P.jb h 0)) (fun _ => 0) 0 :=
  ⟨rfl, fun _ _ => .look rfl rfl, .no (fun _ _ => notL (by simp [binit]) (by simp [binit])) (by rw [cnt_none (fun i _ => by simp [inR, binit])]; rfl) (by rw [cnt_none (fun i _ => by simp [inR, binit])]; omega)⟩
end
end Bell
end Go.Proofs.Ytbjlpmahomjgjaa

namespace Go.Proofs.Ytbjlpmahomjgjaa
open Go.RowKit
namespace Bell

theorem step2 {f : Nat → Int} {hand act at_ had put : Int} {ok : Bool} (h0 : 0 ≤ at_) (h2 : at_ < 2) : (stepOf 2 f ⟨hand, act, at_, had, put, ok⟩).hand = hand ∧ (stepOf 2 f ⟨hand, act, at_, had, put, ok⟩).act = actOf act ∧ (stepOf 2 f ⟨hand, act, at_, had, put, ok⟩).at_ = at_ ∧ (stepOf 2 f ⟨hand, act, at_, had, put, ok⟩).had = f at_.toNat ∧
    wordsOf 2 f ⟨hand, act, at_, had, put, ok⟩ = putF f at_.toNat (putBy (actOf act) (f at_.toNat) had put) := by
  have h : 0 ≤ at_ ∧ at_ < ((2 : Nat) : Int) := ⟨h0, by omega⟩
  refine ⟨?_, ?_, ?_, ?_, ?_⟩
  all_goals simp only [wordsOf, stepOf, if_pos h]

/-- What a step of hand h is, in the law's words. -/
structure StepIs (n : Nat) (cur : Nat → BeS) (d : Nat → Nat) (cur' : Nat → BeS) (x : Stp) (d' : Nat → Nat) (h : Nat) : Prop where
  hand : x.hand = h
  add : ∀ q, adds cur' d' q = adds cur d q + (if q = h ∧ x.act = 4 then 1 else 0)
  ends : bends n (cur h) x = true ↔ (x.act = 2 ∧ x.at_ = 1) ∨ (x.act = 1 ∧ x.at_ = 1 ∧ d h < adds cur d h ∧ ¬ x.had = d h)
  tell : bends n (cur h) x = true → (bnext n (cur h) x).told = ⟨decide ((cur h).st = 4), d h⟩
  own : (cur' h).hand = h

theorem put_load (f : Nat → Int) (k : Nat) (a b : Int) : putF f k (putBy (actOf 1) (f k) a b) = f := by
  funext j
  unfold putF
  split
  · rename_i h; subst h; simp [putBy, actOf]
  · rfl

section
variable {n : Nat} {f : Nat → Int} {cur : Nat → BeS} {d : Nat → Nat} {R h : Nat}
theorem adds_other (c' : BeS) (d' : Nat → Nat) {q : Nat} (e : q ≠ h) (e' : d' q = d q) : adds (upd cur h c') d' q = adds cur d q := by
  unfold adds
  rw [upd_other _ _ e, e']

theorem step_pure (h8 : n ≤ 8) (H : BI n (f 1) (f 0) cur d R) (hR : R ≤ 1000) (hh : h < n) (hhand : (cur h).hand = h) (j : Jb) :
    ∃ R', BI n (wordsOf 2 f (breq n (cur h)) 1) (wordsOf 2 f (breq n (cur h)) 0) (upd cur h (if bends n (cur h) (stepOf 2 f (breq n (cur h))) = true then binit h j else bnext n (cur h) (stepOf 2 f (breq n (cur h))))) (if bends n (cur h) (stepOf 2 f (breq n (cur h))) = true then upd d h (d h + 1) else d) R' ∧
      (R' = R + 1 ∧ (cur h).st = 4 ∨ R' = R ∧ ¬ (cur h).st = 4) ∧ StepIs n cur d (upd cur h (if bends n (cur h) (stepOf 2 f (breq n (cur h))) = true then binit h j else bnext n (cur h) (stepOf 2 f (breq n (cur h))))) (stepOf 2 f (breq n (cur h))) (if bends n (cur h) (stepOf 2 f (breq n (cur h))) = true then upd d h (d h + 1) else d) h := by
  have hst : (cur h).st = 0 ∨ (cur h).st = 1 ∨ ((cur h).st = 2 ∧ (cur h).rung = n) ∨ (((cur h).st = 2 ∧ ¬ (cur h).rung = n) ∨ (cur h).st = 5) ∨ (cur h).st = 4 := by
    rcases H.ok h hh with ⟨s', _⟩ | ⟨s', _⟩ | ⟨s', _, q', _⟩ | ⟨s', _, q', _⟩ | ⟨s', _⟩ | ⟨s', _⟩
    · exact .inl s'
    · exact .inr (.inl s')
    · exact .inr (.inr (.inr (.inl (.inl ⟨s', q'⟩))))
    · exact .inr (.inr (.inl ⟨s', q'⟩))
    · exact .inr (.inr (.inr (.inr s')))
    · exact .inr (.inr (.inr (.inl (.inr s'))))
  rcases hst with s | s | ⟨s, q⟩ | s | s
  · -- it looks
    obtain ⟨x1, x2, x3, x4, x5⟩ := step2 (f := f) (hand := h) (act := 1) (at_ := 1) (had := 0) (put := 0) (ok := true) (by decide) (by decide)
    obtain ⟨x, hx⟩ : ∃ x, stepOf 2 f ⟨h, 1, 1, 0, 0, true⟩ = x := ⟨_, rfl⟩
    rw [hx] at x1 x2 x3 x4
    replace x2 : x.act = 1 := x2
    have e4 : breq n (cur h) = ⟨h, 1, 1, 0, 0, true⟩ := by simp [breq, s, hhand]
    rw [e4, hx, x5]
    have e5 : bends n (cur h) x = false := by simp [bends, s]
    have e7 : bnext n (cur h) x = { cur h with mine := f 1, st := 1 } := by simp [bnext, s, x4]
    rw [e5, e7, if_neg (by decide), if_neg (by decide), show ((1 : Int).toNat) = 1 from rfl, put_load]
    refine ⟨R, H.looks hh s, .inr ⟨rfl, by rw [s]; decide⟩, x1, fun p => ?_, ?_, fun t => absurd (e5.symm.trans t) (by decide), by rw [upd_same]; exact hhand⟩
    · by_cases e : p = h
      · subst e; simp [adds, s, x2]
      · rw [adds_other _ _ e rfl]; simp [e]
    · rw [e5, x2, x3]; simp [adds, s]
  · -- it adds itself
    obtain ⟨x1, x2, x3, x4, x5⟩ := step2 (f := f) (hand := h) (act := 4) (at_ := 0) (had := 0) (put := 1) (ok := true) (by decide) (by decide)
    obtain ⟨x, hx⟩ : ∃ x, stepOf 2 f ⟨h, 4, 0, 0, 1, true⟩ = x := ⟨_, rfl⟩
    rw [hx] at x1 x2 x3 x4
    replace x2 : x.act = 4 := x2
    have e4 : breq n (cur h) = ⟨h, 4, 0, 0, 1, true⟩ := by simp [breq, s, hhand]
    rw [e4, hx, x5]
    obtain ⟨H1, f0, f1⟩ := H.counts hh s
    have hp : putBy (actOf 4) (f (0 : Int).toNat) 0 1 = f 0 + 1 := by
      have : f (0 : Int).toNat = f 0 := rfl
      rw [this]
      simp [putBy, actOf]
      omega
    have e5 : bends n (cur h) x = false := by simp [bends, s]
    have hu : u64 (f 0 + 1) = f 0 + 1 := u64_id ⟨by omega, by omega⟩
    have e7 : bnext n (cur h) x = { cur h with rung := f 0 + 1, st := 2 } := by
      have : f (0 : Int).toNat = f 0 := rfl
      rw [this] at x4
      simp [bnext, s, x4, hu]
    rw [e5, e7, if_neg (by decide), if_neg (by decide), hp]
    refine ⟨R, by simpa [putF] using H1, .inr ⟨rfl, by rw [s]; decide⟩, x1, fun p => ?_, ?_, fun t => absurd (e5.symm.trans t) (by decide), by rw [upd_same]; exact hhand⟩
    · by_cases e : p = h
      · subst e; simp [adds, s, x2]
      · rw [adds_other _ _ e rfl]; simp [e]
    · rw [e5, x2, x3]; simp
  · -- who rang last clears
    obtain ⟨x1, x2, x3, x4, x5⟩ := step2 (f := f) (hand := h) (act := 2) (at_ := 0) (had := 0) (put := 0) (ok := true) (by decide) (by decide)
    obtain ⟨x, hx⟩ : ∃ x, stepOf 2 f ⟨h, 2, 0, 0, 0, true⟩ = x := ⟨_, rfl⟩
    rw [hx] at x1 x2 x3 x4
    replace x2 : x.act = 2 := x2
    have e4 : breq n (cur h) = ⟨h, 2, 0, 0, 0, true⟩ := by simp [breq, s, q, hhand]
    rw [e4, hx, x5]
    have e5 : bends n (cur h) x = false := by simp [bends, s, q]
    have e7 : bnext n (cur h) x = { cur h with st := 4 } := by simp [bnext, s, q]
    rw [e5, e7, if_neg (by decide), if_neg (by decide)]
    refine ⟨R, by simpa [putF, putBy, actOf] using H.clears hh s q, .inr ⟨rfl, by rw [s]; decide⟩, x1, fun p => ?_, ?_, fun t => absurd (e5.symm.trans t) (by decide), by rw [upd_same]; exact hhand⟩
    · by_cases e : p = h
      · subst e; simp [adds, s, x2]
      · rw [adds_other _ _ e rfl]; simp [e]
    · rw [e5, x2, x3]; simp
  · -- it waits
    have s5 : ¬ (cur h).st = 0 ∧ ¬ (cur h).st = 1 ∧ ¬ (cur h).st = 4 := by rcases s with s | s; rw [s.1]; decide; rw [s]; decide
    obtain ⟨hm, hw⟩ := H.waits hh s j h
    obtain ⟨x1, x2, x3, x4, x5⟩ := step2 (f := f) (hand := h) (act := 1) (at_ := 1) (had := 0) (put := 0) (ok := true) (by decide) (by decide)
    obtain ⟨x, hx⟩ : ∃ x, stepOf 2 f ⟨h, 1, 1, 0, 0, true⟩ = x := ⟨_, rfl⟩
    rw [hx] at x1 x2 x3 x4
    replace x2 : x.act = 1 := x2
    replace x4 : x.had = f 1 := x4
    have e4 : breq n (cur h) = ⟨h, 1, 1, 0, 0, true⟩ := by rcases s with s | s <;> simp [breq, s, hhand]
    have e5 : bends n (cur h) x = !(f 1 == (cur h).mine) := by rcases s with s | s <;> simp [bends, s, x4]
    rw [e4, hx, x5, show ((1 : Int).toNat) = 1 from rfl, put_load]
    have ha : adds cur d h = d h + 1 := by simp [adds, s5]
    rcases hw with ⟨g, _, H1⟩ | ⟨g, _, H1⟩
    · have e6 : bends n (cur h) x = false := by rw [e5]; simp [g]
      have e7 : bnext n (cur h) x = { cur h with st := 5 } := by
        rcases s with s | s
        · simp [bnext, s, x4, g]
        · simp [bnext, s, x4, g]
          rw [← s]
      rw [e6, e7, if_neg (by decide), if_neg (by decide)]
      refine ⟨R, H1, .inr ⟨rfl, s5.2.2⟩, x1, fun p => ?_, ?_, fun t => absurd (e6.symm.trans t) (by decide), by rw [upd_same]; exact hhand⟩
      · by_cases e : p = h
        · subst e; rw [ha]; simp [adds, x2]
        · rw [adds_other _ _ e rfl]; simp [e]
      · rw [e6, x2, x3, x4, ha]; simp; omega
    · have e6 : bends n (cur h) x = true := by rw [e5]; simp [g]
      rw [e6, if_pos rfl, if_pos rfl]
      refine ⟨R, H1, .inr ⟨rfl, s5.2.2⟩, x1, fun p => ?_, ?_, fun _ => ?_, by rw [upd_same]; rfl⟩
      · by_cases e : p = h
        · subst e; rw [ha]; simp [adds, binit, x2]
        · rw [adds_other _ _ e (upd_other _ _ e)]; simp [e]
      · rw [e6, x2, x3, x4, ha]; simp; omega
      · have g' : ¬ f 1 = (d h : Int) := by rw [← hm]; exact g
        rcases s with s | s
        · simp [bnext, s, x4, g', hm]
        · simp [bnext, s, x4, g', hm]
  · -- it lets the others go
    obtain ⟨H1, hm, hd, hf, _⟩ := H.lets hh s j h
    have hu : u64 ((cur h).mine + 1) = R + 1 := by rw [hm]; exact u64_id ⟨by omega, by omega⟩
    have e4 : breq n (cur h) = ⟨h, 2, 1, 0, R + 1, true⟩ := by simp [breq, s, hhand, hu]
    obtain ⟨x1, x2, x3, x4, x5⟩ := step2 (f := f) (hand := h) (act := 2) (at_ := 1) (had := 0) (put := R + 1) (ok := true) (by decide) (by decide)
    obtain ⟨x, hx⟩ : ∃ x, stepOf 2 f ⟨h, 2, 1, 0, R + 1, true⟩ = x := ⟨_, rfl⟩
    rw [hx] at x1 x2 x3 x4
    replace x2 : x.act = 2 := x2
    rw [e4, hx, x5]
    have e5 : bends n (cur h) x = true := by simp [bends, s]
    rw [e5, if_pos rfl, if_pos rfl]
    refine ⟨R + 1, by simpa [putF, putBy, actOf] using H1, .inl ⟨rfl, s⟩, x1, fun p => ?_, ?_, fun _ => ?_, by rw [upd_same]; rfl⟩
    · by_cases e : p = h
      · subst e; simp [adds, binit, x2, s]
      · rw [adds_other _ _ e (upd_other _ _ e)]; simp [e]
    · rw [e5, x2, x3]; simp
    · simp [bnext, s, hm, hd]
end
end Bell
end Go.Proofs.Ytbjlpmahomjgjaa

namespace Go.Proofs.Ytbjlpmahomjgjaa
open Go.RowKit
namespace Bell

structure RunI (P : Par) (st : St (kBell P.nh)) (R : Nat) : Prop where
  bi : BI P.nh (st.f 1) (st.f 0) st.cur st.done R
  own : ∀ h, h < P.nh → BeS.hand (st.cur h) = h
  le : ∀ h, h < P.nh → st.done h ≤ P.jn h
  val : ∀ h, h < P.nh → ∀ r, r < st.done h → (st.ans h r).val = r
  one : ∀ r, r < R → ∃ l, l < P.nh ∧ r < st.done l ∧ (st.ans l r).ok = true ∧ ∀ h, h < P.nh → h ≠ l → r < st.done h → (st.ans h r).ok = false

variable {P : Par} {st : St (kBell P.nh)} {R h : Nat}

theorem RunI.step (hn : P.n = 2) (h8 : P.nh ≤ 8) (hj : ∀ h, h < P.nh → P.jn h ≤ 256) (H : RunI P st R) (hh : h < P.nh) (hg : st.done h < P.jn h) :
    ∃ R', RunI P (stepSt P st h) R' ∧ (R' = R ∨ R' = R + 1) ∧ StepIs P.nh st.cur st.done (stepSt P st h).cur (stepOf P.n st.f (breq P.nh (st.cur h))) (stepSt P st h).done h := by
  have hR : R ≤ 1000 := by have := (H.bi.adds_of hh).2.2.2; have := hj h hh; omega
  obtain ⟨R', B, hc, S⟩ := step_pure h8 H.bi hR hh (H.own h hh) (P.jb h (st.done h + 1))
  rw [← hn] at B S
  refine ⟨R', ⟨B, fun q hq => ?_, fun q hq => ?_, fun q hq r hr => ?_, fun r hr => ?_⟩, by omega, S⟩
  · by_cases e : q = h
    · subst e; exact S.own
    · exact (congrArg (fun c : (kBell P.nh).σ => BeS.hand c) (upd_other st.cur _ e)).trans (H.own q hq)
  · have hl := H.le q hq
    show (if bends P.nh (st.cur h) (stepOf P.n st.f (breq P.nh (st.cur h))) = true then upd st.done h (st.done h + 1) else st.done) q ≤ P.jn q
    split
    · by_cases e : q = h
      · subst e; rw [upd_same]; omega
      · rw [upd_other _ _ e]; exact hl
    · exact hl
  · have hr' : r < (if bends P.nh (st.cur h) (stepOf P.n st.f (breq P.nh (st.cur h))) = true then upd st.done h (st.done h + 1) else st.done) q := hr
    show ((if bends P.nh (st.cur h) (stepOf P.n st.f (breq P.nh (st.cur h))) = true then upd st.ans h (upd (st.ans h) (st.done h) (bnext P.nh (st.cur h) (stepOf P.n st.f (breq P.nh (st.cur h)))).told) else st.ans) q r).val = r
    split
    · rename_i he
      rw [if_pos he] at hr'
      by_cases e : q = h
      · subst e
        rw [upd_same]
        rw [upd_same] at hr'
        by_cases e2 : r = st.done q
        · subst e2; rw [upd_same, S.tell he]
        · rw [upd_other _ _ e2]; exact H.val q hq r (by omega)
      · rw [upd_other _ _ e]
        rw [upd_other _ _ e] at hr'
        exact H.val q hq r hr'
    · rename_i he
      rw [if_neg he] at hr'
      exact H.val q hq r hr'
  · by_cases he : bends P.nh (st.cur h) (stepOf P.n st.f (breq P.nh (st.cur h))) = true
    · have ed : (stepSt P st h).done = upd st.done h (st.done h + 1) := if_pos he
      have ea : (stepSt P st h).ans = upd st.ans h (upd (st.ans h) (st.done h) (bnext P.nh (st.cur h) (stepOf P.n st.f (breq P.nh (st.cur h)))).told) := if_pos he
      have htell := S.tell he
      have B' := B
      rcases hc with ⟨e1, s4⟩ | ⟨e1, s4⟩
      · -- it let the others go
        obtain ⟨_, _, hd, _, hq⟩ := H.bi.lets hh s4 (P.jb h 0) h
        by_cases er : r = R
        · subst er
          refine ⟨h, hh, ?_, ?_, fun q hq' hne hlt => ?_⟩
          · rw [ed, upd_same]; omega
          · rw [ea, upd_same, ← hd, upd_same, htell]
            simp [s4]
          · rw [ed, upd_other _ _ hne, hq q hq' hne] at hlt
            omega
        · obtain ⟨l, hl, h1, h2, h3⟩ := H.one r (by omega)
          refine ⟨l, hl, ?_, ?_, fun q hq' hne hlt => ?_⟩
          · rw [ed]
            by_cases e : l = h
            · subst e; rw [upd_same]; omega
            · rw [upd_other _ _ e]; exact h1
          · rw [ea]
            by_cases e : l = h
            · subst e; rw [upd_same, upd_other _ _ (by omega)]; exact h2
            · rw [upd_other _ _ e]; exact h2
          · rw [ea]
            rw [ed] at hlt
            by_cases e : q = h
            · subst e
              rw [upd_same] at hlt
              rw [upd_same, upd_other _ _ (by omega)]
              exact h3 q hq' hne (by omega)
            · rw [upd_other _ _ e] at hlt
              rw [upd_other _ _ e]
              exact h3 q hq' hne hlt
      · obtain ⟨l, hl, h1, h2, h3⟩ := H.one r (by omega)
        have hle := (H.bi.adds_of hh).2.2
        refine ⟨l, hl, ?_, ?_, fun q hq' hne hlt => ?_⟩
        · rw [ed]
          by_cases e : l = h
          · subst e; rw [upd_same]; omega
          · rw [upd_other _ _ e]; exact h1
        · rw [ea]
          by_cases e : l = h
          · subst e; rw [upd_same, upd_other _ _ (by omega)]; exact h2
          · rw [upd_other _ _ e]; exact h2
        · rw [ea]
          rw [ed] at hlt
          by_cases e : q = h
          · subst e
            rw [upd_same] at hlt
            rw [upd_same]
            by_cases e2 : r = st.done q
            · subst e2
              rw [upd_same, htell]
              simp [s4]
            · rw [upd_other _ _ e2]
              exact h3 q hq' hne (by omega)
          · rw [upd_other _ _ e] at hlt
            rw [upd_other _ _ e]
            exact h3 q hq' hne hlt
    · have ed : (stepSt P st h).done = st.done := if_neg he
      have ea : (stepSt P st h).ans = st.ans := if_neg he
      rw [ed, ea]
      rcases hc with ⟨e1, s4⟩ | ⟨e1, s4⟩
      · exact absurd (by simp [bends, s4]) he
      · exact H.one r (by omega)

theorem RunI.start (P : Par) (h1 : 1 ≤ P.nh) : RunI P (st0 (kBell P.nh) P (fun _ => 0)) 0 :=
  ⟨BI.start h1 P, fun _ _ => rfl, fun _ _ => Nat.zero_le _, fun _ _ r hr => absurd hr (Nat.not_lt_zero r), fun r hr => absurd hr (Nat.not_lt_zero r)⟩

/-- Behind every number of steps. -/
theorem run_i (P : Par) (hn : P.n = 2) (h1 : 1 ≤ P.nh) (h8 : P.nh ≤ 8) (hj : ∀ h, h < P.nh → P.jn h ≤ 256) : ∀ m, ∃ R, RunI P (runSt P (st0 (kBell P.nh) P (fun _ => 0)) m) R
  | 0 => ⟨0, RunI.start P h1⟩
  | m + 1 => by
    obtain ⟨R, H⟩ := run_i P hn h1 h8 hj m
    simp only [runSt]
    split
    · exact ⟨R, H⟩
    · rename_i ht
      rcases turn_ok P (runSt P (st0 (kBell P.nh) P (fun _ => 0)) m) with ⟨e, _⟩ | ⟨h, e, hh, hg⟩
      · omega
      · rw [e]
        obtain ⟨R', H', _⟩ := H.step hn h8 hj hh hg
        exact ⟨R', H'⟩
end Bell
end Go.Proofs.Ytbjlpmahomjgjaa
