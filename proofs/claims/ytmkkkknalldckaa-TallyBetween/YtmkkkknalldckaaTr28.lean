/-
  Lemmas: TallyBN, TallyBS, TallyBM, ListW.
-/
import Derived.Test.YtmkkkknalldckaaTr24
import Derived.Test.YtmkkkknalldckaaTr18
import Derived.Test.YtmkkkknalldckaaTr27
import Derived.Deep.CutBlock
import Derived.Deep.CutRange
import Derived.Test.YtmkkkknalldckaaTr05
import Derived.Test.YtmkkkknalldckaaTr03
import Derived.Test.YtmkkkknalldckaaTr19
/-
  TallyBetween, without a program: what a Sum tells lies between, how often a Most tries: what stands behind every step of a run, in the law's words.
-/
namespace Go.Proofs.Ytmkkkknalldckaa
open Go.RowKit
set_option linter.unusedVariables false
set_option linter.unusedSimpArgs false
set_option maxRecDepth 20000
namespace Tally

def sI (f : Nat → Int) : Nat → Int
  | 0 => 0
  | n + 1 => sI f n + f n
/-- The law's total: modulo 2^64, and whether it passed it. -/
def tm (f : Nat → Int) : Nat → Int
  | 0 => 0
  | n + 1 => (tm f n + f n) % 18446744073709551616
def tf (f : Nat → Int) : Nat → Bool
  | 0 => true
  | n + 1 => tf f n && decide (tm f n ≤ (tm f n + f n) % 18446744073709551616)
theorem tm_bounds (f : Nat → Int) : ∀ n, 0 ≤ tm f n ∧ tm f n ≤ 18446744073709551615
  | 0 => ⟨Int.le_refl 0, by show (0 : Int) ≤ _; decide⟩
  | n + 1 => by show 0 ≤ (tm f n + f n) % 18446744073709551616 ∧ (tm f n + f n) % 18446744073709551616 ≤ _; omega
theorem tf_sum {f : Nat → Int} : ∀ n, (∀ i, i < n → 0 ≤ f i ∧ f i ≤ 18446744073709551615) → tf f n = true → tm f n = sI f n ∧ 0 ≤ sI f n ∧ sI f n ≤ 18446744073709551615
  | 0, _, _ => ⟨rfl, Int.le_refl 0, by show (0 : Int) ≤ _; decide⟩
  | n + 1, hf, h => by
    have h : (tf f n && decide (tm f n ≤ (tm f n + f n) % 18446744073709551616)) = true := h
    simp only [Bool.and_eq_true, decide_eq_true_eq] at h
    obtain ⟨a, b, c⟩ := tf_sum n (fun i hi => hf i (by omega)) h.1
    have d := hf n (by omega)
    have e := h.2
    rw [a] at e
    show (tm f n + f n) % 18446744073709551616 = sI f n + f n ∧ 0 ≤ sI f n + f n ∧ sI f n + f n ≤ _
    rw [a]
    omega
theorem sI_mono {f f' : Nat → Int} : ∀ n, (∀ i, i < n → f i ≤ f' i) → sI f n ≤ sI f' n
  | 0, _ => Int.le_refl _
  | n + 1, h => by
    have := sI_mono n (fun i hi => h i (by omega))
    have := h n (by omega)
    show sI f n + f n ≤ sI f' n + f' n
    omega
theorem sI_part {f f' : Nat → Int} {m : Nat} : ∀ n, m ≤ n → (∀ i, i < n → f i ≤ f' i) → sI f n - sI f m ≤ sI f' n - sI f' m
  | 0, hm, _ => by
    obtain rfl : m = 0 := by omega
    exact Int.le_refl _
  | n + 1, hm, h => by
    rcases Nat.lt_or_ge m (n + 1) with c | c
    · have := sI_part (f := f) (f' := f') (m := m) n (by omega) (fun i hi => h i (by omega))
      have := h n (by omega)
      show sI f n + f n - sI f m ≤ sI f' n + f' n - sI f' m
      omega
    · obtain rfl : m = n + 1 := by omega
      omega
theorem sI_up {f : Nat → Int} {m : Nat} : ∀ n, m ≤ n → (∀ i, i < n → 0 ≤ f i) → sI f m ≤ sI f n
  | 0, hm, _ => by
    obtain rfl : m = 0 := by omega
    exact Int.le_refl _
  | n + 1, hm, h => by
    rcases Nat.lt_or_ge m (n + 1) with c | c
    · have := sI_up (f := f) (m := m) n (by omega) (fun i hi => h i (by omega))
      have := h n (by omega)
      show sI f m ≤ sI f n + f n
      omega
    · obtain rfl : m = n + 1 := by omega
      exact Int.le_refl _

/-- What the law keeps. -/
structure Lb where
  made : Nat → Nat
  low : Nat → Int
  chg : Nat → Nat
  small : Bool

/-- One hand, under way. -/
def Hq (r : Nat) (f : Nat → Int) (L : Lb) (h : Nat) (s : TaS) : Prop :=
  (s.j.kind = 1 ∧ L.made h = 0) ∨
  (s.j.kind = 2 ∧ s.st = (L.made h : Int) ∧ L.made h < r ∧ 0 ≤ s.sn ∧ s.sn ≤ 18446744073709551615 ∧ (L.made h = 0 → s.sn = 0) ∧ (L.small = true → 0 < L.made h → L.low h ≤ s.sn + (sI f r - sI f (L.made h)) ∧ s.sn ≤ sI f (L.made h))) ∨
  (s.j.kind = 3 ∧ ∃ fl : Nat, (s.st = 0 ∧ L.made h = 2 * fl ∧ (0 < L.made h → fl ≤ L.chg h)) ∨ (s.st = 1 ∧ L.made h = 2 * fl + 1 ∧ fl ≤ L.chg h ∧ (¬ f (r + s.j.a.toNat) = s.sn → fl + 1 ≤ L.chg h)))

structure Tv (r : Nat) (P : Par) (f : Nat → Int) (done : Nat → Nat) (cur : Nat → TaS) (L : Lb) : Prop where
  wd : ∀ i, i < P.n → 0 ≤ f i ∧ f i ≤ 18446744073709551615
  jb : ∀ h, h < P.nh → done h < P.jn h → (cur h).j = P.jb h (done h) ∧ (cur h).hand = (h : Int)
  hq : ∀ h, h < P.nh → done h < P.jn h → Hq r f L h (cur h)
  md : ∀ h, P.nh ≤ h ∨ P.jn h ≤ done h → L.made h = 0

def Jok (r : Nat) (P : Par) : Prop := ∀ h, h < P.nh → ∀ j, j < P.jn h → terr r (P.jb h j) = 0 ∧ (P.jb h j).wf

/-- The law's books behind the step's first part. -/
def Lb.one (L : Lb) (r : Nat) (f : Nat → Int) (h : Nat) : Lb :=
  ⟨upd L.made h (L.made h + 1), if L.made h = 0 then upd L.low h (tm f r) else L.low, if L.made h = 0 then upd L.chg h 0 else L.chg, L.small && tf f r⟩
/-- Does the step change the word that hand q's Most is at? -/
def hit (r : Nat) (P : Par) (done : Nat → Nat) (h : Nat) (x : Stp) (q : Nat) : Prop := ¬ q = h ∧ done q < P.jn q ∧ ¬ x.put = x.had ∧ (P.jb q (done q)).kind = 3 ∧ x.at_ = (r : Int) + (P.jb q (done q)).a
instance (r : Nat) (P : Par) (done : Nat → Nat) (h : Nat) (x : Stp) (q : Nat) : Decidable (hit r P done h x q) := by unfold hit; infer_instance
def Lb.two (L : Lb) (r : Nat) (P : Par) (f' : Nat → Int) (done : Nat → Nat) (h : Nat) (x : Stp) : Lb :=
  ⟨L.made, L.low, fun q => if q < P.nh ∧ hit r P done h x q then L.chg q + 1 else L.chg q, L.small && tf f' r && (decide (¬ x.act = 4) || decide (x.had ≤ x.put))⟩
def Lb.end_ (L : Lb) (h : Nat) (en : Bool) : Lb := ⟨if en = true then upd L.made h 0 else L.made, L.low, L.chg, L.small⟩

theorem jok_cases {r : Nat} {j : Jb} (e : terr r j = 0) : j.kind = 2 ∨ ((j.kind = 1 ∨ j.kind = 3) ∧ 0 ≤ j.a ∧ j.a < r) := by
  unfold terr at e
  split at e
  · cases e
  · split at e
    · left; assumption
    · split at e
      · cases e
      · right; omega

theorem hq_init {r : Nat} (hr1 : 1 ≤ r) {f : Nat → Int} {L : Lb} {h : Nat} {hh : Int} {J : Jb} (e : terr r J = 0) (hm : L.made h = 0) : Hq r f L h ⟨hh, J, 0, 0, ⟨false, 0⟩⟩ := by
  rcases jok_cases e with k2 | ⟨k1 | k3, _⟩
  · exact .inr (.inl ⟨k2, by show (0 : Int) = _; rw [hm]; rfl, by omega, Int.le_refl 0, by show (0 : Int) ≤ _; decide, fun _ => rfl, fun _ t => by omega⟩)
  · exact .inl ⟨k1, hm⟩
  · exact .inr (.inr ⟨k3, 0, .inl ⟨rfl, by omega, fun t => by omega⟩⟩)

/-- What the step is, and what it leaves of the words. -/
structure Wd (r : Nat) (n : Nat) (f f' : Nat → Int) (j : Jb) (x : Stp) : Prop where
  lo : 0 ≤ x.at_
  hi : x.at_ < n
  wds : f' = fun q => if q = x.at_.toNat then x.put else f q
  had : x.had = f x.at_.toNat
  bd : 0 ≤ x.put ∧ x.put ≤ 18446744073709551615
  mono : (x.act = 4 → x.had ≤ x.put) → ∀ q, q < r → f q ≤ f' q
  act : x.act = 1 ∨ x.act = 4 ∨ x.act = 5

theorem wd_of {r n : Nat} (hr1 : 1 ≤ r) (hn : n = 2 * r) {f : Nat → Int} (hw : ∀ i, i < n → 0 ≤ f i ∧ f i ≤ 18446744073709551615) {s : TaS} (e : terr r s.j = 0) (hv : s.j.wf) (h2 : s.j.kind = 2 → 0 ≤ s.st ∧ s.st < r) {x : Stp} (hx : stepOf n f (treq r s) = x) : Wd r n f (wordsOf n f (treq r s)) s.j x := by
  have rng : 0 ≤ (treq r s).at_ ∧ (treq r s).at_ < n ∧ ((treq r s).act = 1 ∨ (treq r s).act = 4 ∨ (treq r s).act = 5) ∧ (0 ≤ (treq r s).put ∧ (treq r s).put ≤ 18446744073709551615) ∧ ((treq r s).act = 5 → (r : Int) ≤ (treq r s).at_) := by
    unfold treq
    rcases jok_cases e with k2 | ⟨k1 | k3, a0, a1⟩
    · have := h2 k2
      rw [if_neg (by omega), if_pos k2]
      exact ⟨this.1, by show s.st < _; omega, .inl rfl, ⟨Int.le_refl 0, by show (0 : Int) ≤ _; decide⟩, fun t => absurd t (by show ¬ (1 : Int) = 5; decide)⟩
    · rw [if_pos k1]
      exact ⟨a0, by show s.j.a < _; omega, .inr (.inl rfl), hv, fun t => absurd t (by show ¬ (4 : Int) = 5; decide)⟩
    · rw [if_neg (by omega), if_neg (by omega)]
      split
      · exact ⟨by show 0 ≤ (r : Int) + s.j.a; omega, by show (r : Int) + s.j.a < _; omega, .inl rfl, ⟨Int.le_refl 0, by show (0 : Int) ≤ _; decide⟩, fun t => absurd t (by show ¬ (1 : Int) = 5; decide)⟩
      · exact ⟨by show 0 ≤ (r : Int) + s.j.a; omega, by show (r : Int) + s.j.a < _; omega, .inr (.inr rfl), hv, fun _ => by show (r : Int) ≤ (r : Int) + s.j.a; omega⟩
  obtain ⟨q, hq⟩ : ∃ q, treq r s = q := ⟨_, rfl⟩
  rw [hq] at rng hx ⊢
  obtain ⟨l, u, ac, pb, c5⟩ := rng
  have t : 0 ≤ q.at_ ∧ q.at_ < n := ⟨l, u⟩
  have ex : x = ⟨q.hand, actOf q.act, q.at_, f q.at_.toNat, putBy (actOf q.act) (f q.at_.toNat) q.had q.put, !(decide (actOf q.act = 5) && decide (f q.at_.toNat ≠ q.had))⟩ := by
    rw [← hx]
    unfold stepOf
    rw [if_pos t]
  have ea : actOf q.act = q.act := by rcases ac with h | h | h <;> rw [h] <;> rfl
  rw [ea] at ex
  have fw := hw q.at_.toNat (by omega)
  have xa : x.at_ = q.at_ := by rw [ex]
  have xh : x.had = f q.at_.toNat := by rw [ex]
  have xc : x.act = q.act := by rw [ex]
  have ew : wordsOf n f q = fun k => if k = x.at_.toNat then x.put else f k := by
    unfold wordsOf
    rw [if_pos t, hx, xa]
    rfl
  have pbd : 0 ≤ x.put ∧ x.put ≤ 18446744073709551615 := by rw [← hx]; unfold stepOf; rw [if_pos t]; exact putBy_bounds fw pb
  refine ⟨by rw [xa]; exact l, by rw [xa]; exact u, ew, by rw [xa]; exact xh, pbd, fun m4 k hk => ?_, by rw [xc]; exact ac⟩
  rw [ew]
  show f k ≤ if k = x.at_.toNat then x.put else f k
  split
  · rename_i ek
    rw [ek, xa]
    rcases ac with h | h | h
    · have : x.put = f q.at_.toNat := by rw [ex]; simp [h, putBy]
      omega
    · have := m4 (by rw [xc]; exact h)
      omega
    · have := c5 h
      omega
  · exact Int.le_refl _

theorem and3 {a b c : Bool} (h : (a && b && c) = true) : a = true ∧ b = true ∧ c = true := by
  cases a <;> cases b <;> cases c <;> simp_all
theorem and2 {a b : Bool} (h : (a && b) = true) : a = true ∧ b = true := by
  cases a <;> cases b <;> simp_all

/-- A hand that does not step. -/
theorem Hq.other {r n : Nat} (hn : n = 2 * r) {P : Par} {f f' : Nat → Int} {done : Nat → Nat} {L : Lb} {h q : Nat} {s : TaS} {J : Jb} {x : Stp} (hq : ¬ q = h) (hqn : q < P.nh) (hd : done q < P.jn q) (ej : s.j = P.jb q (done q)) (ea : s.j.kind = 3 → 0 ≤ s.j.a ∧ s.j.a < r) (W : Wd r n f f' J x) (H : Hq r f L q s) (en : Bool) :
    Hq r f' (((L.one r f h).two r P f' done h x).end_ h en) q s := by
  have m1 : (((L.one r f h).two r P f' done h x).end_ h en).made q = L.made q := by
    show (if en = true then upd (upd L.made h (L.made h + 1)) h 0 else upd L.made h (L.made h + 1)) q = _
    split
    · rw [upd_other _ _ hq, upd_other _ _ hq]
    · rw [upd_other _ _ hq]
  have l1 : (((L.one r f h).two r P f' done h x).end_ h en).low q = L.low q := by
    show (if L.made h = 0 then upd L.low h (tm f r) else L.low) q = _
    split
    · rw [upd_other _ _ hq]
    · rfl
  have c1 : (((L.one r f h).two r P f' done h x).end_ h en).chg q = if q < P.nh ∧ hit r P done h x q then L.chg q + 1 else L.chg q := by
    have e : (if L.made h = 0 then upd L.chg h 0 else L.chg) q = L.chg q := by
      split
      · rw [upd_other _ _ hq]
      · rfl
    show (if q < P.nh ∧ hit r P done h x q then (if L.made h = 0 then upd L.chg h 0 else L.chg) q + 1 else (if L.made h = 0 then upd L.chg h 0 else L.chg) q) = _
    rw [e]
  have sm : (((L.one r f h).two r P f' done h x).end_ h en).small = true → L.small = true ∧ (x.act = 4 → x.had ≤ x.put) := fun t => by
    have t : (L.small && tf f r && tf f' r && (decide (¬ x.act = 4) || decide (x.had ≤ x.put))) = true := t
    obtain ⟨a, b, c⟩ := and3 t
    refine ⟨(and2 a).1, fun e => ?_⟩
    simp [e] at c
    exact c
  rcases H with ⟨k1, m0⟩ | ⟨k2, st, mr, s0, s1, s2, sb⟩ | ⟨k3, fl, w⟩
  · exact .inl ⟨k1, by rw [m1]; exact m0⟩
  · refine .inr (.inl ⟨k2, by rw [m1]; exact st, by rw [m1]; exact mr, s0, s1, by rw [m1]; exact s2, fun t p => ?_⟩)
    rw [m1] at p ⊢
    rw [l1]
    obtain ⟨t1, t2⟩ := sm t
    obtain ⟨b1, b2⟩ := sb t1 p
    have mo := W.mono t2
    have a1 := sI_part (f := f) (f' := f') (m := L.made q) r (by omega) mo
    have a2 := sI_mono (f := f) (f' := f') (L.made q) (fun i hi => mo i (by omega))
    omega
  · refine .inr (.inr ⟨k3, fl, ?_⟩)
    rw [m1, c1]
    have up : L.chg q ≤ if q < P.nh ∧ hit r P done h x q then L.chg q + 1 else L.chg q := by split <;> omega
    rcases w with ⟨st, m, c⟩ | ⟨st, m, c, d⟩
    · exact .inl ⟨st, m, fun t => Nat.le_trans (c t) up⟩
    · refine .inr ⟨st, m, Nat.le_trans c up, fun ne => ?_⟩
      by_cases e : f (r + s.j.a.toNat) = s.sn
      · -- another changed it just now
        have a := ea k3
        have ch : hit r P done h x q := by
          have hw := W.wds
          have hf : ¬ f' (r + s.j.a.toNat) = f (r + s.j.a.toNat) := fun t => ne (t.trans e)
          have ek : r + s.j.a.toNat = x.at_.toNat := by
            rw [hw] at hf
            by_cases c : r + s.j.a.toNat = x.at_.toNat
            · exact c
            · exact absurd (if_neg c) hf
          have l := W.lo
          refine ⟨hq, hd, fun t => hf ?_, by rw [← ej]; exact k3, by rw [← ej]; omega⟩
          rw [hw]
          show (if _ then x.put else f _) = _
          rw [if_pos ek, t, W.had, ek]
        rw [if_pos ⟨hqn, ch⟩]
        omega
      · exact Nat.le_trans (d e) up

/-- What is said of the step of a hand's own. -/
structure Me (r : Nat) (f f' : Nat → Int) (L1 L2 : Lb) (h : Nat) (s s' : TaS) (x : Stp) (en : Bool) : Prop where
  tries : s.j.kind = 3 → L2.made h ≤ 2 * L2.chg h + 2
  ends : en = (decide (s.j.kind = 1) || (decide (s.j.kind = 2) && decide (L2.made h = r)) || (decide (s.j.kind = 3) && ((decide (x.act = 5) && x.ok) || (decide (x.act = 1) && decide (s.j.h ≤ x.had)))))
  go : en = false → Hq r f' L2 h s'
  val : en = true → s.j.kind = 2 → L2.small = true → L2.low h ≤ s'.told.val ∧ s'.told.val ≤ tm f' r

set_option maxHeartbeats 1000000 in
theorem Hq.me {r n : Nat} (hr1 : 1 ≤ r) (hr2 : r ≤ 64) (hn : n = 2 * r) {P : Par} {f : Nat → Int} (hw : ∀ i, i < n → 0 ≤ f i ∧ f i ≤ 18446744073709551615) {done : Nat → Nat} {L : Lb} {h : Nat} {s : TaS} (e : terr r s.j = 0) (H : Hq r f L h s) {x : Stp} (hx : stepOf n f (treq r s) = x) :
    Me r f (wordsOf n f (treq r s)) (L.one r f h) ((L.one r f h).two r P (wordsOf n f (treq r s)) done h x) h s (tnext r s x) x (tends r s x) := by
  obtain ⟨f', hf'⟩ : ∃ f', wordsOf n f (treq r s) = f' := ⟨_, rfl⟩
  rw [hf']
  have jn : (tnext r s x).j = s.j := by
    unfold tnext
    repeat' split
    all_goals rfl
  have m2 : ((L.one r f h).two r P f' done h x).made h = L.made h + 1 := by show upd L.made h (L.made h + 1) h = _; rw [upd_same]
  have c2 : ((L.one r f h).two r P f' done h x).chg h = if L.made h = 0 then 0 else L.chg h := by
    show (if h < P.nh ∧ hit r P done h x h then _ else (if L.made h = 0 then upd L.chg h 0 else L.chg) h) = _
    rw [if_neg (fun t => t.2.1 rfl)]
    split
    · rw [upd_same]
    · rfl
  have l2 : ((L.one r f h).two r P f' done h x).low h = if L.made h = 0 then tm f r else L.low h := by
    show (if L.made h = 0 then upd L.low h (tm f r) else L.low) h = _
    split
    · rw [upd_same]
    · rfl
  have sm : ((L.one r f h).two r P f' done h x).small = true → L.small = true ∧ tf f r = true ∧ tf f' r = true := fun t => by
    have t : (L.small && tf f r && tf f' r && (decide (¬ x.act = 4) || decide (x.had ≤ x.put))) = true := t
    obtain ⟨a, b, _⟩ := and3 t
    exact ⟨(and2 a).1, (and2 a).2, b⟩
  obtain ⟨L2, hL2⟩ : ∃ L2, (L.one r f h).two r P f' done h x = L2 := ⟨_, rfl⟩
  rw [hL2] at m2 c2 l2 sm ⊢
  have step_act : ∀ q : Stp, (q.act = 1 ∨ q.act = 4 ∨ q.act = 5) → (stepOf n f q).act = q.act := fun q hq => by
    have ea : actOf q.act = q.act := by rcases hq with h | h | h <;> rw [h] <;> rfl
    unfold stepOf
    split <;> exact ea
  rcases H with ⟨k1, m0⟩ | ⟨k2, st, mr, s0, s1, s2, sb⟩ | ⟨k3, fl, w⟩
  · have e5 : tends r s x = true := by simp [tends, k1]
    refine ⟨fun t => by omega, by rw [e5]; simp [k1], fun t => (by rw [e5] at t; cases t), fun _ t => by omega⟩
  · have n1 : ¬ s.j.kind = 1 := by omega
    have e4 : treq r s = ⟨s.hand, 1, ((L.made h : Nat) : Int), 0, 0, true⟩ := by simp [treq, k2, st]
    have t : (0 : Int) ≤ (L.made h : Int) ∧ ((L.made h : Nat) : Int) < n := by omega
    have xh : x.had = f (L.made h) := by rw [← hx, e4]; unfold stepOf; rw [if_pos t]; rfl
    have ef : f' = f := by
      rw [← hf', e4]
      unfold wordsOf
      rw [if_pos t]
      unfold stepOf
      rw [if_pos t]
      funext q
      show (if q = (((L.made h : Nat) : Int)).toNat then f (((L.made h : Nat) : Int)).toNat else f q) = f q
      split
      · rename_i c; rw [c]
      · rfl
    have w1 : wrap64 (s.st + 1) = (L.made h : Int) + 1 := by rw [st]; unfold wrap64; omega
    have e5 : tends r s x = decide (L.made h + 1 = r) := by
      unfold tends
      rw [if_neg n1, if_pos k2, w1]
      apply decide_eq_decide.mpr
      omega
    have e7 : (tnext r s x).st = (L.made h : Int) + 1 ∧ (tnext r s x).sn = (s.sn + f (L.made h)) % 18446744073709551616 ∧ (¬ L.made h + 1 < r → (tnext r s x).told.val = (s.sn + f (L.made h)) % 18446744073709551616) := by
      unfold tnext
      rw [if_neg n1, if_pos k2, w1, xh]
      refine ⟨rfl, rfl, fun c => ?_⟩
      show (if (L.made h : Int) + 1 < r then s.told else _).val = _
      rw [if_neg (by omega)]
    have fb := hw (L.made h) (by omega)
    -- the sum so far
    have key : L2.small = true → L2.low h ≤ (s.sn + f (L.made h)) % 18446744073709551616 + (sI f r - sI f (L.made h + 1)) ∧ (s.sn + f (L.made h)) % 18446744073709551616 ≤ sI f (L.made h + 1) := fun tt => by
      obtain ⟨t1, t2, _⟩ := sm tt
      obtain ⟨q1, q2, q3⟩ := tf_sum r (fun i hi => hw i (by omega)) t2
      have up := sI_up (f := f) (m := L.made h + 1) r (by omega) (fun i hi => (hw i (by omega)).1)
      have sd : sI f (L.made h + 1) = sI f (L.made h) + f (L.made h) := rfl
      rw [l2]
      by_cases z : L.made h = 0
      · rw [if_pos z, q1]
        have s2 := s2 z
        have sz : sI f (L.made h) = 0 := by rw [z]; rfl
        omega
      · rw [if_neg z]
        obtain ⟨b1, b2⟩ := sb t1 (by omega)
        omega
    refine ⟨fun t => by omega, ?_, fun en => ?_, fun en _ tt => ?_⟩
    · rw [e5, m2]
      simp [n1, k2]
    · rw [e5] at en
      have en : ¬ L.made h + 1 = r := by simpa using en
      refine .inr (.inl ⟨by rw [jn]; exact k2, by rw [m2, e7.1]; omega, by omega, ?_, ?_, fun z => by omega, fun tt _ => ?_⟩)
      · rw [e7.2.1]; omega
      · rw [e7.2.1]; omega
      · rw [m2, e7.2.1, ef]; exact key tt
    · rw [e5] at en
      have en : L.made h + 1 = r := by simpa using en
      obtain ⟨t1, t2, _⟩ := sm tt
      obtain ⟨q1, q2, q3⟩ := tf_sum r (fun i hi => hw i (by omega)) t2
      obtain ⟨k1', k2'⟩ := key tt
      rw [e7.2.2 (by omega), ef, q1]
      rw [en] at k1' k2'
      omega
  · have n1 : ¬ s.j.kind = 1 := by omega
    have n2 : ¬ s.j.kind = 2 := by omega
    have aa : 0 ≤ s.j.a ∧ s.j.a < r := by
      rcases jok_cases e with k2 | ⟨_, a⟩
      · omega
      · exact a
    have t : (0 : Int) ≤ (r : Int) + s.j.a ∧ (r : Int) + s.j.a < n := by omega
    have tn : ((r : Int) + s.j.a).toNat = r + s.j.a.toNat := by omega
    rcases w with ⟨st, m, c⟩ | ⟨st, m, c, d⟩
    · have e4 : treq r s = ⟨s.hand, 1, (r : Int) + s.j.a, 0, 0, true⟩ := by simp [treq, k3, st]
      have xh : x.had = f (r + s.j.a.toNat) := by rw [← hx, e4]; unfold stepOf; rw [if_pos t]; show f ((r : Int) + s.j.a).toNat = _; rw [tn]
      have xa : x.act = 1 := by rw [← hx, step_act _ (by rw [e4]; exact .inl rfl), e4]
      have ef : f' = f := by
        rw [← hf', e4]
        unfold wordsOf
        rw [if_pos t]
        unfold stepOf
        rw [if_pos t]
        funext q
        show (if q = ((r : Int) + s.j.a).toNat then f ((r : Int) + s.j.a).toNat else f q) = f q
        split
        · rename_i c; rw [c]
        · rfl
      have e5 : tends r s x = decide (s.j.h ≤ x.had) := by simp [tends, k3, st]
      have cl : fl ≤ L2.chg h := by
        rw [c2]
        split
        · omega
        · rename_i z; exact c (by omega)
      refine ⟨fun _ => by rw [m2]; omega, ?_, fun en => ?_, fun _ t => by omega⟩
      · rw [e5]
        simp [n1, n2, k3, xa]
      · rw [e5] at en
        have en : ¬ s.j.h ≤ x.had := by simpa using en
        have e7 : tnext r s x = { s with st := 1, sn := x.had } := by simp [tnext, k3, st, en]
        rw [e7]
        refine .inr (.inr ⟨k3, fl, .inr ⟨rfl, by rw [m2]; omega, cl, fun ne => absurd ?_ ne⟩⟩)
        show f' (r + s.j.a.toNat) = x.had
        rw [ef, xh]
    · have e4 : treq r s = ⟨s.hand, 5, (r : Int) + s.j.a, s.sn, s.j.h, true⟩ := by simp [treq, k3, st]
      have xa : x.act = 5 := by rw [← hx, step_act _ (by rw [e4]; exact .inr (.inr rfl)), e4]
      have xo : x.ok = decide (f (r + s.j.a.toNat) = s.sn) := by
        rw [← hx, e4]
        unfold stepOf
        rw [if_pos t]
        show (!(decide ((5 : Int) = 5) && decide (f ((r : Int) + s.j.a).toNat ≠ s.sn))) = _
        rw [tn]
        simp
      have e5 : tends r s x = x.ok := by simp [tends, k3, st]
      have cm : L2.chg h = L.chg h := by rw [c2, if_neg (by omega)]
      refine ⟨fun _ => by rw [m2, cm]; omega, ?_, fun en => ?_, fun _ t => by omega⟩
      · rw [e5]
        simp [n1, n2, k3, xa]
      · rw [e5] at en
        have ne : ¬ f (r + s.j.a.toNat) = s.sn := by rw [xo] at en; simpa using en
        have e7 : tnext r s x = { s with st := 0 } := by simp [tnext, k3, st, en]
        rw [e7]
        exact .inr (.inr ⟨k3, fl + 1, .inl ⟨rfl, by rw [m2]; omega, fun _ => by rw [cm]; exact d ne⟩⟩)

def rn (r : Nat) (P : Par) (f0 : Nat → Int) (i : Nat) : St (kTally r) := runSt P (st0 (kTally r) P f0) i
def lb0 : Lb := ⟨fun _ => 0, fun _ => 0, fun _ => 0, true⟩

theorem tv_start {r : Nat} {P : Par} (hr1 : 1 ≤ r) (hok : Jok r P) {f0 : Nat → Int} (hf : ∀ i, i < P.n → 0 ≤ f0 i ∧ f0 i ≤ 18446744073709551615) : Tv r P (rn r P f0 0).f (rn r P f0 0).done (rn r P f0 0).cur lb0 :=
  ⟨hf, fun h hh hd => ⟨rfl, rfl⟩, fun h hh hd => hq_init hr1 (hok h hh _ hd).1 rfl, fun _ _ => rfl⟩

/-- One step, in the law's words. -/
structure TS (r : Nat) (P : Par) (f0 : Nat → Int) (m i : Nat) (x : Stp) (L : Lb) (h : Nat) (en : Bool) : Prop where
  hh : h < P.nh
  hd : (rn r P f0 i).done h < P.jn h
  hand : x.hand = (h : Int)
  w : Wd r P.n (rn r P f0 i).f (rn r P f0 (i + 1)).f (P.jb h ((rn r P f0 i).done h)) x
  kd : (P.jb h ((rn r P f0 i).done h)).kind = 1 ∨ (P.jb h ((rn r P f0 i).done h)).kind = 2 ∨ (P.jb h ((rn r P f0 i).done h)).kind = 3
  tries : (P.jb h ((rn r P f0 i).done h)).kind = 3 → ((L.one r (rn r P f0 i).f h).two r P (rn r P f0 (i + 1)).f (rn r P f0 i).done h x).made h ≤ 2 * ((L.one r (rn r P f0 i).f h).two r P (rn r P f0 (i + 1)).f (rn r P f0 i).done h x).chg h + 2
  ends : en = (decide ((P.jb h ((rn r P f0 i).done h)).kind = 1) || (decide ((P.jb h ((rn r P f0 i).done h)).kind = 2) && decide (L.made h + 1 = r)) || (decide ((P.jb h ((rn r P f0 i).done h)).kind = 3) && ((decide (x.act = 5) && x.ok) || (decide (x.act = 1) && decide ((P.jb h ((rn r P f0 i).done h)).h ≤ x.had)))))
  dn : (rn r P f0 (i + 1)).done = if en = true then upd (rn r P f0 i).done h ((rn r P f0 i).done h + 1) else (rn r P f0 i).done
  tl : en = true → (rn r P f0 i).done h < (rn r P f0 m).done h ∧ ((P.jb h ((rn r P f0 i).done h)).kind = 2 → ((L.one r (rn r P f0 i).f h).two r P (rn r P f0 (i + 1)).f (rn r P f0 i).done h x).small = true → ((L.one r (rn r P f0 i).f h).two r P (rn r P f0 (i + 1)).f (rn r P f0 i).done h x).low h ≤ ((rn r P f0 m).ans h ((rn r P f0 i).done h)).val ∧ ((rn r P f0 m).ans h ((rn r P f0 i).done h)).val ≤ tm (rn r P f0 (i + 1)).f r)
  on : Tv r P (rn r P f0 (i + 1)).f (rn r P f0 (i + 1)).done (rn r P f0 (i + 1)).cur (((L.one r (rn r P f0 i).f h).two r P (rn r P f0 (i + 1)).f (rn r P f0 i).done h x).end_ h en)

theorem req_hand (r : Int) (s : TaS) : (treq r s).hand = s.hand := by
  unfold treq
  repeat' split
  all_goals rfl
theorem step_hand (n : Nat) (f : Nat → Int) (q : Stp) : (stepOf n f q).hand = q.hand := by unfold stepOf; split <;> rfl

set_option maxHeartbeats 1000000 in
theorem law_tv {r : Nat} {P : Par} (hr1 : 1 ≤ r) (hr2 : r ≤ 64) (hn : P.n = 2 * r) (hok : Jok r P) {f0 : Nat → Int} {m i : Nat} (hi : i < (rn r P f0 m).k) {L : Lb} (T : Tv r P (rn r P f0 i).f (rn r P f0 i).done (rn r P f0 i).cur L) :
    ∃ h en, TS r P f0 m i ((rn r P f0 m).s i) L h en := by
  obtain ⟨hk, ⟨h, _, hh, hg, e⟩, es⟩ := hist P (st0 (kTally r) P f0) rfl m i hi
  have hle : i + 1 ≤ m := by
    have := (runSt_k P (st0 (kTally r) P f0) rfl m).1
    have hi' : i < (runSt P (st0 (kTally r) P f0) m).k := hi
    omega
  have ex : (rn r P f0 m).s i = stepOf P.n (rn r P f0 i).f (treq r ((rn r P f0 i).cur h)) := by
    show (runSt P (st0 (kTally r) P f0) m).s i = _
    rw [es, e]
    show upd (runSt P (st0 (kTally r) P f0) i).s (runSt P (st0 (kTally r) P f0) i).k _ i = _
    rw [hk, upd_same]
    rfl
  have e' : rn r P f0 (i + 1) = stepSt P (rn r P f0 i) h := e
  obtain ⟨ej, eh⟩ := T.jb h hh hg
  have H := T.hq h hh hg
  obtain ⟨er, ewf⟩ := hok h hh _ hg
  obtain ⟨s, hs⟩ : ∃ s : TaS, (rn r P f0 i).cur h = s := ⟨_, rfl⟩
  rw [hs] at ex ej eh H
  obtain ⟨x, hxx⟩ : ∃ x, (rn r P f0 m).s i = x := ⟨_, rfl⟩
  rw [hxx] at ex ⊢
  have ff : (rn r P f0 (i + 1)).f = wordsOf P.n (rn r P f0 i).f (treq r s) := by rw [e', ← hs]; rfl
  have er' : terr r s.j = 0 := by rw [ej]; exact er
  have W : Wd r P.n (rn r P f0 i).f (wordsOf P.n (rn r P f0 i).f (treq r s)) s.j x := wd_of hr1 hn T.wd er' (by rw [ej]; exact ewf) (fun k2 => by
    rcases H with ⟨k1, _⟩ | ⟨_, st, mr, _⟩ | ⟨k3, _⟩
    · omega
    · omega
    · omega) ex.symm
  have M := H.me hr1 hr2 hn (P := P) (done := (rn r P f0 i).done) T.wd er' ex.symm
  obtain ⟨en, hen⟩ : ∃ en, tends r s x = en := ⟨_, rfl⟩
  rw [hen] at M
  have ends' : (kTally r).ends ((rn r P f0 i).cur h) (stepOf P.n (rn r P f0 i).f ((kTally r).req ((rn r P f0 i).cur h))) = en := by
    rw [hs]
    show tends r s (stepOf P.n (rn r P f0 i).f (treq r s)) = en
    rw [← ex]
    exact hen
  have dn : (rn r P f0 (i + 1)).done = if en = true then upd (rn r P f0 i).done h ((rn r P f0 i).done h + 1) else (rn r P f0 i).done := by
    rw [e']; unfold stepSt; simp only [ends']
  have cn : (rn r P f0 (i + 1)).cur h = if en = true then (⟨(h : Int), P.jb h ((rn r P f0 i).done h + 1), 0, 0, ⟨false, 0⟩⟩ : TaS) else tnext r s x := by
    rw [e']
    unfold stepSt
    simp only [ends']
    show upd (rn r P f0 i).cur h _ h = _
    rw [upd_same]
    cases en with
    | true => rfl
    | false =>
      show tnext r ((rn r P f0 i).cur h) (stepOf P.n (rn r P f0 i).f (treq r ((rn r P f0 i).cur h))) = tnext r s x
      rw [hs, ← ex]
  have co : ∀ q, q ≠ h → (rn r P f0 (i + 1)).cur q = (rn r P f0 i).cur q := fun q hq => by
    rw [e']
    exact if_neg hq
  have dno : ∀ q, q ≠ h → (rn r P f0 (i + 1)).done q = (rn r P f0 i).done q := fun q hq => by
    rw [dn]
    split
    · exact upd_other _ _ hq
    · rfl
  have jn : (tnext r s x).j = s.j ∧ (tnext r s x).hand = s.hand := by
    unfold tnext
    constructor <;> (repeat' split) <;> rfl
  have kd : (P.jb h ((rn r P f0 i).done h)).kind = 1 ∨ (P.jb h ((rn r P f0 i).done h)).kind = 2 ∨ (P.jb h ((rn r P f0 i).done h)).kind = 3 := by
    rcases jok_cases er with k | ⟨k | k, _⟩
    · exact .inr (.inl k)
    · exact .inl k
    · exact .inr (.inr k)
  have m2 : ∀ f' , ((L.one r (rn r P f0 i).f h).two r P f' (rn r P f0 i).done h x).made h = L.made h + 1 := fun f' => by show upd L.made h (L.made h + 1) h = _; rw [upd_same]
  rw [← ff] at M W
  rw [ej] at W
  refine ⟨h, en, hh, hg, by rw [ex, step_hand, req_hand, eh], W, kd, ?_, ?_, dn, fun t => ?_, ?_⟩
  · rw [← ej]; exact M.tries
  · have := M.ends
    rw [m2, ej] at this
    exact this
  · have tl := told_later P (st0 (kTally r) P f0) rfl hle h
    have dd : (runSt P (st0 (kTally r) P f0) (i + 1)).done h = (rn r P f0 i).done h + 1 := by
      show (rn r P f0 (i + 1)).done h = _
      rw [dn, if_pos t, upd_same]
    rw [dd] at tl
    refine ⟨tl.1, fun k2 sm => ?_⟩
    have ta : (rn r P f0 m).ans h ((rn r P f0 i).done h) = (tnext r s x).told := by
      have a1 : (rn r P f0 m).ans h ((rn r P f0 i).done h) = (rn r P f0 (i + 1)).ans h ((rn r P f0 i).done h) := tl.2 _ (by omega)
      rw [a1, e']
      unfold stepSt
      simp only [ends', t]
      show upd (rn r P f0 i).ans h (upd ((rn r P f0 i).ans h) ((rn r P f0 i).done h) _) h ((rn r P f0 i).done h) = _
      rw [upd_same, upd_same]
      show (tnext r ((rn r P f0 i).cur h) (stepOf P.n (rn r P f0 i).f (treq r ((rn r P f0 i).cur h)))).told = _
      rw [hs, ← ex]
    rw [ta]
    exact M.val t (by rw [ej]; exact k2) sm
  · refine ⟨fun q hq => ?_, fun q hq hd => ?_, fun q hq hd => ?_, fun q hq => ?_⟩
    · rw [W.wds]
      show 0 ≤ (if q = _ then _ else _) ∧ (if q = _ then _ else _) ≤ _
      split
      · exact W.bd
      · exact T.wd q hq
    · by_cases c : q = h
      · subst c
        rw [cn]
        cases en with
        | true =>
          rw [if_pos rfl, dn, if_pos rfl, upd_same]
          exact ⟨rfl, rfl⟩
        | false =>
          have ne : ¬ (false = true) := by simp
          rw [dn, if_neg ne, if_neg ne]
          exact ⟨by rw [jn.1, ej], by rw [jn.2, eh]⟩
      · rw [co q c, dno q c]
        rw [dno q c] at hd
        exact T.jb q hq hd
    · by_cases c : q = h
      · subst c
        rw [cn]
        cases en with
        | true =>
          rw [if_pos rfl]
          rw [dn, if_pos rfl, upd_same] at hd
          exact hq_init hr1 (hok q hq _ hd).1 (by unfold Lb.end_; simp)
        | false =>
          have ne : ¬ (false = true) := by simp
          rw [if_neg ne]
          exact M.go rfl
      · rw [co q c]
        rw [dno q c] at hd
        obtain ⟨jq, _⟩ := T.jb q hq hd
        exact Hq.other hn c hq hd jq (fun k3 => by
          rcases jok_cases (hok q hq _ hd).1 with k | ⟨_, a⟩
          · rw [jq] at k3; omega
          · rw [jq]; exact a) W (T.hq q hq hd) en
    · by_cases c : q = h
      · subst c
        cases en with
        | true => unfold Lb.end_; simp
        | false =>
          have ne : ¬ (false = true) := by simp
          rw [dn, if_neg ne] at hq
          have hg' : (rn r P f0 i).done q < P.jn q := hg
          omega
      · rw [dno q c] at hq
        have := T.md q hq
        show (if en = true then upd (upd L.made h (L.made h + 1)) h 0 else upd L.made h (L.made h + 1)) q = 0
        split
        · rw [upd_other _ _ c, upd_other _ _ c]; exact this
        · rw [upd_other _ _ c]; exact this
end Tally
end Go.Proofs.Ytmkkkknalldckaa

/-
  TallyBetween: a run that is sound, with all that it tells; the law's total.
-/
namespace Go.Proofs.Ytmkkkknalldckaa
open Go.RowKit
set_option linter.unusedVariables false
set_option linter.unusedSimpArgs false
set_option linter.unnecessarySimpa false
set_option maxRecDepth 20000
namespace Tally

section
variable {w : World} {ao aoh aos : Option Addr} {cap caph caps : Nat} {P : Par} {f : Nat → Int} {most : Int} {sh : Shp}

/-- A run that was taken. -/
def TF (sh : Shp) (P : Par) (f : Nat → Int) (most : Int) (base : Nat) (er : Int) (sa : Option Addr) (k sc : Nat) (wa : Option Addr) (n wc : Nat) (en : Bool) (aa : Option Addr) (m ac : Nat) (w' : World) : Prop :=
  er = 0 → ((1 ≤ sh.f ∧ sh.f ≤ 64) ∧ (P.n : Int) = 2 * sh.f) ∧ (AllOk (kTally sh.f) P ∧ Fine P most) ∧ Told (kTally sh.f) P (runSt P (st0 (kTally sh.f) P f) most.toNat) base (tv3 sa k sc wa n wc en aa m ac 0) w'
theorem TF.touch {base base' b : Nat} {er : Int} {sa wa aa : Option Addr} {k sc n wc m ac : Nat} {en : Bool} {w1 w2 : World} (h : TF sh P f most base er sa k sc wa n wc en aa m ac w1) (ht : Touch w1 w2 (fun k => k = b)) (hb : b < base) (hbb : base' ≤ base) : TF sh P f most base' er sa k sc wa n wc en aa m ac w2 := fun he =>
  ⟨(h he).1, (h he).2.1, told_touch (h he).2.2 ht hb hbb⟩

theorem play_tf (S : Sees w w.heap.size ao P.n f) (hf : ∀ i, i < P.n → 0 ≤ f i ∧ f i ≤ 18446744073709551615) (SH : SeesH w w.heap.size aoh P.nh P.jn P.jb) (hn63 : P.nh ≤ 9223372036854775807) (SI : SeesI w w.heap.size aos P.ns P.sched) (hjw : ∀ h, h < P.nh → ∀ j, j < P.jn h → (P.jb h j).wf) :
    Calls Try.prog 9 #[sh.val, .slice ao P.n cap, .slice aoh P.nh caph, .slice aos P.ns caps, .int .i64 most] w fun e w' => Below w.heap.size w w' ∧ ∃ sa k sc wa n wc en aa m ac er, e = .returned (tv3 sa k sc wa n wc en aa m ac er) ∧ TF sh P f most w.heap.size er sa k sc wa n wc en aa m ac w' := by
  by_cases hr : sh.f < 1 ∨ 64 < sh.f
  · exact (play_shape hr).mono fun e w' ⟨he, hb⟩ => ⟨hb, none, 0, 0, none, 0, 0, false, none, 0, 0, 120, he, fun t => absurd t (by decide)⟩
  · have h1 : 1 ≤ sh.f := by omega
    have h2 : sh.f ≤ 64 := by omega
    obtain ⟨want, hwant⟩ : ∃ want : Nat, (want : Int) = 2 * sh.f := ⟨(2 * sh.f).toNat, by omega⟩
    refine (play_all h1 h2 hwant S hf SH hn63 SI hjw).mono fun e w' h => ?_
    refine ⟨h.1, ?_⟩
    rcases h.2 with ⟨er, hle, he⟩ | ⟨hn, hF, hok, v, he, hT⟩
    · refine ⟨none, 0, 0, none, 0, 0, false, none, 0, 0, er, he, fun h0 => ?_⟩
      rcases hle with ⟨_, rfl⟩ | ⟨_, h⟩
      · exact absurd h0 (by decide)
      · exact absurd h0 h.ne
    · obtain ⟨sa, k, sc, wa, n, wc, en, aa, m, ac, rfl⟩ := told_shape hT
      exact ⟨sa, k, sc, wa, n, wc, en, aa, m, ac, 0, he, fun _ => ⟨⟨⟨h1, h2⟩, by rw [hn]; exact hwant⟩, ⟨hok, hF⟩, hT⟩⟩

set_option maxHeartbeats 8000000 in
theorem soundT_any (S : Sees w w.heap.size ao P.n f) (hf : ∀ i, i < P.n → 0 ≤ f i ∧ f i ≤ 18446744073709551615) (SH : SeesH w w.heap.size aoh P.nh P.jn P.jb) (hn63 : P.nh ≤ 9223372036854775807) (SI : SeesI w w.heap.size aos P.ns P.sched) (hjw : ∀ h, h < P.nh → ∀ j, j < P.jn h → (P.jb h j).wf) :
    Calls Try.prog 6 #[.agg #[.int .i64 sh.a, .int .i64 sh.b, .int .i64 sh.c, .int .i64 sh.d, .int .i64 sh.e, .int .i64 sh.f, .slice ao P.n cap, .slice aoh P.nh caph, .slice aos P.ns caps, .int .i64 most]] w fun e w' => Below w.heap.size w w' ∧ ∃ sa k sc wa n wc en aa m ac er, e = .returned (.tuple #[.agg #[.slice sa k sc, .slice wa n wc, .bool en], .slice aa m ac, .bool (er == 0)]) ∧ TF sh P f most w.heap.size er sa k sc wa n wc en aa m ac w' := by
  have PL := hide (fun (w1 : World) (B1 : Below w.heap.size w w1) => play_tf (sh := sh) (most := most) (cap := cap) (caph := caph) (caps := caps) ((S.below B1 (Nat.le_refl _)).mono B1.size) hf ((SH.below B1 (Nat.le_refl _)).up B1.size) hn63 ((SI.below B1 (Nat.le_refl _)).up B1.size) hjw)
  have UP := hide (fun (base base' b : Nat) er sa k sc wa n wc en aa m ac (w1 w2 : World) => @TF.touch P f most sh base base' b er sa wa aa k sc n wc m ac en w1 w2)
  obtain ⟨SB, hSB⟩ : ∃ SB, TF sh P f most = SB := ⟨_, rfl⟩
  rw [hSB] at PL UP ⊢
  clear hSB
  obtain ⟨s0, s1, s2, s3, s4, s5⟩ := sh
  simp only [Shp.val] at PL ⊢
  clear S hf SH SI hjw
  obtain ⟨W0, hW0⟩ : ∃ W0, (w.alloc (.cells #[.int .i64 s0, .int .i64 s1, .int .i64 s2, .int .i64 s3, .int .i64 s4, .int .i64 s5, .slice ao P.n cap, .slice aoh P.nh caph, .slice aos P.ns caps, .int .i64 most] 28)).alloc (.cells #[.slice none 0 0, .slice none 0 0, .bool false] 32) = W0 := ⟨_, rfl⟩
  have b0 : Below w.heap.size w W0 := by rw [← hW0]; exact ((Below.refl _ w).alloc (Nat.le_refl _) _).alloc (by simp) _
  have sz0 : W0.heap.size = w.heap.size + 2 := by rw [← hW0]; simp
  have R0 : W0.rowIs w.heap.size 28 10 (lrow [.int .i64 s0, .int .i64 s1, .int .i64 s2, .int .i64 s3, .int .i64 s4, .int .i64 s5, .slice ao P.n cap, .slice aoh P.nh caph, .slice aos P.ns caps, .int .i64 most]) := by rw [← hW0]; exact (rowL_alloc w [.int .i64 s0, .int .i64 s1, .int .i64 s2, .int .i64 s3, .int .i64 s4, .int .i64 s5, .slice ao P.n cap, .slice aoh P.nh caph, .slice aos P.ns caps, .int .i64 most] _ rfl).alloc _
  have RT : W0.rowIs (w.heap.size + 1) 32 3 (lrow [.slice none 0 0, .slice none 0 0, .bool false]) := by
    rw [← hW0]
    have := rowL_alloc (w.alloc (.cells #[.int .i64 s0, .int .i64 s1, .int .i64 s2, .int .i64 s3, .int .i64 s4, .int .i64 s5, .slice ao P.n cap, .slice aoh P.nh caph, .slice aos P.ns caps, .int .i64 most] 28)) [.slice none 0 0, .slice none 0 0, .bool false] 32 (n := 3) rfl
    rwa [World.size_alloc] at this
  have c0 : W0.cell? ⟨w.heap.size, 0, none⟩ = some (.int .i64 s0) := R0.cell (i := 0) (by omega)
  have c1 : W0.cell? ⟨w.heap.size, 1, none⟩ = some (.int .i64 s1) := R0.cell (i := 1) (by omega)
  have c2 : W0.cell? ⟨w.heap.size, 2, none⟩ = some (.int .i64 s2) := R0.cell (i := 2) (by omega)
  have c3 : W0.cell? ⟨w.heap.size, 3, none⟩ = some (.int .i64 s3) := R0.cell (i := 3) (by omega)
  have c4 : W0.cell? ⟨w.heap.size, 4, none⟩ = some (.int .i64 s4) := R0.cell (i := 4) (by omega)
  have c5 : W0.cell? ⟨w.heap.size, 5, none⟩ = some (.int .i64 s5) := R0.cell (i := 5) (by omega)
  have c6 : W0.cell? ⟨w.heap.size, 6, none⟩ = some (.slice ao P.n cap) := R0.cell (i := 6) (by omega)
  have c7 : W0.cell? ⟨w.heap.size, 7, none⟩ = some (.slice aoh P.nh caph) := R0.cell (i := 7) (by omega)
  have c8 : W0.cell? ⟨w.heap.size, 8, none⟩ = some (.slice aos P.ns caps) := R0.cell (i := 8) (by omega)
  have c9 : W0.cell? ⟨w.heap.size, 9, none⟩ = some (.int .i64 most) := R0.cell (i := 9) (by omega)
  have HRT := hide RT
  have HB0 := hide b0
  clear R0 RT b0
  go_enter Try.func6, Try.ntmps6
  go_wp2_with fail
  refine (PL.out W0 HB0.out).mono ?_
  rintro e w1 ⟨hb1, sa, k, sc, wa, n, wc, en, aa, m, ac, er, rfl, hS⟩
  have hs1 := hb1.size
  have RT1 := HRT.out.of_block (hb1.block (w.heap.size + 1) (by omega))
  obtain ⟨W2, hW2⟩ : ∃ W2, w1.alloc (.cells #[.slice sa k sc, .slice wa n wc, .bool en] 32) = W2 := ⟨_, rfl⟩
  have R2 : W2.rowIs w1.heap.size 32 3 (lrow [.slice sa k sc, .slice wa n wc, .bool en]) := by rw [← hW2]; exact rowL_alloc w1 [.slice sa k sc, .slice wa n wc, .bool en] _ rfl
  have RT2 : W2.rowIs (w.heap.size + 1) 32 3 (lrow [.slice none 0 0, .slice none 0 0, .bool false]) := by rw [← hW2]; exact RT1.alloc _
  have B2 : Below w.heap.size w W2 := by rw [← hW2]; exact (HB0.out.trans (hb1.mono (by omega))).alloc (by omega) _
  have T2 : Touch w1 W2 (fun k => k = w.heap.size + 1) := by rw [← hW2]; exact (Touch.refl w1 _).alloc _
  have sz2 : W2.heap.size = w1.heap.size + 1 := by rw [← hW2]; simp
  have d0 : W2.cell? ⟨w1.heap.size, 0, none⟩ = some (.slice sa k sc) := R2.cell (i := 0) (by omega)
  have d1 : W2.cell? ⟨w1.heap.size, 1, none⟩ = some (.slice wa n wc) := R2.cell (i := 1) (by omega)
  have d2 : W2.cell? ⟨w1.heap.size, 2, none⟩ = some (.bool en) := R2.cell (i := 2) (by omega)
  have z0 : W2.cell? ⟨w.heap.size + 1, 0, none⟩ = some (.slice none 0 0) := RT2.cell (i := 0) (by omega)
  have z1 : W2.cell? ⟨w.heap.size + 1, 1, none⟩ = some (.slice none 0 0) := RT2.cell (i := 1) (by omega)
  have z2 : W2.cell? ⟨w.heap.size + 1, 2, none⟩ = some (.bool false) := RT2.cell (i := 2) (by omega)
  have y0 := RT2.frozen 0
  have y1 := RT2.frozen 1
  have y2 := RT2.frozen 2
  have tt := touch3 W2 (w.heap.size + 1) (.slice sa k sc) (.slice wa n wc) (.bool en)
  have FIN := hide (And.intro (B2.trans (tt.below (fun k hk => by omega) (by omega))) (UP.out W0.heap.size w.heap.size (w.heap.size + 1) er sa k sc wa n wc en aa m ac w1 _ hS (T2.trans tt) (by omega) (by omega)))
  clear hb1 hS RT1 R2 RT2 B2 T2 tt c0 c1 c2 c3 c4 c5 c6 c7 c8 c9 hW0
  unfold tv3
  go_wp2_with fail
  go_light
  refine bodyPost_ret (v := .tuple #[.agg #[.slice sa k sc, .slice wa n wc, .bool en], .slice aa m ac, .bool (er == 0)]) ?_ rfl ⟨FIN.out.1, sa, k, sc, wa, n, wc, en, aa, m, ac, er, rfl, FIN.out.2⟩
  simp [results, Try.results6, go_sem, *]


end
/-- What such a run told. -/
def SE (r : Nat) (P : Par) (f0 : Nat → Int) (m0 : Nat) (er : Int) (sa : Option Addr) (k : Nat) (wa : Option Addr) (n : Nat) (en : Bool) (aa : Option Addr) (m : Nat) (w' : World) : Prop :=
  er = 0 → (1 ≤ r ∧ r ≤ 64) ∧ P.n = 2 * r ∧ m0 ≤ 65536 ∧ P.nh ≤ 8 ∧ (∀ h, h < P.nh → P.jn h ≤ 256) ∧ (∀ h, h < P.nh → ∀ j, j < P.jn h → terr r (P.jb h j) = 0) ∧ k = (rn r P f0 m0).k ∧ m = P.nh ∧ n = P.n ∧ SeesS w' w'.heap.size sa (rn r P f0 m0).k (rn r P f0 m0).s ∧ SeesA w' w'.heap.size aa P.nh (rn r P f0 m0).done (rn r P f0 m0).ans

theorem se_of {sh : Shp} {P : Par} {f0 : Nat → Int} {most : Int} {base : Nat} {er : Int} {sa : Option Addr} {k sc : Nat} {wa : Option Addr} {n wc : Nat} {en : Bool} {aa : Option Addr} {m ac : Nat} {w' : World} {r : Nat} (hr : 1 ≤ sh.f ∧ sh.f ≤ 64 → sh.f = (r : Int)) (h : TF sh P f0 most base er sa k sc wa n wc en aa m ac w') : SE r P f0 most.toNat er sa k wa n en aa m w' := by
  intro h0
  obtain ⟨⟨h12, hn⟩, ⟨hok, hF⟩, hT⟩ := h h0
  have hr' := hr h12
  rw [hr'] at hok hT hn
  obtain ⟨blk, c, g', sv, ev, H, G, GS, R, hg, hne⟩ := hT
  simp only [tv3, Value.tuple.injEq, Array.mk.injEq, List.cons.injEq, Value.agg.injEq, Value.slice.injEq, Value.bool.injEq, and_true, true_and] at ev
  obtain ⟨⟨e1, ⟨e2, e3, e4⟩, e5⟩, e6, e7, e8⟩ := ev
  obtain ⟨sa', sc', es⟩ := GS.isSlice'
  rw [es] at e1
  simp only [Value.slice.injEq] at e1
  obtain ⟨rfl, rfl, _⟩ := e1
  subst e2 e3 e5 e6 e7
  rw [es] at GS
  refine ⟨⟨by omega, by omega⟩, by omega, by have := hF.2.2.2.2; omega, ?_, fun h hh => G.jobs h hh, fun h hh j hj => hok h hh j hj, rfl, rfl, rfl, GS.seesS H, seesA_of G.answers H⟩
  rcases Nat.lt_or_ge 8 P.nh with l | l
  · exact absurd (.inl l) hF.2.1
  · exact l
theorem rn_k {r : Nat} {P : Par} {f0 : Nat → Int} (m : Nat) : rn r P f0 (rn r P f0 m).k = rn r P f0 m := run_at_k P (st0 (kTally r) P f0) rfl m

theorem measT {k n : Nat} (h : k < n) : n - (intOf (.int .i64 ((k : Int) + 1))).toNat < n - (intOf (.int .i64 (k : Int))).toNat := by
  show n - ((k : Int) + 1).toNat < n - (k : Int).toNat
  omega
theorem viT {i : Nat} : Value.int .i64 ((i : Int) + 1) = .int .i64 ((i + 1 : Nat) : Int) := by simp
theorem wrapT (x : Int) : IntKind.u64.wrap x = x % 18446744073709551616 := IntKind.wrap_u64 x

set_option maxHeartbeats 4000000 in
theorem total_ok {w : World} {g cap n r : Nat} {f : Nat → Int} (hl : g < w.heap.size) (hc : ∀ q, q < n → w.cell? ⟨g, q, none⟩ = some (.int .u64 (f q))) (hn : n = 2 * r) (hr : r ≤ 64) :
    Calls Try.prog 7 #[.slice (some ⟨g, 0, none⟩) n cap, .int .i64 (r : Int)] w fun e w' => e = .returned (.tuple #[.int .u64 (tm f r), .bool (tf f r)]) ∧ w' = w := by
  have HC := hide hc
  have hrn : r ≤ n := by omega
  have HN := hide hrn
  clear hc hrn hn
  go_enter Try.func7, Try.ntmps7
  go_wp2_with fail
  go_loopw [6, 7, 8] (fun v6 v7 v8 wr => ∃ i : Nat, i ≤ r ∧ v8 = .int .i64 (i : Int) ∧ v6 = .int .u64 (tm f i) ∧ v7 = .bool (tf f i) ∧ wr = w) (fun _ _ v8 _ => r - (intOf v8).toNat)
  case atStart => exact ⟨0, Nat.zero_le _, rfl, rfl, rfl, rfl⟩
  case round =>
    obtain ⟨i, hi, rfl, rfl, rfl, hw⟩ := hrel
    have hw' := hw.symm
    subst hw'
    clear hw
    by_cases hlt : i < r
    · have hlt' : (i : Int) < r := by omega
      have hln : (i : Int) < n := by have := HN.out; omega
      have c := HC.out i (by have := HN.out; omega)
      have TM := hide (show tm f (i + 1) = (tm f i + f i) % 18446744073709551616 from rfl)
      have TF' := hide (show tf f (i + 1) = (tf f i && decide (tm f i ≤ (tm f i + f i) % 18446744073709551616)) from rfl)
      obtain ⟨t, ht⟩ : ∃ t, tm f i = t := ⟨_, rfl⟩
      obtain ⟨b, hb⟩ : ∃ b, tf f i = b := ⟨_, rfl⟩
      obtain ⟨v, hv⟩ : ∃ v, f i = v := ⟨_, rfl⟩
      rw [hv] at c TM TF'
      rw [ht] at TM TF' ⊢
      rw [hb] at TF' ⊢
      obtain ⟨u, hu⟩ : ∃ u, (t + v) % 18446744073709551616 = u := ⟨_, rfl⟩
      have g1 := wrapT (t + v)
      rw [hu] at g1 TM TF'
      clear ht hb hv hu
      cases b with
      | false =>
        go_wp2_with fail
        go_roundw
        case rel => exact ⟨i + 1, hlt, viT, by rw [TM.out], by rw [TF'.out]; rfl, (by first | trivial | rfl)⟩
        case measure => exact measT hlt
      | true =>
        go_wp2_with fail
        go_roundw
        case rel => exact ⟨i + 1, hlt, viT, by rw [TM.out], by rw [TF'.out]; rfl, (by first | trivial | rfl)⟩
        case measure => exact measT hlt
    · have e : i = r := by omega
      subst e
      go_wp2_with fail
      go_light
      refine bodyPost_ret (v := .tuple #[.int .u64 (tm f i), .bool (tf f i)]) ?_ rfl ⟨rfl, rfl⟩
      simp [results, Try.results7, go_sem, *]
end Tally
end Go.Proofs.Ytmkkkknalldckaa

/-
  TallyBetween: what the law keeps, in memory of its own: the words, which job, the steps made, the sums ahead, the changes of others.
-/
namespace Go.Proofs.Ytmkkkknalldckaa
open Go.RowKit
set_option linter.unusedVariables false
set_option linter.unusedSimpArgs false
set_option maxRecDepth 20000
namespace Tally

structure Tm (w : World) (base gw gj gm gl gc cw n nh : Nat) (f : Nat → Int) (job made : Nat → Nat) (low : Nat → Int) (chg : Nat → Nat) (blk : Rl → Nat) (c : Rl → Option Row) : Prop where
  has : Has w base blk c
  ws : ∃ F, c .words = some ⟨36, cw, F⟩ ∧ n ≤ cw ∧ ∀ q, q < n → F q = .int .u64 (f q)
  job : c .tasks = some ⟨3, nh, fun q => .int .i64 (job q)⟩
  made : c .going = some ⟨3, nh, fun q => .int .i64 (made q)⟩
  low : c .run = some ⟨36, nh, fun q => .int .u64 (low q)⟩
  chg : c .mem = some ⟨3, nh, fun q => .int .i64 (chg q)⟩
  ew : blk .words = gw
  ej : blk .tasks = gj
  em : blk .going = gm
  el : blk .run = gl
  ec : blk .mem = gc

namespace Tm
variable {w w' : World} {base gw gj gm gl gc cw n nh : Nat} {f : Nat → Int} {job made : Nat → Nat} {low : Nat → Int} {chg : Nat → Nat} {blk : Rl → Nat} {c : Rl → Option Row}

theorem cellw (h : Tm w base gw gj gm gl gc cw n nh f job made low chg blk c) {q : Nat} (hq : q < n) : w.cell? ⟨gw, q, none⟩ = some (.int .u64 (f q)) ∧ w.frozen? ⟨gw, q, none⟩ = false ∧ gw < w.heap.size := by
  obtain ⟨F, e, l, a⟩ := h.ws
  have R := h.has.row _ _ e
  rw [h.ew] at R
  exact ⟨by rw [R.cell (i := q) (show q < cw by omega)]; exact congrArg some (a q hq), R.frozen q, R.lt⟩
theorem ltw (h : Tm w base gw gj gm gl gc cw n nh f job made low chg blk c) : gw < w.heap.size := by
  obtain ⟨F, e, l, a⟩ := h.ws
  have R := h.has.row _ _ e
  rw [h.ew] at R
  exact R.lt
theorem rowj (h : Tm w base gw gj gm gl gc cw n nh f job made low chg blk c) : w.rowIs gj 3 nh (fun q => .int .i64 (job q)) := by have := h.has.row _ _ h.job; rw [h.ej] at this; exact this
theorem rowm (h : Tm w base gw gj gm gl gc cw n nh f job made low chg blk c) : w.rowIs gm 3 nh (fun q => .int .i64 (made q)) := by have := h.has.row _ _ h.made; rw [h.em] at this; exact this
theorem rowl (h : Tm w base gw gj gm gl gc cw n nh f job made low chg blk c) : w.rowIs gl 36 nh (fun q => .int .u64 (low q)) := by have := h.has.row _ _ h.low; rw [h.el] at this; exact this
theorem rowc (h : Tm w base gw gj gm gl gc cw n nh f job made low chg blk c) : w.rowIs gc 3 nh (fun q => .int .i64 (chg q)) := by have := h.has.row _ _ h.chg; rw [h.ec] at this; exact this
theorem lo (h : Tm w base gw gj gm gl gc cw n nh f job made low chg blk c) : base ≤ gw ∧ base ≤ gj ∧ base ≤ gm ∧ base ≤ gl ∧ base ≤ gc := by
  obtain ⟨F, e, l, a⟩ := h.ws
  have a0 := h.has.new _ _ e
  have a1 := h.has.new _ _ h.job
  have a2 := h.has.new _ _ h.made
  have a3 := h.has.new _ _ h.low
  have a4 := h.has.new _ _ h.chg
  rw [h.ew] at a0
  rw [h.ej] at a1
  rw [h.em] at a2
  rw [h.el] at a3
  rw [h.ec] at a4
  exact ⟨a0, a1, a2, a3, a4⟩
theorem ne_jm (h : Tm w base gw gj gm gl gc cw n nh f job made low chg blk c) : gj ≠ gm := by have := h.has.ne h.job h.made (by simp); rwa [h.ej, h.em] at this
theorem ne_lc (h : Tm w base gw gj gm gl gc cw n nh f job made low chg blk c) : gl ≠ gc := by have := h.has.ne h.low h.chg (by simp); rwa [h.el, h.ec] at this
theorem of_has (h : Tm w base gw gj gm gl gc cw n nh f job made low chg blk c) (hh : Has w' base blk c) : Tm w' base gw gj gm gl gc cw n nh f job made low chg blk c := ⟨hh, h.ws, h.job, h.made, h.low, h.chg, h.ew, h.ej, h.em, h.el, h.ec⟩
theorem below (h : Tm w base gw gj gm gl gc cw n nh f job made low chg blk c) (hb : Below w.heap.size w w') : Tm w' base gw gj gm gl gc cw n nh f job made low chg blk c := h.of_has (h.has.below hb)

theorem fn_upd (F : Nat → Nat) (i v : Nat) : (fun j => if j = i then Value.int .i64 (v : Int) else Value.int .i64 (F j : Int)) = fun q => Value.int .i64 ((upd F i v q : Nat) : Int) := by
  funext j
  by_cases e : j = i
  · subst e; rw [if_pos rfl, upd_same]
  · rw [if_neg e, upd_other _ _ e]
theorem fn_updU (F : Nat → Int) (i : Nat) (v : Int) : (fun j => if j = i then Value.int .u64 v else Value.int .u64 (F j)) = fun q => Value.int .u64 (upd F i v q) := by
  funext j
  by_cases e : j = i
  · subst e; rw [if_pos rfl, upd_same]
  · rw [if_neg e, upd_other _ _ e]

theorem set_w (h : Tm w base gw gj gm gl gc cw n nh f job made low chg blk c) (i : Nat) (v : Int) : ∃ c', Tm (w.setCell ⟨gw, i, none⟩ (.int .u64 v)) base gw gj gm gl gc cw n nh (fun q => if q = i then v else f q) job made low chg blk c' := by
  obtain ⟨F, e, l, a⟩ := h.ws
  have q := h.has.set .words e i (.int .u64 v)
  rw [h.ew] at q
  refine ⟨_, q, ⟨_, upd_same _ _ _, l, fun k hk => ?_⟩, (upd_other _ _ (by decide)).trans h.job, (upd_other _ _ (by decide)).trans h.made, (upd_other _ _ (by decide)).trans h.low, (upd_other _ _ (by decide)).trans h.chg, h.ew, h.ej, h.em, h.el, h.ec⟩
  show (if k = i then Value.int .u64 v else F k) = .int .u64 (if k = i then v else f k)
  split
  · rfl
  · exact a k hk
theorem set_job (h : Tm w base gw gj gm gl gc cw n nh f job made low chg blk c) (i v : Nat) : ∃ c', Tm (w.setCell ⟨gj, i, none⟩ (.int .i64 (v : Int))) base gw gj gm gl gc cw n nh f (upd job i v) made low chg blk c' := by
  have q := h.has.set .tasks h.job i (.int .i64 (v : Int))
  rw [h.ej] at q
  simp only [fn_upd] at q
  obtain ⟨F, e, l, a⟩ := h.ws
  exact ⟨_, q, ⟨F, (upd_other _ _ (by decide)).trans e, l, a⟩, upd_same _ _ _, (upd_other _ _ (by decide)).trans h.made, (upd_other _ _ (by decide)).trans h.low, (upd_other _ _ (by decide)).trans h.chg, h.ew, h.ej, h.em, h.el, h.ec⟩
theorem set_made (h : Tm w base gw gj gm gl gc cw n nh f job made low chg blk c) (i v : Nat) : ∃ c', Tm (w.setCell ⟨gm, i, none⟩ (.int .i64 (v : Int))) base gw gj gm gl gc cw n nh f job (upd made i v) low chg blk c' := by
  have q := h.has.set .going h.made i (.int .i64 (v : Int))
  rw [h.em] at q
  simp only [fn_upd] at q
  obtain ⟨F, e, l, a⟩ := h.ws
  exact ⟨_, q, ⟨F, (upd_other _ _ (by decide)).trans e, l, a⟩, (upd_other _ _ (by decide)).trans h.job, upd_same _ _ _, (upd_other _ _ (by decide)).trans h.low, (upd_other _ _ (by decide)).trans h.chg, h.ew, h.ej, h.em, h.el, h.ec⟩
theorem set_low (h : Tm w base gw gj gm gl gc cw n nh f job made low chg blk c) (i : Nat) (v : Int) : ∃ c', Tm (w.setCell ⟨gl, i, none⟩ (.int .u64 v)) base gw gj gm gl gc cw n nh f job made (upd low i v) chg blk c' := by
  have q := h.has.set .run h.low i (.int .u64 v)
  rw [h.el] at q
  simp only [fn_updU] at q
  obtain ⟨F, e, l, a⟩ := h.ws
  exact ⟨_, q, ⟨F, (upd_other _ _ (by decide)).trans e, l, a⟩, (upd_other _ _ (by decide)).trans h.job, (upd_other _ _ (by decide)).trans h.made, upd_same _ _ _, (upd_other _ _ (by decide)).trans h.chg, h.ew, h.ej, h.em, h.el, h.ec⟩
theorem set_chg (h : Tm w base gw gj gm gl gc cw n nh f job made low chg blk c) (i v : Nat) : ∃ c', Tm (w.setCell ⟨gc, i, none⟩ (.int .i64 (v : Int))) base gw gj gm gl gc cw n nh f job made low (upd chg i v) blk c' := by
  have q := h.has.set .mem h.chg i (.int .i64 (v : Int))
  rw [h.ec] at q
  simp only [fn_upd] at q
  obtain ⟨F, e, l, a⟩ := h.ws
  exact ⟨_, q, ⟨F, (upd_other _ _ (by decide)).trans e, l, a⟩, (upd_other _ _ (by decide)).trans h.job, (upd_other _ _ (by decide)).trans h.made, (upd_other _ _ (by decide)).trans h.low, upd_same _ _ _, h.ew, h.ej, h.em, h.el, h.ec⟩
end Tm

/-- The rows, with the step and the job that the law looks at, and what was there before. -/
structure Cx (w : World) (base gw gj gm gl gc cw n nh : Nat) (f : Nat → Int) (job made : Nat → Nat) (low : Nat → Int) (chg : Nat → Nat) (bS bJ : Nat) (SX JX : Nat → Value) (W : World) : Prop where
  t : ∃ blk c, Tm w base gw gj gm gl gc cw n nh f job made low chg blk c
  s : w.rowIs bS 38 6 SX
  j : w.rowIs bJ 41 5 JX
  b : Below base W w
  nS : gw ≠ bS ∧ gj ≠ bS ∧ gm ≠ bS ∧ gl ≠ bS ∧ gc ≠ bS
  nJ : gw ≠ bJ ∧ gj ≠ bJ ∧ gm ≠ bJ ∧ gl ≠ bJ ∧ gc ≠ bJ
namespace Cx
variable {w w' W : World} {base gw gj gm gl gc cw n nh : Nat} {f : Nat → Int} {job made : Nat → Nat} {low : Nat → Int} {chg : Nat → Nat} {bS bJ : Nat} {SX JX : Nat → Value}
theorem drewN (h : Cx w base gw gj gm gl gc cw n nh f job made low chg bS bJ SX JX W) (m : Nat) : Cx (w.drewN m) base gw gj gm gl gc cw n nh f job made low chg bS bJ SX JX W := by
  obtain ⟨blk, c, T⟩ := h.t
  exact ⟨⟨blk, c, T.of_has ⟨T.has.inj, fun r x e => (T.has.row r x e).of_block rfl, T.has.new⟩⟩, h.s.of_block rfl, h.j.of_block rfl, ⟨h.b.os, h.b.tape, h.b.output, h.b.size, h.b.block⟩, h.nS, h.nJ⟩
theorem set_w (h : Cx w base gw gj gm gl gc cw n nh f job made low chg bS bJ SX JX W) (i : Nat) (v : Int) : Cx (w.setCell ⟨gw, i, none⟩ (.int .u64 v)) base gw gj gm gl gc cw n nh (fun q => if q = i then v else f q) job made low chg bS bJ SX JX W := by
  obtain ⟨blk, c, T⟩ := h.t
  obtain ⟨c', T'⟩ := T.set_w i v
  exact ⟨⟨blk, c', T'⟩, h.s.setOther (fun e => h.nS.1 e.symm) _, h.j.setOther (fun e => h.nJ.1 e.symm) _, h.b.setCell T.lo.1 _, h.nS, h.nJ⟩
theorem set_job (h : Cx w base gw gj gm gl gc cw n nh f job made low chg bS bJ SX JX W) (i v : Nat) : Cx (w.setCell ⟨gj, i, none⟩ (.int .i64 (v : Int))) base gw gj gm gl gc cw n nh f (upd job i v) made low chg bS bJ SX JX W := by
  obtain ⟨blk, c, T⟩ := h.t
  obtain ⟨c', T'⟩ := T.set_job i v
  exact ⟨⟨blk, c', T'⟩, h.s.setOther (fun e => h.nS.2.1 e.symm) _, h.j.setOther (fun e => h.nJ.2.1 e.symm) _, h.b.setCell T.lo.2.1 _, h.nS, h.nJ⟩
theorem set_made (h : Cx w base gw gj gm gl gc cw n nh f job made low chg bS bJ SX JX W) (i v : Nat) : Cx (w.setCell ⟨gm, i, none⟩ (.int .i64 (v : Int))) base gw gj gm gl gc cw n nh f job (upd made i v) low chg bS bJ SX JX W := by
  obtain ⟨blk, c, T⟩ := h.t
  obtain ⟨c', T'⟩ := T.set_made i v
  exact ⟨⟨blk, c', T'⟩, h.s.setOther (fun e => h.nS.2.2.1 e.symm) _, h.j.setOther (fun e => h.nJ.2.2.1 e.symm) _, h.b.setCell T.lo.2.2.1 _, h.nS, h.nJ⟩
theorem set_low (h : Cx w base gw gj gm gl gc cw n nh f job made low chg bS bJ SX JX W) (i : Nat) (v : Int) : Cx (w.setCell ⟨gl, i, none⟩ (.int .u64 v)) base gw gj gm gl gc cw n nh f job made (upd low i v) chg bS bJ SX JX W := by
  obtain ⟨blk, c, T⟩ := h.t
  obtain ⟨c', T'⟩ := T.set_low i v
  exact ⟨⟨blk, c', T'⟩, h.s.setOther (fun e => h.nS.2.2.2.1 e.symm) _, h.j.setOther (fun e => h.nJ.2.2.2.1 e.symm) _, h.b.setCell T.lo.2.2.2.1 _, h.nS, h.nJ⟩
theorem set_chg (h : Cx w base gw gj gm gl gc cw n nh f job made low chg bS bJ SX JX W) (i v : Nat) : Cx (w.setCell ⟨gc, i, none⟩ (.int .i64 (v : Int))) base gw gj gm gl gc cw n nh f job made low (upd chg i v) bS bJ SX JX W := by
  obtain ⟨blk, c, T⟩ := h.t
  obtain ⟨c', T'⟩ := T.set_chg i v
  exact ⟨⟨blk, c', T'⟩, h.s.setOther (fun e => h.nS.2.2.2.2 e.symm) _, h.j.setOther (fun e => h.nJ.2.2.2.2 e.symm) _, h.b.setCell T.lo.2.2.2.2 _, h.nS, h.nJ⟩
theorem cj (h : Cx w base gw gj gm gl gc cw n nh f job made low chg bS bJ SX JX W) {q : Nat} (hq : q < nh) : w.cell? ⟨gj, q, none⟩ = some (.int .i64 (job q)) ∧ w.frozen? ⟨gj, q, none⟩ = false ∧ gj < w.heap.size := by
  obtain ⟨blk, c, T⟩ := h.t
  exact ⟨T.rowj.cell hq, T.rowj.frozen q, T.rowj.lt⟩
theorem cm (h : Cx w base gw gj gm gl gc cw n nh f job made low chg bS bJ SX JX W) {q : Nat} (hq : q < nh) : w.cell? ⟨gm, q, none⟩ = some (.int .i64 (made q)) ∧ w.frozen? ⟨gm, q, none⟩ = false ∧ gm < w.heap.size := by
  obtain ⟨blk, c, T⟩ := h.t
  exact ⟨T.rowm.cell hq, T.rowm.frozen q, T.rowm.lt⟩
theorem cl (h : Cx w base gw gj gm gl gc cw n nh f job made low chg bS bJ SX JX W) {q : Nat} (hq : q < nh) : w.cell? ⟨gl, q, none⟩ = some (.int .u64 (low q)) ∧ w.frozen? ⟨gl, q, none⟩ = false ∧ gl < w.heap.size := by
  obtain ⟨blk, c, T⟩ := h.t
  exact ⟨T.rowl.cell hq, T.rowl.frozen q, T.rowl.lt⟩
theorem cc (h : Cx w base gw gj gm gl gc cw n nh f job made low chg bS bJ SX JX W) {q : Nat} (hq : q < nh) : w.cell? ⟨gc, q, none⟩ = some (.int .i64 (chg q)) ∧ w.frozen? ⟨gc, q, none⟩ = false ∧ gc < w.heap.size := by
  obtain ⟨blk, c, T⟩ := h.t
  exact ⟨T.rowc.cell hq, T.rowc.frozen q, T.rowc.lt⟩
theorem cw' (h : Cx w base gw gj gm gl gc cw n nh f job made low chg bS bJ SX JX W) {q : Nat} (hq : q < n) : w.cell? ⟨gw, q, none⟩ = some (.int .u64 (f q)) ∧ w.frozen? ⟨gw, q, none⟩ = false ∧ gw < w.heap.size := by
  obtain ⟨blk, c, T⟩ := h.t
  exact T.cellw hq
theorem ltw (h : Cx w base gw gj gm gl gc cw n nh f job made low chg bS bJ SX JX W) : gw < w.heap.size := by
  obtain ⟨blk, c, T⟩ := h.t
  exact T.ltw
theorem ne (h : Cx w base gw gj gm gl gc cw n nh f job made low chg bS bJ SX JX W) : gl ≠ gc ∧ gj ≠ gm := by
  obtain ⟨blk, c, T⟩ := h.t
  exact ⟨T.ne_lc, T.ne_jm⟩
end Cx

theorem infoI : (Try.prog.info? 3).map (fun i => (i.zero.map Value.cells, i.size, i.bytes)) = some (some #[.int .i64 0], 1, 8) := by kernel_rfl
/-- The world behind the four makes. -/
abbrev mk4 (w : World) (nh : Nat) : World := (((w.alloc (.cells (madeCells #[.int .i64 0] nh) 3)).alloc (.cells (madeCells #[.int .i64 0] nh) 3)).alloc (.cells (madeCells #[.int .u64 0] nh) 36)).alloc (.cells (madeCells #[.int .i64 0] nh) 3)
theorem mk4_below (w : World) (nh : Nat) : Below w.heap.size w (mk4 w nh) := ((((Below.refl _ w).alloc (Nat.le_refl _) _).alloc (by simp only [World.size_alloc]; omega) _).alloc (by simp only [World.size_alloc]; omega) _).alloc (by simp only [World.size_alloc]; omega) _
theorem tm_start {w : World} {base gw cw n nh : Nat} {f : Nat → Int} {F : Nat → Value} (hr : w.rowIs gw 36 cw F) (hb : base ≤ gw) (hc : n ≤ cw) (hF : ∀ q, q < n → F q = .int .u64 (f q)) : ∃ blk c, Tm (mk4 w nh) base gw w.heap.size (w.heap.size + 1) (w.heap.size + 2) (w.heap.size + 3) cw n nh f (fun _ => 0) (fun _ => 0) (fun _ => 0) (fun _ => 0) blk c := by
  have lt := hr.lt
  have r0 := (((hr.alloc (.cells (madeCells #[.int .i64 0] nh) 3)).alloc (.cells (madeCells #[.int .i64 0] nh) 3)).alloc (.cells (madeCells #[.int .u64 0] nh) 36)).alloc (.cells (madeCells #[.int .i64 0] nh) 3)
  have r1 := (((World.rowIs_made w (.int .i64 0) nh 3).alloc (.cells (madeCells #[.int .i64 0] nh) 3)).alloc (.cells (madeCells #[.int .u64 0] nh) 36)).alloc (.cells (madeCells #[.int .i64 0] nh) 3)
  have r2 := ((World.rowIs_made (w.alloc (.cells (madeCells #[.int .i64 0] nh) 3)) (.int .i64 0) nh 3).alloc (.cells (madeCells #[.int .u64 0] nh) 36)).alloc (.cells (madeCells #[.int .i64 0] nh) 3)
  have r3 := (World.rowIs_made ((w.alloc (.cells (madeCells #[.int .i64 0] nh) 3)).alloc (.cells (madeCells #[.int .i64 0] nh) 3)) (.int .u64 0) nh 36).alloc (.cells (madeCells #[.int .i64 0] nh) 3)
  have r4 := World.rowIs_made (((w.alloc (.cells (madeCells #[.int .i64 0] nh) 3)).alloc (.cells (madeCells #[.int .i64 0] nh) 3)).alloc (.cells (madeCells #[.int .u64 0] nh) 36)) (.int .i64 0) nh 3
  simp only [World.size_alloc] at r2 r3 r4
  refine ⟨fun x => match x with | .words => gw | .tasks => w.heap.size | .going => w.heap.size + 1 | .run => w.heap.size + 2 | .mem => w.heap.size + 3 | _ => 0, fun x => match x with | .words => some ⟨36, cw, F⟩ | .tasks => some ⟨3, nh, fun _ => .int .i64 0⟩ | .going => some ⟨3, nh, fun _ => .int .i64 0⟩ | .run => some ⟨36, nh, fun _ => .int .u64 0⟩ | .mem => some ⟨3, nh, fun _ => .int .i64 0⟩ | _ => none, ⟨?_, ?_, ?_⟩, ⟨F, rfl, hc, hF⟩, rfl, rfl, rfl, rfl, rfl, rfl, rfl, rfl, rfl⟩
  · intro a b x x' e e' h
    cases a <;> cases b <;> simp at e e' h <;> first | rfl | omega
  · intro a x e
    cases a <;> simp at e <;> subst e
    · exact r4
    · exact r0
    · exact r3
    · exact r1
    · exact r2
  · intro a x e
    cases a <;> simp at e <;> simp <;> omega
end Tally
end Go.Proofs.Ytmkkkknalldckaa

/-
  Lists of words as cells; append at an operation, whatever slice is appended.
-/
namespace Go.Proofs.Ytmkkkknalldckaa
open Go.RowKit
set_option linter.unusedVariables false
set_option linter.unusedSimpArgs false
set_option maxRecDepth 20000
namespace PKept

def lenV : Value → Nat
  | .slice _ n _ => n
  | _ => 0
theorem own_slice {w : World} {base : Nat} {e : TypeId} {size : Nat} {v : Value} {n : Nat} {xs : List Value} (h : w.ownsRow base e size v n xs) : ∃ ao cp, v = .slice ao n cp := by
  obtain ⟨hl, ⟨rfl, rfl⟩ | ⟨g, cap, cur, rfl, _⟩⟩ := h
  · exact ⟨_, _, rfl⟩
  · exact ⟨_, _, rfl⟩
theorem grown_below {B : Nat} {w wr w1 : World} {v : Value} {o : Obj} {e : TypeId} {n : Nat} {xs : List Value} (HB : Below B w wr) (hB : B ≤ wr.heap.size) (HO : wr.ownsRow B e 1 v n xs) (G : (wr.alloc o).grownBy w1 v.ownBlock) : Below B w w1 := by
  have HA : Below B w (wr.alloc o) := HB.alloc hB o
  refine ⟨G.os.trans HA.os, G.tape.trans HA.tape, G.output.trans HA.output, Nat.le_trans HA.size G.size, fun k hk => ?_⟩
  refine (G.block k (by simp; omega) (fun e => ?_)).trans (HA.block k hk)
  have := (HO.lt k e.symm).1
  omega

/-- Words as cells. -/
def wc (l : List Int) : List Value := l.map fun x => Value.int .u64 x
theorem wc_len (l : List Int) : (wc l).length = l.length := by simp [wc]
theorem wc_more (l : List Int) (x : Int) : wc (l ++ [x]) = wc l ++ [.int .u64 x] := by simp [wc]
theorem wc_get {l : List Int} {j : Nat} {x : Int} (h : l[j]? = some x) : (wc l)[j]? = some (.int .u64 x) := by simp [wc, h]

/-- append at an operation, the appended whatever slice: nil, empty or not. -/
theorem wp_append_opt {P : Program} {w : World} {o : Oper} {a : Act} {K : Act → World → Prop} {Q : Exit → Act → World → Prop} (s x : Operand) (t : TypeId)
    (ho : o.op = .call { callee := .builtin .append, args := #[s, x], argTypes := #[t, t] })
    (base : Nat) (e : TypeId) (i : TypeInfo) (z : Value) (size bytes : Nat) (ht : P.underlying t = some (.slice e)) (hi : P.info? e = some i) (hz : i.zero = some z)
    (hsize : i.size = size) (hby : i.bytes = bytes) (hzs : z.cells.size = size) (hsz : 0 < size)
    (v : Value) (n : Nat) (xs : List Value) (hs : a.eval s = v) (hown : w.ownsRow base e size v n xs)
    (ao : Option Addr) (m c : Nat) (news : List Value) (hx : a.eval x = .slice ao m c) (hnil : ao = none → m = 0 ∧ c = 0) (hl : news.length = m * size) (hnews : ∀ ad, ao = some ad → ∀ j u, news[j]? = some u → w.cell? (ad.add j) = some u) (h1 : ∀ u ∈ news, u.oneCell' = true)
    (h63 : n + m ≤ maxLen) (hbytes : (n + m) * bytes ≤ 140737488355328) (hbase : base ≤ w.heap.size)
    (h : ∀ v' w', w'.ownsRow base e size v' (n + m) (xs ++ news) → w.grownBy w' v.ownBlock → K (a.put o.dst v') w') : o.wp P a w K Q := by
  cases ao with
  | none =>
    obtain ⟨rfl, rfl⟩ := hnil rfl
    have hn : news = [] := by simpa using hl
    subst hn
    have hrun := run_append_owned_none (P := P) (w := w) base t o.type e i size ht hi v n xs hown
    unfold Oper.wp
    simp [execOp, ho, resolve, invoke, builtin, hs, hx, hrun, Result.andThen]
    exact h v w (by simpa using hown) ⟨rfl, rfl, rfl, Nat.le_refl _, fun _ _ _ => rfl⟩
  | some ad =>
    obtain ⟨v', w', hr, h2, h3, _, _⟩ := run_append_own_at (P := P) w base t o.type e i z size bytes ht hi hz hsize hby hzs hsz v n xs hown ad m c news hl (hnews ad rfl) h1 h63 hbytes hbase
    unfold Oper.wp execOp
    simp only [ho, resolve, invoke, builtin, Sem.run_bind, Sem.run_pure, Result.andThen_ok, List.map_toArray, List.map_cons, List.map_nil, hs, hx, hr]
    exact h v' w' h2 h3

theorem owns_keep {w w' : World} {base : Nat} {e : TypeId} {size : Nat} {v : Value} {n : Nat} {xs : List Value} (h : w.ownsRow base e size v n xs) (hk : ∀ b, v.ownBlock = some b → b < w.heap.size → w'.heap[b]? = w.heap[b]?) : w'.ownsRow base e size v n xs := by
  obtain ⟨hl, h | ⟨g, cap, cur, rfl, hb, hg, hc, hm, hs, ht⟩⟩ := h
  · exact ⟨hl, .inl h⟩
  · refine ⟨hl, .inr ⟨g, cap, cur, rfl, hb, ?_, hc, hm, hs, ht⟩⟩
    rw [hk g (by simp [Value.ownBlock]) ?_]
    · exact hg
    · rcases Nat.lt_or_ge g w.heap.size with l | l
      · exact l
      · rw [Array.getElem?_eq_none l] at hg
        cases hg

/-- What a row of one's own tells to one that appends it. -/
theorem own_news {w : World} {B : Nat} {ao : Option Addr} {n cp : Nat} {xs : List Value} {e : TypeId} (h : w.ownsRow B e 1 (.slice ao n cp) n xs) : (ao = none → n = 0 ∧ cp = 0) ∧ xs.length = n * 1 ∧ ∀ ad, ao = some ad → ∀ j u, xs[j]? = some u → w.cell? (ad.add j) = some u := by
  refine ⟨fun e0 => ?_, h.1, fun ad e0 j u hj => ?_⟩
  · obtain ⟨hl, ⟨e1, e2⟩ | ⟨g, cap, cur, e1, _⟩⟩ := h
    · cases e1; exact ⟨rfl, rfl⟩
    · rw [e0] at e1; cases e1
  · have hjl := (List.getElem?_eq_some_iff.1 hj).1
    have hl := h.1
    obtain ⟨g, cap, F, e1, hb, R, hp, hc, _⟩ := row_of_owns h (by omega)
    rw [e0] at e1
    cases e1
    rw [Go.WideShapes.add_plain, Nat.zero_add, R.cell (i := j) (by omega)]
    exact congrArg some (hp j u hj)
end PKept
end Go.Proofs.Ytmkkkknalldckaa
