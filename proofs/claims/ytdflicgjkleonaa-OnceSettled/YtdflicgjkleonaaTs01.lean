/-
  Lemmas: HistG, OnceD, OnceN.
-/
import Derived.Test.YtdflicgjkleonaaTp13
import Derived.Test.YtdflicgjkleonaaTp05
set_option linter.unusedVariables false
set_option linter.unusedSimpArgs false
namespace Go.Proofs.Ytdflicgjkleonaa

variable {K : Kd} {P : Par} {f : Nat → Int}

theorem run_succ_cases (P : Par) (s : St K) (h0 : s.k = 0) (m : Nat) : (runSt P s (m + 1) = runSt P s m ∧ (runSt P s m).turn P < 0) ∨
    ∃ h : Nat, (runSt P s m).turn P = h ∧ h < P.nh ∧ (runSt P s m).done h < P.jn h ∧ (runSt P s m).k = m ∧ runSt P s (m + 1) = stepSt P (runSt P s m) h := by
  rcases turn_ok P (runSt P s m) with ⟨ht, _⟩ | ⟨h, ht, hh, hd⟩
  · left
    refine ⟨?_, by rw [ht]; decide⟩
    show (if _ then _ else _) = _
    rw [if_pos (by rw [ht]; decide)]
  · right
    refine ⟨h, ht, hh, hd, ?_, runSt_step ht⟩
    have hk := runSt_k P s h0 m
    rcases Nat.lt_or_ge (runSt P s m).k m with l | l
    · have := hk.2 l; rw [ht] at this; omega
    · omega

/-- Each step of a run. -/
theorem hist (P : Par) (s : St K) (h0 : s.k = 0) : ∀ m i, i < (runSt P s m).k → (runSt P s i).k = i ∧ (∃ h : Nat, (runSt P s i).turn P = h ∧ h < P.nh ∧ (runSt P s i).done h < P.jn h ∧ runSt P s (i + 1) = stepSt P (runSt P s i) h) ∧ (runSt P s m).s i = (runSt P s (i + 1)).s i
  | 0, i, hi => by have : (runSt P s 0).k = 0 := h0; omega
  | m + 1, i, hi => by
    rcases run_succ_cases P s h0 m with ⟨e, _⟩ | ⟨h, ht, hh, hd, hk, e⟩
    · rw [e] at hi ⊢
      exact hist P s h0 m i hi
    · have hk1 : (runSt P s (m + 1)).k = m + 1 := by rw [e]; show (runSt P s m).k + 1 = _; rw [hk]
      rw [hk1] at hi
      by_cases him : i = m
      · subst him
        exact ⟨hk, ⟨h, ht, hh, hd, e⟩, rfl⟩
      · obtain ⟨a, b, c⟩ := hist P s h0 m i (by rw [hk]; omega)
        refine ⟨a, b, ?_⟩
        rw [← c, e]
        show upd (runSt P s m).s (runSt P s m).k _ i = _
        rw [upd_other _ _ (by omega)]

theorem step_done (P : Par) (st : St K) (h h' : Nat) : st.done h' ≤ (stepSt P st h).done h' ∧ ∀ j, j < st.done h' → (stepSt P st h).ans h' j = st.ans h' j := by
  simp only [stepSt]
  split
  · by_cases e : h' = h
    · subst e
      rw [upd_same, upd_same]
      exact ⟨by omega, fun j hj => upd_other _ _ (by omega)⟩
    · rw [upd_other _ _ e, upd_other _ _ e]
      exact ⟨Nat.le_refl _, fun _ _ => rfl⟩
  · exact ⟨Nat.le_refl _, fun _ _ => rfl⟩

/-- What was told stays told. -/
theorem stays (P : Par) (s : St K) (h0 : s.k = 0) (i h' : Nat) : ∀ d, (runSt P s i).done h' ≤ (runSt P s (i + d)).done h' ∧ ∀ j, j < (runSt P s i).done h' → (runSt P s (i + d)).ans h' j = (runSt P s i).ans h' j
  | 0 => ⟨Nat.le_refl _, fun _ _ => rfl⟩
  | d + 1 => by
    obtain ⟨a, b⟩ := stays P s h0 i h' d
    rcases run_succ_cases P s h0 (i + d) with ⟨e, _⟩ | ⟨h, ht, hh, hd, hk, e⟩
    · rw [show i + (d + 1) = i + d + 1 by omega, e]
      exact ⟨a, b⟩
    · rw [show i + (d + 1) = i + d + 1 by omega, e]
      obtain ⟨x, y⟩ := step_done P (runSt P s (i + d)) h h'
      exact ⟨by omega, fun j hj => (y j (by omega)).trans (b j hj)⟩

/-- A run as long as its steps is the whole run. -/
theorem run_at_k (P : Par) (s : St K) (h0 : s.k = 0) (m : Nat) : runSt P s (runSt P s m).k = runSt P s m := by
  obtain ⟨h1, h2⟩ := runSt_k P s h0 m
  rcases Nat.lt_or_ge (runSt P s m).k m with l | l
  · -- the first time that none goes on
    induction m with
    | zero => omega
    | succ m ih =>
      rcases run_succ_cases P s h0 m with ⟨e, ht⟩ | ⟨h, ht, hh, hd, hk, e⟩
      · rw [e]
        obtain ⟨h1', h2'⟩ := runSt_k P s h0 m
        rcases Nat.lt_or_ge (runSt P s m).k m with l' | l'
        · exact ih h1' h2' l'
        · rw [show (runSt P s m).k = m by omega]
      · have : (runSt P s (m + 1)).k = m + 1 := by rw [e]; show (runSt P s m).k + 1 = _; rw [hk]
        omega
  · rw [show (runSt P s m).k = m by omega]

end Go.Proofs.Ytdflicgjkleonaa

namespace Go.Proofs.Ytdflicgjkleonaa
open Go.RowKit
namespace Once

structure OnS where
  hand : Int
  j : Jb
  st : Int
  told : Ans

def oerr (room : Int) (j : Jb) : Int := if j.kind < 1 ∨ 3 < j.kind then 200 else if j.a < 0 ∨ room ≤ j.a then 2 else 0
def oreq (room : Int) (s : OnS) : Stp :=
  if s.j.kind = 3 then ⟨s.hand, 1, s.j.a, 0, 0, true⟩ else if s.st = 0 then ⟨s.hand, 5, s.j.a, 0, 1, true⟩ else if s.st = 1 then ⟨s.hand, 4, room + s.j.a, 0, 1, true⟩ else if s.st = 2 then ⟨s.hand, 2, s.j.a, 0, 2, true⟩ else ⟨s.hand, 1, s.j.a, 0, 0, true⟩
def oends (s : OnS) (x : Stp) : Bool := if s.j.kind = 3 then true else if s.st = 0 then false else if s.st = 1 then false else if s.st = 2 then true else x.had == 2
def onext (s : OnS) (x : Stp) : OnS :=
  if s.j.kind = 3 then { s with told := ⟨x.had == 2, x.had⟩ } else if s.st = 0 then { s with st := if x.ok = true then s.j.kind else 3 } else if s.st = 1 then { s with st := 2 } else if s.st = 2 then { s with told := ⟨s.j.kind == 1, 1⟩ }
  else if x.had = 2 then { s with told := ⟨true, 0⟩ } else s
end Once
end Go.Proofs.Ytdflicgjkleonaa

namespace Go.Proofs.Ytdflicgjkleonaa
open Go.RowKit
namespace Once

theorem act_ld {n : Nat} {f : Nat → Int} {hd a : Int} (h0 : 0 ≤ a) (h1 : a < n) : stepOf n f ⟨hd, 1, a, 0, 0, true⟩ = ⟨hd, 1, a, f a.toNat, f a.toNat, true⟩ := by
  unfold stepOf; rw [if_pos ⟨h0, h1⟩]; rfl
theorem act_ldw {n : Nat} {f : Nat → Int} {hd a : Int} (h0 : 0 ≤ a) (h1 : a < n) : wordsOf n f ⟨hd, 1, a, 0, 0, true⟩ = f := by
  unfold wordsOf; rw [if_pos ⟨h0, h1⟩, act_ld h0 h1]; exact putF_self _
theorem act_st {n : Nat} {f : Nat → Int} {hd a v : Int} (h0 : 0 ≤ a) (h1 : a < n) : stepOf n f ⟨hd, 2, a, 0, v, true⟩ = ⟨hd, 2, a, f a.toNat, v, true⟩ := by
  unfold stepOf; rw [if_pos ⟨h0, h1⟩]; rfl
theorem act_stw {n : Nat} {f : Nat → Int} {hd a v : Int} (h0 : 0 ≤ a) (h1 : a < n) : wordsOf n f ⟨hd, 2, a, 0, v, true⟩ = putF f a.toNat v := by
  unfold wordsOf; rw [if_pos ⟨h0, h1⟩, act_st h0 h1]
theorem act_cas {n : Nat} {f : Nat → Int} {hd a : Int} (h0 : 0 ≤ a) (h1 : a < n) (he : f a.toNat = 0) : stepOf n f ⟨hd, 5, a, 0, 1, true⟩ = ⟨hd, 5, a, 0, 1, true⟩ ∧ wordsOf n f ⟨hd, 5, a, 0, 1, true⟩ = putF f a.toNat 1 := by
  have e : stepOf n f ⟨hd, 5, a, 0, 1, true⟩ = ⟨hd, 5, a, 0, 1, true⟩ := by
    unfold stepOf; rw [if_pos ⟨h0, h1⟩]
    simp [actOf, putBy, he]
  refine ⟨e, ?_⟩
  unfold wordsOf; rw [if_pos ⟨h0, h1⟩, e]
theorem act_not {n : Nat} {f : Nat → Int} {hd a : Int} (h0 : 0 ≤ a) (h1 : a < n) (he : ¬ f a.toNat = 0) : stepOf n f ⟨hd, 5, a, 0, 1, true⟩ = ⟨hd, 5, a, f a.toNat, f a.toNat, false⟩ ∧ wordsOf n f ⟨hd, 5, a, 0, 1, true⟩ = f := by
  have e : stepOf n f ⟨hd, 5, a, 0, 1, true⟩ = ⟨hd, 5, a, f a.toNat, f a.toNat, false⟩ := by
    unfold stepOf; rw [if_pos ⟨h0, h1⟩]
    simp [actOf, putBy, he]
  refine ⟨e, ?_⟩
  unfold wordsOf; rw [if_pos ⟨h0, h1⟩, e]
  exact putF_self _
theorem act_add {n : Nat} {f : Nat → Int} {hd a : Int} (h0 : 0 ≤ a) (h1 : a < n) (he : f a.toNat = 0) : stepOf n f ⟨hd, 4, a, 0, 1, true⟩ = ⟨hd, 4, a, 0, 1, true⟩ ∧ wordsOf n f ⟨hd, 4, a, 0, 1, true⟩ = putF f a.toNat 1 := by
  have e : stepOf n f ⟨hd, 4, a, 0, 1, true⟩ = ⟨hd, 4, a, 0, 1, true⟩ := by
    unfold stepOf; rw [if_pos ⟨h0, h1⟩]
    simp [actOf, putBy, he]
  refine ⟨e, ?_⟩
  unfold wordsOf; rw [if_pos ⟨h0, h1⟩, e]

/-- Who is at key a with an action of its own under way: none but g. -/
def Idle (P : Par) (done : Nat → Nat) (cur : Nat → OnS) (a : Nat) (g : Nat) : Prop := ∀ h, h < P.nh → done h < P.jn h → (cur h).j.kind ≠ 3 → (cur h).j.a = (a : Int) → h ≠ g → (cur h).st = 0 ∨ (cur h).st = 3

/-- What holds behind each step; win: whose job did a key. -/
structure Io (r : Nat) (P : Par) (f : Nat → Int) (done : Nat → Nat) (cur : Nat → OnS) (ans : Nat → Nat → Ans) (win : Nat → Option (Nat × Nat)) : Prop where
  own : ∀ h, h < P.nh → done h < P.jn h → (cur h).hand = (h : Int) ∧ (cur h).j = P.jb h (done h) ∧ 0 ≤ (cur h).st ∧ (cur h).st ≤ 3 ∧ ((cur h).j.kind = 2 → ¬ (cur h).st = 1)
  w3 : ∀ a, a < r → f a = 0 ∨ f a = 1 ∨ f a = 2
  zero : ∀ a, a < r → f a = 0 → f (r + a) = 0 ∧ Idle P done cur a P.nh ∧ (∀ h, h < P.nh → done h < P.jn h → (cur h).j.kind ≠ 3 → (cur h).j.a = (a : Int) → (cur h).st = 0)
  one : ∀ a, a < r → f a = 1 → ∃ h, h < P.nh ∧ done h < P.jn h ∧ (cur h).j.kind ≠ 3 ∧ (cur h).j.a = (a : Int) ∧ (((cur h).st = 1 ∧ f (r + a) = 0) ∨ ((cur h).st = 2 ∧ f (r + a) = (if (cur h).j.kind = 1 then 1 else 0))) ∧ Idle P done cur a h
  two : ∀ a, a < r → f a = 2 → ∃ p : Nat × Nat, win a = some p ∧ p.1 < P.nh ∧ p.2 < done p.1 ∧ (P.jb p.1 p.2).a = (a : Int) ∧ (P.jb p.1 p.2).kind ≠ 3 ∧ f (r + a) = (if (P.jb p.1 p.2).kind = 1 then 1 else 0) ∧ Idle P done cur a P.nh
  nowin : ∀ a, a < r → ¬ f a = 2 → win a = none
  seen : ∀ h, h < P.nh → ∀ j, j < done h → (P.jb h j).kind = 3 → 0 ≤ (ans h j).val ∧ (ans h j).val ≤ 2 ∧ (ans h j).ok = decide ((ans h j).val = 2)
  told : ∀ h, h < P.nh → ∀ j, j < done h → (P.jb h j).kind ≠ 3 → ∀ a : Nat, (P.jb h j).a = (a : Int) → f a = 2 ∧ ((win a = some (h, j) ∧ ans h j = ⟨(P.jb h j).kind == 1, 1⟩) ∨ (win a ≠ some (h, j) ∧ ans h j = ⟨true, 0⟩))

section
variable {r : Nat} {P : Par} {f : Nat → Int} {done : Nat → Nat} {cur : Nat → OnS} {ans : Nat → Nat → Ans} {win : Nat → Option (Nat × Nat)} {h : Nat}

theorem Io.start : Io r P (fun _ => 0) (fun _ => 0) (fun h => ⟨h, P.jb h 0, 0, ⟨false, 0⟩⟩) (fun _ _ => ⟨false, 0⟩) (fun _ => none) :=
  ⟨fun h _ _ => ⟨rfl, rfl, Int.le_refl 0, by show (0 : Int) ≤ 3; decide, fun _ => by show ¬ (0 : Int) = 1; decide⟩, fun _ _ => .inl rfl, fun a _ _ => ⟨rfl, fun _ _ _ _ _ _ => .inl rfl, fun _ _ _ _ _ => rfl⟩, fun a _ e => absurd e (by decide), fun a _ e => absurd e (by decide), fun _ _ _ => rfl, fun h _ j hj => absurd hj (Nat.not_lt_zero j), fun h _ j hj => absurd hj (Nat.not_lt_zero j)⟩

/-- What a step is to the law. -/
inductive Ko (r : Nat) (f : Nat → Int) (a : Nat) (j : Jb) (x : Stp) (en : Bool) (f' : Nat → Int) : Prop where
  | seen (k : j.kind = 3) (c : x.act = 1) (z : x.at_ = (a : Int)) (v : x.had = f a) (e : en = true) (s : f' = f)
  | go (k : j.kind ≠ 3) (c : x.act = 4 ∨ x.act = 5) (z : x.at_ = (a : Int) ∨ x.at_ = (r : Int) + (a : Int)) (e : en = false) (s : ∀ q, q < r → (f' q = 2 ↔ f q = 2))
  | fin (k : j.kind ≠ 3) (c : x.act = 2) (z : x.at_ = (a : Int)) (v : x.had = 1) (p : x.put = 2) (n : ¬ f a = 2) (e : en = true) (s : f' = putF f a 2)
  | wait (k : j.kind ≠ 3) (c : x.act = 1) (z : x.at_ = (a : Int)) (v : ¬ x.had = 2) (e : en = false) (s : f' = f)
  | got (k : j.kind ≠ 3) (c : x.act = 1) (z : x.at_ = (a : Int)) (v : x.had = 2) (y : f a = 2) (e : en = true) (s : f' = f)

/-- The words stay: a hand's task goes on. -/
theorem Io.stay (I : Io r P f done cur ans win) (hh : h < P.nh) (hd : done h < P.jn h) {c' : OnS} (e1 : c'.hand = (cur h).hand) (e2 : c'.j = (cur h).j) (b : 0 ≤ c'.st ∧ c'.st ≤ 3 ∧ (c'.j.kind = 2 → ¬ c'.st = 1)) (hn : (cur h).j.kind ≠ 3 → (c'.st = 0 ∨ c'.st = 3) ∧ ((cur h).st = 0 ∨ (cur h).st = 3)) (hz : (cur h).j.kind ≠ 3 → ∀ a : Nat, a < r → (cur h).j.a = (a : Int) → f a = 0 → c'.st = 0) : Io r P f done (upd cur h c') ans win := by
  have idle : ∀ a g, Idle P done cur a g → Idle P done (upd cur h c') a g := fun a g H q hq hdq k ka hg => by
    by_cases e : q = h
    · subst e
      rw [upd_same] at k ka ⊢
      rw [e2] at k
      exact (hn k).1
    · rw [upd_other _ _ e] at k ka ⊢
      exact H q hq hdq k ka hg
  refine ⟨fun g hg hdg => ?_, I.w3, fun a ha z => ?_, fun a ha o => ?_, fun a ha t => ?_, I.nowin, I.seen, I.told⟩
  · by_cases e : g = h
    · subst e
      rw [upd_same]
      obtain ⟨x1, x2, _⟩ := I.own g hg hdg
      exact ⟨e1.trans x1, e2.trans x2, b⟩
    · rw [upd_other _ _ e]; exact I.own g hg hdg
  · obtain ⟨y1, y2, y3⟩ := I.zero a ha z
    refine ⟨y1, idle a _ y2, fun g hg hdg k ka => ?_⟩
    by_cases e : g = h
    · subst e
      rw [upd_same] at k ka ⊢
      rw [e2] at k ka
      exact hz k a ha ka z
    · rw [upd_other _ _ e] at k ka ⊢
      exact y3 g hg hdg k ka
  · obtain ⟨g, hg, hdg, k, ka, s, id⟩ := I.one a ha o
    have e : g ≠ h := fun e => by
      subst e
      have := (hn k).2
      omega
    exact ⟨g, hg, hdg, by rw [upd_other _ _ e]; exact k, by rw [upd_other _ _ e]; exact ka, by rw [upd_other _ _ e]; exact s, idle a g id⟩
  · obtain ⟨p, p1, p2, p3, p4, p5, p6, id⟩ := I.two a ha t
    exact ⟨p, p1, p2, p3, p4, p5, p6, idle a _ id⟩

/-- A job ends; the words stay. -/
theorem Io.ended (I : Io r P f done cur ans win) (hh : h < P.nh) (hd : done h < P.jn h) (hn : (cur h).j.kind ≠ 3 → (cur h).st = 0 ∨ (cur h).st = 3) {tl : Ans}
    (hs : (P.jb h (done h)).kind = 3 → 0 ≤ tl.val ∧ tl.val ≤ 2 ∧ tl.ok = decide (tl.val = 2)) (ht : (P.jb h (done h)).kind ≠ 3 → ∀ a : Nat, (P.jb h (done h)).a = (a : Int) → f a = 2 ∧ a < r ∧ tl = ⟨true, 0⟩) :
    Io r P f (upd done h (done h + 1)) (upd cur h ⟨h, P.jb h (done h + 1), 0, ⟨false, 0⟩⟩) (upd ans h (upd (ans h) (done h) tl)) win := by
  have idle : ∀ a g, Idle P done cur a g → Idle P (upd done h (done h + 1)) (upd cur h ⟨h, P.jb h (done h + 1), 0, ⟨false, 0⟩⟩) a g := fun a g H q hq hdq k ka hg => by
    by_cases e : q = h
    · subst e
      rw [upd_same]
      exact .inl rfl
    · rw [upd_other _ _ e] at k ka hdq ⊢
      exact H q hq hdq k ka hg
  refine ⟨fun g hg hdg => ?_, I.w3, fun a ha z => ?_, fun a ha o => ?_, fun a ha t => ?_, I.nowin, fun g hg j hj k => ?_, fun g hg j hj k a ka => ?_⟩
  · by_cases e : g = h
    · subst e
      rw [upd_same, upd_same]
      exact ⟨rfl, rfl, Int.le_refl 0, by show (0 : Int) ≤ 3; decide, fun _ => by show ¬ (0 : Int) = 1; decide⟩
    · rw [upd_other _ _ e] at hdg ⊢
      rw [upd_other _ _ e]
      exact I.own g hg hdg
  · obtain ⟨y1, y2, y3⟩ := I.zero a ha z
    refine ⟨y1, idle a _ y2, fun g hg hdg k ka => ?_⟩
    by_cases e : g = h
    · subst e
      rw [upd_same]
    · rw [upd_other _ _ e] at hdg k ka ⊢
      exact y3 g hg hdg k ka
  · obtain ⟨g, hg, hdg, k, ka, s, id⟩ := I.one a ha o
    have e : g ≠ h := fun e => by
      subst e
      have := hn k
      omega
    exact ⟨g, hg, by rw [upd_other _ _ e]; exact hdg, by rw [upd_other _ _ e]; exact k, by rw [upd_other _ _ e]; exact ka, by rw [upd_other _ _ e]; exact s, idle a g id⟩
  · obtain ⟨p, p1, p2, p3, p4, p5, p6, id⟩ := I.two a ha t
    refine ⟨p, p1, p2, ?_, p4, p5, p6, idle a _ id⟩
    by_cases e : p.1 = h
    · rw [e, upd_same]; rw [e] at p3; omega
    · rw [upd_other _ _ e]; exact p3
  · by_cases e : g = h
    · subst e
      rw [upd_same] at hj ⊢
      by_cases ej : j = done g
      · subst ej
        rw [upd_same]
        exact hs k
      · rw [upd_other _ _ ej]
        exact I.seen g hg j (by omega) k
    · rw [upd_other _ _ e] at hj ⊢
      exact I.seen g hg j hj k
  · by_cases e : g = h
    · subst e
      rw [upd_same] at hj ⊢
      by_cases ej : j = done g
      · subst ej
        rw [upd_same]
        obtain ⟨z1, z0, z2⟩ := ht k a ka
        refine ⟨z1, .inr ⟨fun ew => ?_, z2⟩⟩
        obtain ⟨p, p1, p2, p3, p4, p5, p6, id⟩ := I.two a z0 z1
        rw [p1] at ew
        cases ew
        exact absurd p3 (Nat.lt_irrefl _)
      · rw [upd_other _ _ ej]
        exact I.told g hg j (by omega) k a ka
    · rw [upd_other _ _ e] at hj ⊢
      exact I.told g hg j hj k a ka

theorem putF_at (f : Nat → Int) (k : Nat) (v : Int) : putF f k v k = v := by simp [putF]
theorem putF_no (f : Nat → Int) {k q : Nat} (v : Int) (e : q ≠ k) : putF f k v q = f q := by simp [putF, e]

/-- Who has an action under way: the key's word is 1, and it is the only one. -/
theorem Io.doer (I : Io r P f done cur ans win) (hh : h < P.nh) (hd : done h < P.jn h) (hk : (cur h).j.kind ≠ 3) {a : Nat} (ha : a < r) (hka : (cur h).j.a = (a : Int)) (hs : (cur h).st = 1 ∨ (cur h).st = 2) : f a = 1 ∧ (((cur h).st = 1 ∧ f (r + a) = 0) ∨ ((cur h).st = 2 ∧ f (r + a) = (if (cur h).j.kind = 1 then 1 else 0))) ∧ Idle P done cur a h := by
  rcases I.w3 a ha with z | o | t
  · have := (I.zero a ha z).2.2 h hh hd hk hka
    omega
  · obtain ⟨g, hg, hdg, k, ka, s, id⟩ := I.one a ha o
    by_cases e : g = h
    · subst e
      exact ⟨o, s, id⟩
    · have := id h hh hd hk hka (fun e' => e e'.symm)
      omega
  · obtain ⟨p, _, _, _, _, _, _, id⟩ := I.two a ha t
    have := id h hh hd hk hka (by omega)
    omega

/-- The CAS is done. -/
theorem Io.claim (I : Io r P f done cur ans win) (hh : h < P.nh) (hd : done h < P.jn h) (hk : (cur h).j.kind = 1 ∨ (cur h).j.kind = 2) {a : Nat} (ha : a < r) (hka : (cur h).j.a = (a : Int)) (hz : f a = 0) {c' : OnS} (e1 : c'.hand = (cur h).hand) (e2 : c'.j = (cur h).j) (e3 : c'.st = (cur h).j.kind) : Io r P (putF f a 1) done (upd cur h c') ans win := by
  obtain ⟨z1, z2, z3⟩ := I.zero a ha hz
  have idle : ∀ q g, q ≠ a → Idle P done cur q g → Idle P done (upd cur h c') q g := fun q g hq H x hx hdx k ka hg => by
    by_cases e : x = h
    · subst e
      rw [upd_same, e2, hka] at ka
      exact absurd (by omega) hq
    · rw [upd_other _ _ e] at k ka ⊢
      exact H x hx hdx k ka hg
  refine ⟨fun g hg hdg => ?_, fun q hq => ?_, fun q hq z => ?_, fun q hq o => ?_, fun q hq t => ?_, fun q hq n => ?_, I.seen, fun g hg j hj k q kq => ?_⟩
  · by_cases e : g = h
    · subst e
      rw [upd_same]
      obtain ⟨x1, x2, _⟩ := I.own g hg hdg
      exact ⟨e1.trans x1, e2.trans x2, by omega, by omega, fun k => by rw [e2] at k; omega⟩
    · rw [upd_other _ _ e]; exact I.own g hg hdg
  · by_cases e : q = a
    · subst e; rw [putF_at]; exact .inr (.inl rfl)
    · rw [putF_no _ _ e]; exact I.w3 q hq
  · have e : q ≠ a := fun e => by subst e; rw [putF_at] at z; exact absurd z (by decide)
    rw [putF_no _ _ e] at z
    obtain ⟨y1, y2, y3⟩ := I.zero q hq z
    refine ⟨by rw [putF_no _ _ (by omega)]; exact y1, idle q _ e y2, fun g hg hdg k ka => ?_⟩
    by_cases eg : g = h
    · subst eg
      rw [upd_same, e2, hka] at ka
      exact absurd (by omega) e
    · rw [upd_other _ _ eg] at k ka ⊢
      exact y3 g hg hdg k ka
  · by_cases e : q = a
    · subst e
      refine ⟨h, hh, hd, by rw [upd_same, e2]; omega, by rw [upd_same, e2]; exact hka, ?_, fun x hx hdx k ka hg => ?_⟩
      · rw [upd_same, e3, e2, putF_no _ _ (by omega), z1]
        rcases hk with hk | hk
        · exact .inl ⟨hk, rfl⟩
        · exact .inr ⟨hk, by rw [if_neg (by omega)]⟩
      · rw [upd_other _ _ hg] at k ka ⊢
        exact .inl (z3 x hx hdx k ka)
    · rw [putF_no _ _ e] at o
      obtain ⟨g, hg, hdg, k, ka, st, id⟩ := I.one q hq o
      have eg : g ≠ h := fun eg => by subst eg; rw [hka] at ka; exact e (by omega)
      exact ⟨g, hg, hdg, by rw [upd_other _ _ eg]; exact k, by rw [upd_other _ _ eg]; exact ka, by rw [upd_other _ _ eg, putF_no _ _ (by omega)]; exact st, idle q g e id⟩
  · have e : q ≠ a := fun e => by subst e; rw [putF_at] at t; exact absurd t (by decide)
    rw [putF_no _ _ e] at t
    obtain ⟨p, p1, p2, p3, p4, p5, p6, id⟩ := I.two q hq t
    exact ⟨p, p1, p2, p3, p4, p5, by rw [putF_no _ _ (by omega)]; exact p6, idle q _ e id⟩
  · by_cases e : q = a
    · subst e; exact I.nowin q hq (by omega)
    · rw [putF_no _ _ e] at n; exact I.nowin q hq n
  · obtain ⟨t1, t2⟩ := I.told g hg j hj k q kq
    have e : q ≠ a := fun e => by subst e; omega
    exact ⟨by rw [putF_no _ _ e]; exact t1, t2⟩

/-- The count is told. -/
theorem Io.add (I : Io r P f done cur ans win) (hh : h < P.nh) (hd : done h < P.jn h) (hk : (cur h).j.kind = 1) {a : Nat} (ha : a < r) (hka : (cur h).j.a = (a : Int)) (hs : (cur h).st = 1) {c' : OnS} (e1 : c'.hand = (cur h).hand) (e2 : c'.j = (cur h).j) (e3 : c'.st = 2) : Io r P (putF f (r + a) 1) done (upd cur h c') ans win := by
  obtain ⟨o1, s, id1⟩ := I.doer hh hd (by omega) ha hka (.inl hs)
  have idle : ∀ q g, (q = a → g = h) → Idle P done cur q g → Idle P done (upd cur h c') q g := fun q g hq H x hx hdx k ka hg => by
    by_cases e : x = h
    · subst e
      rw [upd_same, e2, hka] at ka
      exact absurd (hq (by omega)).symm hg
    · rw [upd_other _ _ e] at k ka ⊢
      exact H x hx hdx k ka hg
  refine ⟨fun g hg hdg => ?_, fun q hq => ?_, fun q hq z => ?_, fun q hq o => ?_, fun q hq t => ?_, fun q hq n => ?_, I.seen, fun g hg j hj k q kq => ?_⟩
  · by_cases e : g = h
    · subst e
      rw [upd_same]
      obtain ⟨x1, x2, _⟩ := I.own g hg hdg
      exact ⟨e1.trans x1, e2.trans x2, by omega, by omega, fun k => by omega⟩
    · rw [upd_other _ _ e]; exact I.own g hg hdg
  · rw [putF_no _ _ (by omega)]; exact I.w3 q hq
  · rw [putF_no _ _ (by omega)] at z
    have e : q ≠ a := fun e => by subst e; omega
    obtain ⟨y1, y2, y3⟩ := I.zero q hq z
    refine ⟨by rw [putF_no _ _ (by omega)]; exact y1, idle q _ (fun eq => absurd eq e) y2, fun g hg hdg k ka => ?_⟩
    by_cases eg : g = h
    · subst eg
      rw [upd_same, e2, hka] at ka
      exact absurd (by omega) e
    · rw [upd_other _ _ eg] at k ka ⊢
      exact y3 g hg hdg k ka
  · rw [putF_no _ _ (by omega)] at o
    by_cases e : q = a
    · subst e
      refine ⟨h, hh, hd, by rw [upd_same, e2]; omega, by rw [upd_same, e2]; exact hka, .inr ⟨by rw [upd_same]; exact e3, ?_⟩, idle q h (fun _ => rfl) id1⟩
      rw [upd_same, e2, putF_at, if_pos hk]
    · obtain ⟨g, hg, hdg, k, ka, st, id⟩ := I.one q hq o
      have eg : g ≠ h := fun eg => by subst eg; rw [hka] at ka; exact e (by omega)
      exact ⟨g, hg, hdg, by rw [upd_other _ _ eg]; exact k, by rw [upd_other _ _ eg]; exact ka, by rw [upd_other _ _ eg, putF_no _ _ (by omega)]; exact st, idle q g (fun eq => absurd eq e) id⟩
  · rw [putF_no _ _ (by omega)] at t
    have e : q ≠ a := fun e => by subst e; omega
    obtain ⟨p, p1, p2, p3, p4, p5, p6, id⟩ := I.two q hq t
    exact ⟨p, p1, p2, p3, p4, p5, by rw [putF_no _ _ (by omega)]; exact p6, idle q _ (fun eq => absurd eq e) id⟩
  · rw [putF_no _ _ (by omega)] at n; exact I.nowin q hq n
  · obtain ⟨t1, t2⟩ := I.told g hg j hj k q kq
    by_cases e : q = r + a
    · have := I.own h hh hd
      exact ⟨absurd t1 (by
        subst e
        rcases s with s | s
        · omega
        · omega), t2⟩
    · exact ⟨by rw [putF_no _ _ e]; exact t1, t2⟩

/-- The store of 2: the key is done, the job ends. -/
theorem Io.finish (I : Io r P f done cur ans win) (hh : h < P.nh) (hd : done h < P.jn h) (hk : (cur h).j.kind ≠ 3) {a : Nat} (ha : a < r) (hka : (cur h).j.a = (a : Int)) (hs : (cur h).st = 2) :
    Io r P (putF f a 2) (upd done h (done h + 1)) (upd cur h ⟨h, P.jb h (done h + 1), 0, ⟨false, 0⟩⟩) (upd ans h (upd (ans h) (done h) ⟨(P.jb h (done h)).kind == 1, 1⟩)) (upd win a (some (h, done h))) := by
  obtain ⟨o1, st, id1⟩ := I.doer hh hd hk ha hka (.inr hs)
  have ej := (I.own h hh hd).2.1
  have cnt1 : f (r + a) = (if (P.jb h (done h)).kind = 1 then 1 else 0) := by
    rw [← ej]
    rcases st with st | st
    · omega
    · exact st.2
  have idle : ∀ q g, (q = a → g = h ∨ g = P.nh) → (q ≠ a → Idle P done cur q g) → Idle P (upd done h (done h + 1)) (upd cur h ⟨h, P.jb h (done h + 1), 0, ⟨false, 0⟩⟩) q g := fun q g hq H x hx hdx k ka hg => by
    by_cases e : x = h
    · subst e
      rw [upd_same]
      exact .inl rfl
    · rw [upd_other _ _ e] at k ka hdx ⊢
      by_cases eq : q = a
      · subst eq
        exact id1 x hx hdx k ka e
      · exact H eq x hx hdx k ka hg
  refine ⟨fun g hg hdg => ?_, fun q hq => ?_, fun q hq z => ?_, fun q hq o => ?_, fun q hq t => ?_, fun q hq n => ?_, fun g hg j hj k => ?_, fun g hg j hj k q kq => ?_⟩
  · by_cases e : g = h
    · subst e
      rw [upd_same, upd_same]
      exact ⟨rfl, rfl, Int.le_refl 0, by show (0 : Int) ≤ 3; decide, fun _ => by show ¬ (0 : Int) = 1; decide⟩
    · rw [upd_other _ _ e] at hdg ⊢
      rw [upd_other _ _ e]
      exact I.own g hg hdg
  · by_cases e : q = a
    · subst e; rw [putF_at]; exact .inr (.inr rfl)
    · rw [putF_no _ _ e]; exact I.w3 q hq
  · have e : q ≠ a := fun e => by subst e; rw [putF_at] at z; exact absurd z (by decide)
    rw [putF_no _ _ e] at z
    obtain ⟨y1, y2, y3⟩ := I.zero q hq z
    refine ⟨by rw [putF_no _ _ (by omega)]; exact y1, idle q _ (fun eq => absurd eq e) (fun _ => y2), fun g hg hdg k ka => ?_⟩
    by_cases eg : g = h
    · subst eg
      rw [upd_same]
    · rw [upd_other _ _ eg] at hdg k ka ⊢
      exact y3 g hg hdg k ka
  · have e : q ≠ a := fun e => by subst e; rw [putF_at] at o; exact absurd o (by decide)
    rw [putF_no _ _ e] at o
    obtain ⟨g, hg, hdg, k, ka, st', id⟩ := I.one q hq o
    have eg : g ≠ h := fun eg => by subst eg; rw [hka] at ka; exact e (by omega)
    exact ⟨g, hg, by rw [upd_other _ _ eg]; exact hdg, by rw [upd_other _ _ eg]; exact k, by rw [upd_other _ _ eg]; exact ka, by rw [upd_other _ _ eg, putF_no _ _ (by omega)]; exact st', idle q g (fun eq => absurd eq e) (fun _ => id)⟩
  · by_cases e : q = a
    · subst e
      refine ⟨(h, done h), upd_same _ _ _, hh, by show done h < upd done h (done h + 1) h; rw [upd_same]; omega, by show (P.jb h (done h)).a = _; rw [← ej]; exact hka, by show (P.jb h (done h)).kind ≠ 3; rw [← ej]; exact hk, by rw [putF_no _ _ (by omega)]; exact cnt1, idle q _ (fun _ => .inr rfl) (fun n => absurd rfl n)⟩
    · rw [putF_no _ _ e] at t
      obtain ⟨p, p1, p2, p3, p4, p5, p6, id⟩ := I.two q hq t
      refine ⟨p, by rw [upd_other _ _ e]; exact p1, p2, ?_, p4, p5, by rw [putF_no _ _ (by omega)]; exact p6, idle q _ (fun eq => absurd eq e) (fun _ => id)⟩
      by_cases ep : p.1 = h
      · rw [ep, upd_same]; rw [ep] at p3; omega
      · rw [upd_other _ _ ep]; exact p3
  · have e : q ≠ a := fun e => by subst e; rw [putF_at] at n; exact n rfl
    rw [putF_no _ _ e] at n
    rw [upd_other _ _ e]
    exact I.nowin q hq n
  · by_cases e : g = h
    · subst e
      rw [upd_same] at hj ⊢
      by_cases ej' : j = done g
      · subst ej'
        rw [← ej] at k
        exact absurd k hk
      · rw [upd_other _ _ ej']
        exact I.seen g hg j (by omega) k
    · rw [upd_other _ _ e] at hj ⊢
      exact I.seen g hg j hj k
  · by_cases e : g = h
    · subst e
      rw [upd_same] at hj ⊢
      by_cases ej' : j = done g
      · subst ej'
        have eq : q = a := by rw [← ej] at kq; omega
        subst eq
        rw [putF_at, upd_same, upd_same]
        exact ⟨rfl, .inl ⟨rfl, rfl⟩⟩
      · rw [upd_other _ _ ej']
        obtain ⟨t1, t2⟩ := I.told g hg j (by omega) k q kq
        have eq : q ≠ a := fun eq => by subst eq; omega
        rw [putF_no _ _ eq, upd_other _ _ eq]
        exact ⟨t1, t2⟩
    · rw [upd_other _ _ e] at hj ⊢
      obtain ⟨t1, t2⟩ := I.told g hg j hj k q kq
      have eq : q ≠ a := fun eq => by subst eq; omega
      rw [putF_no _ _ eq, upd_other _ _ eq]
      exact ⟨t1, t2⟩

/-- Each step. -/
theorem Io.step (I : Io r P f done cur ans win) (hn : P.n = 2 * r) (hok : ∀ h, h < P.nh → ∀ j, j < P.jn h → oerr r (P.jb h j) = 0) (hh : h < P.nh) (hd : done h < P.jn h) :
    ∃ (a : Nat) (win' : Nat → Option (Nat × Nat)), a < r ∧ (P.jb h (done h)).a = (a : Int) ∧ (1 ≤ (P.jb h (done h)).kind ∧ (P.jb h (done h)).kind ≤ 3) ∧ (stepOf P.n f (oreq r (cur h))).hand = (h : Int) ∧
      Ko r f a (P.jb h (done h)) (stepOf P.n f (oreq r (cur h))) (oends (cur h) (stepOf P.n f (oreq r (cur h)))) (wordsOf P.n f (oreq r (cur h))) ∧
      Io r P (wordsOf P.n f (oreq r (cur h))) (if oends (cur h) (stepOf P.n f (oreq r (cur h))) = true then upd done h (done h + 1) else done)
        (upd cur h (if oends (cur h) (stepOf P.n f (oreq r (cur h))) = true then ⟨h, P.jb h (done h + 1), 0, ⟨false, 0⟩⟩ else onext (cur h) (stepOf P.n f (oreq r (cur h)))))
        (if oends (cur h) (stepOf P.n f (oreq r (cur h))) = true then upd ans h (upd (ans h) (done h) (onext (cur h) (stepOf P.n f (oreq r (cur h)))).told) else ans) win' := by
  obtain ⟨eh, ej, s0, s3, s2⟩ := I.own h hh hd
  have ho := hok h hh _ hd
  have hb : (1 ≤ (P.jb h (done h)).kind ∧ (P.jb h (done h)).kind ≤ 3) ∧ 0 ≤ (P.jb h (done h)).a ∧ (P.jb h (done h)).a < r := by
    unfold oerr at ho
    split at ho
    · cases ho
    · split at ho
      · cases ho
      · omega
  obtain ⟨a, hka⟩ : ∃ a : Nat, (P.jb h (done h)).a = (a : Int) := ⟨(P.jb h (done h)).a.toNat, by omega⟩
  have ha : a < r := by omega
  have kca : (cur h).j.a = (a : Int) := by rw [ej]; exact hka
  have b1 : (0 : Int) ≤ (a : Int) := by omega
  have b2 : (a : Int) < (P.n : Int) := by omega
  have b3 : (0 : Int) ≤ (r : Int) + (a : Int) := by omega
  have b4 : (r : Int) + (a : Int) < (P.n : Int) := by omega
  have t1 : ((a : Nat) : Int).toNat = a := by omega
  have t2 : ((r : Int) + (a : Int)).toNat = r + a := by omega
  have fa := I.w3 a ha
  refine ⟨a, ?_⟩
  by_cases k3 : (cur h).j.kind = 3
  · have q : oreq r (cur h) = ⟨(cur h).hand, 1, a, 0, 0, true⟩ := by simp [oreq, k3, kca]
    rw [q, act_ld b1 b2, act_ldw b1 b2, t1]
    have e5 : oends (cur h) ⟨(cur h).hand, 1, a, f a, f a, true⟩ = true := by simp [oends, k3]
    have e7 : (onext (cur h) ⟨(cur h).hand, 1, a, f a, f a, true⟩).told = ⟨f a == 2, f a⟩ := by simp [onext, k3]
    rw [e5, e7, if_pos rfl, if_pos rfl, if_pos rfl]
    refine ⟨win, ha, hka, hb.1, eh, .seen (by rw [← ej]; exact k3) rfl rfl rfl rfl rfl, I.ended hh hd (fun n => absurd k3 n) (fun _ => ⟨by show 0 ≤ f a; omega, by show f a ≤ 2; omega, rfl⟩) (fun n => absurd (by rw [← ej]; exact k3) n)⟩
  · have kj : (P.jb h (done h)).kind ≠ 3 := by rw [← ej]; exact k3
    have k12 : (cur h).j.kind = 1 ∨ (cur h).j.kind = 2 := by rw [ej]; omega
    obtain s | s | s | s : (cur h).st = 0 ∨ (cur h).st = 1 ∨ (cur h).st = 2 ∨ (cur h).st = 3 := by omega
    · have q : oreq r (cur h) = ⟨(cur h).hand, 5, a, 0, 1, true⟩ := by simp [oreq, k3, s, kca]
      by_cases z : f a = 0
      · obtain ⟨w1, w2⟩ := act_cas (f := f) (hd := (cur h).hand) b1 b2 (by rw [t1]; exact z)
        rw [q, w1, w2, t1]
        have e5 : oends (cur h) ⟨(cur h).hand, 5, a, 0, 1, true⟩ = false := by simp [oends, k3, s]
        have e7 : onext (cur h) ⟨(cur h).hand, 5, a, 0, 1, true⟩ = { cur h with st := (cur h).j.kind } := by simp [onext, k3, s]
        rw [e5, e7, if_neg (by decide), if_neg (by decide), if_neg (by decide)]
        refine ⟨win, ha, hka, hb.1, eh, .go kj (.inr rfl) (.inl rfl) rfl (fun q hq => ?_), I.claim hh hd k12 ha kca z rfl rfl rfl⟩
        by_cases e : q = a
        · subst e; rw [putF_at]; omega
        · rw [putF_no _ _ e]
      · obtain ⟨w1, w2⟩ := act_not (f := f) (hd := (cur h).hand) b1 b2 (by rw [t1]; exact z)
        rw [q, w1, w2, t1]
        have e5 : oends (cur h) ⟨(cur h).hand, 5, a, f a, f a, false⟩ = false := by simp [oends, k3, s]
        have e7 : onext (cur h) ⟨(cur h).hand, 5, a, f a, f a, false⟩ = { cur h with st := 3 } := by simp [onext, k3, s]
        rw [e5, e7, if_neg (by decide), if_neg (by decide), if_neg (by decide)]
        exact ⟨win, ha, hka, hb.1, eh, .go kj (.inr rfl) (.inl rfl) rfl (fun q hq => Iff.rfl), I.stay hh hd rfl rfl ⟨by show (0 : Int) ≤ 3; decide, by show (3 : Int) ≤ 3; decide, fun _ => by show ¬ (3 : Int) = 1; decide⟩ (fun _ => ⟨.inr rfl, .inl s⟩) (fun _ q hq kq zq => absurd (((show q = a by omega) ▸ zq : f a = 0)) z)⟩
    · have kk : (cur h).j.kind = 1 := by rcases k12 with k | k; exact k; exact absurd s (s2 k)
      obtain ⟨o1, st, id1⟩ := I.doer hh hd k3 ha kca (.inl s)
      have fz : f (r + a) = 0 := by rcases st with st | st; exact st.2; omega
      have q : oreq r (cur h) = ⟨(cur h).hand, 4, (r : Int) + a, 0, 1, true⟩ := by simp [oreq, k3, s, kca]
      obtain ⟨w1, w2⟩ := act_add (f := f) (hd := (cur h).hand) b3 b4 (by rw [t2]; exact fz)
      rw [q, w1, w2, t2]
      have e5 : oends (cur h) ⟨(cur h).hand, 4, (r : Int) + a, 0, 1, true⟩ = false := by simp [oends, k3, s]
      have e7 : onext (cur h) ⟨(cur h).hand, 4, (r : Int) + a, 0, 1, true⟩ = { cur h with st := 2 } := by simp [onext, k3, s]
      rw [e5, e7, if_neg (by decide), if_neg (by decide), if_neg (by decide)]
      exact ⟨win, ha, hka, hb.1, eh, .go kj (.inl rfl) (.inr rfl) rfl (fun q hq => by rw [putF_no _ _ (by omega)]), I.add hh hd kk ha kca s rfl rfl rfl⟩
    · obtain ⟨o1, st, id1⟩ := I.doer hh hd k3 ha kca (.inr s)
      have q : oreq r (cur h) = ⟨(cur h).hand, 2, a, 0, 2, true⟩ := by simp [oreq, k3, s, kca]
      rw [q, act_st b1 b2, act_stw b1 b2, t1]
      have e5 : oends (cur h) ⟨(cur h).hand, 2, a, f a, 2, true⟩ = true := by simp [oends, k3, s]
      have e7 : (onext (cur h) ⟨(cur h).hand, 2, a, f a, 2, true⟩).told = ⟨(P.jb h (done h)).kind == 1, 1⟩ := by rw [← ej]; simp [onext, k3, s]
      rw [e5, e7, if_pos rfl, if_pos rfl, if_pos rfl]
      exact ⟨upd win a (some (h, done h)), ha, hka, hb.1, eh, .fin kj rfl rfl o1 rfl (by omega) rfl rfl, I.finish hh hd k3 ha kca s⟩
    · have q : oreq r (cur h) = ⟨(cur h).hand, 1, a, 0, 0, true⟩ := by simp [oreq, k3, s, kca]
      rw [q, act_ld b1 b2, act_ldw b1 b2, t1]
      by_cases z : f a = 2
      · have e5 : oends (cur h) ⟨(cur h).hand, 1, a, f a, f a, true⟩ = true := by simp [oends, k3, s, z]
        have e7 : (onext (cur h) ⟨(cur h).hand, 1, a, f a, f a, true⟩).told = ⟨true, 0⟩ := by simp [onext, k3, s, z]
        rw [e5, e7, if_pos rfl, if_pos rfl, if_pos rfl]
        refine ⟨win, ha, hka, hb.1, eh, .got kj rfl rfl z z rfl rfl, I.ended hh hd (fun _ => .inr s) (fun k => absurd k kj) (fun _ q kq => ?_)⟩
        have : q = a := by omega
        subst this
        exact ⟨z, ha, rfl⟩
      · have e5 : oends (cur h) ⟨(cur h).hand, 1, a, f a, f a, true⟩ = false := by simp [oends, k3, s, z]
        have e7 : onext (cur h) ⟨(cur h).hand, 1, a, f a, f a, true⟩ = cur h := by simp [onext, k3, s, z]
        rw [e5, e7, if_neg (by decide), if_neg (by decide), if_neg (by decide)]
        refine ⟨win, ha, hka, hb.1, eh, .wait kj rfl rfl z rfl rfl, I.stay hh hd rfl rfl ⟨s0, s3, s2⟩ (fun _ => ⟨.inr s, .inr s⟩) (fun _ q hq kq zq => ?_)⟩
        exact (I.zero q hq zq).2.2 h hh hd k3 kq
end
end Once
end Go.Proofs.Ytdflicgjkleonaa
