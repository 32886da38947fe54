/-
  Lemmas: SeqN.
-/
import Derived.Test.YtkiojiibppdjjaaTw01
import Derived.Test.YtkiojiibppdjjaaTp22
set_option linter.unusedVariables false
set_option linter.unusedSimpArgs false
namespace Go.Proofs.Ytkiojiibppdjjaa
open Go.RowKit
namespace Seq

theorem act_ld {n : Nat} {f : Nat → Int} {hd a : Int} (h0 : 0 ≤ a) (h1 : a < n) : stepOf n f ⟨hd, 1, a, 0, 0, true⟩ = ⟨hd, 1, a, f a.toNat, f a.toNat, true⟩ := by
  unfold stepOf; rw [if_pos ⟨h0, h1⟩]; rfl
theorem act_ldw {n : Nat} {f : Nat → Int} {hd a : Int} (h0 : 0 ≤ a) (h1 : a < n) : wordsOf n f ⟨hd, 1, a, 0, 0, true⟩ = f := by
  unfold wordsOf; rw [if_pos ⟨h0, h1⟩, act_ld h0 h1]; exact putF_self _
theorem act_st {n : Nat} {f : Nat → Int} {hd a v : Int} (h0 : 0 ≤ a) (h1 : a < n) : stepOf n f ⟨hd, 2, a, 0, v, true⟩ = ⟨hd, 2, a, f a.toNat, v, true⟩ := by
  unfold stepOf; rw [if_pos ⟨h0, h1⟩]; rfl
theorem act_stw {n : Nat} {f : Nat → Int} {hd a v : Int} (h0 : 0 ≤ a) (h1 : a < n) : wordsOf n f ⟨hd, 2, a, 0, v, true⟩ = putF f a.toNat v := by
  unfold wordsOf; rw [if_pos ⟨h0, h1⟩, act_st h0 h1]

/-- A Write has opened the version and not shut it yet. -/
def Busy (P : Par) (done : Nat → Nat) (cur : Nat → SeS) : Prop := 0 < P.nh ∧ done 0 < P.jn 0 ∧ (cur 0).j.kind = 1 ∧ ((cur 0).st = 2 ∨ (cur 0).st = 3)

/-- What holds behind each step: now: the last done Write's value; wn: how many Writes are done; fst, ld, bg: what the law keeps of each hand. -/
structure Iv (r : Nat) (P : Par) (f : Nat → Int) (done : Nat → Nat) (cur : Nat → SeS) (now : Int) (wn : Nat) (fst ld : Nat → Int) (bg : Nat → Bool) : Prop where
  fb : ∀ i, 0 ≤ f i ∧ f i ≤ 18446744073709551615
  own : ∀ h, h < P.nh → done h < P.jn h → (cur h).hand = (h : Int) ∧ (cur h).j = P.jb h (done h) ∧ Wf r (cur h)
  few : wn ≤ done 0
  calm : ¬ Busy P done cur → f 0 = 2 * (wn : Int) ∧ ∀ k : Nat, 1 ≤ k → k ≤ r → f k = now
  busy : Busy P done cur → f 0 = 2 * (wn : Int) + 1 ∧ (cur 0).ver = 2 * (wn : Int) ∧ ∀ k : Nat, 1 ≤ k → k ≤ r → (k : Int) < (cur 0).at_ → f k = (cur 0).j.h
  open1 : 0 < P.nh → done 0 < P.jn 0 → (cur 0).j.kind = 1 → (cur 0).st = 1 → (cur 0).ver = 2 * (wn : Int)
  rd : ∀ h, h < P.nh → done h < P.jn h → (cur h).j.kind = 2 → (cur h).st = 2 ∨ (cur h).st = 3 → (cur h).ver % 2 = 0 ∧ (cur h).ver ≤ f 0 ∧ (f 0 = (cur h).ver → ¬ (cur h).at_ = 1 → (cur h).fnd = ⟨true, now⟩)
  law0 : ∀ h, h < P.nh → done h < P.jn h → (cur h).st = 0 ∨ (cur h).j.kind = 1 → ld h = 0
  law2 : ∀ h, h < P.nh → done h < P.jn h → (cur h).j.kind = 2 → (cur h).st = 2 → bg h = true ∧ fst h = (cur h).ver ∧ ld h = (cur h).at_ - 1
  law3 : ∀ h, h < P.nh → done h < P.jn h → (cur h).j.kind = 2 → (cur h).st = 3 → bg h = true ∧ fst h = (cur h).ver ∧ ld h = (r : Int)

section
variable {r : Nat} {P : Par} {f : Nat → Int} {done : Nat → Nat} {cur : Nat → SeS} {now : Int} {wn : Nat} {fst ld : Nat → Int} {bg : Nat → Bool} {h : Nat}

/-- The beginning. -/
theorem Iv.start (hok : ∀ h, h < P.nh → ∀ j, j < P.jn h → serr h (P.jb h j) = 0 ∧ (P.jb h j).wf) : Iv r P (fun _ => 0) (fun _ => 0) (fun h => sinit h (P.jb h 0)) 0 0 (fun _ => 0) (fun _ => 0) (fun _ => false) := by
  have hw : ∀ h, h < P.nh → 0 < P.jn h → (sinit h (P.jb h 0)).hand = (h : Int) ∧ (sinit h (P.jb h 0)).j = P.jb h 0 ∧ Wf r (sinit h (P.jb h 0)) := fun h hh hd => by
    obtain ⟨e, w⟩ := hok h hh 0 hd
    refine ⟨?_, rfl, wf_init r h ⟨w, h, e⟩⟩
    rcases serr_cases e with ⟨k, z⟩ | k
    · simp [sinit, k]; omega
    · simp [sinit, k]
  refine ⟨fun i => by constructor <;> decide, hw, Nat.le_refl _, fun _ => ⟨rfl, fun _ _ _ => rfl⟩, fun hb => ?_, fun _ _ _ e => ?_, fun h _ _ _ e => ?_, fun _ _ _ _ => rfl, fun h _ _ _ e => ?_, fun h _ _ _ e => ?_⟩
  · rcases hb.2.2.2 with e | e <;> exact absurd e (by simp [sinit])
  · exact absurd e (by simp [sinit])
  · rcases e with e | e <;> exact absurd e (by simp [sinit])
  · exact absurd e (by simp [sinit])
  · exact absurd e (by simp [sinit])

theorem Iv.zero (I : Iv r P f done cur now wn fst ld bg) (hh : h < P.nh) (hd : done h < P.jn h) (hk : (cur h).j.kind = 1) : h = 0 := by
  obtain ⟨e, _, W⟩ := I.own h hh hd
  rcases W.st with ⟨_, z, _⟩ | ⟨z, _⟩
  · omega
  · omega
theorem Iv.small (I : Iv r P f done cur now wn fst ld bg) (h256 : P.jn 0 ≤ 256) (hd : done 0 < P.jn 0) : (wn : Int) < 256 := by have := I.few; omega

/-- A hand's step that ends nothing and leaves the words. -/
theorem Iv.move (I : Iv r P f done cur now wn fst ld bg) (hh : h < P.nh) (hd : done h < P.jn h) {c' : SeS} {fst' ld' : Nat → Int} {bg' : Nat → Bool}
    (e1 : c'.hand = (cur h).hand) (e2 : c'.j = (cur h).j) (W : Wf r c')
    (nb : (cur h).j.kind = 1 → c'.st = 0 ∨ c'.st = 1) (nb0 : (cur h).j.kind = 1 → (cur h).st = 0 ∨ (cur h).st = 1)
    (ho : (cur h).j.kind = 1 → c'.st = 1 → c'.ver = 2 * (wn : Int))
    (hr : (cur h).j.kind = 2 → c'.st = 2 ∨ c'.st = 3 → c'.ver % 2 = 0 ∧ c'.ver ≤ f 0 ∧ (f 0 = c'.ver → ¬ c'.at_ = 1 → c'.fnd = ⟨true, now⟩))
    (l0 : c'.st = 0 ∨ (cur h).j.kind = 1 → ld' h = 0) (l2 : (cur h).j.kind = 2 → c'.st = 2 → bg' h = true ∧ fst' h = c'.ver ∧ ld' h = c'.at_ - 1) (l3 : (cur h).j.kind = 2 → c'.st = 3 → bg' h = true ∧ fst' h = c'.ver ∧ ld' h = (r : Int))
    (oth : ∀ g, g ≠ h → fst' g = fst g ∧ ld' g = ld g ∧ bg' g = bg g) : Iv r P f done (upd cur h c') now wn fst' ld' bg' := by
  have hb : Busy P done (upd cur h c') ↔ Busy P done cur := by
    unfold Busy
    by_cases e : 0 = h
    · subst e
      rw [upd_same, e2]
      constructor
      · rintro ⟨a, b, k, s⟩; have := nb k; omega
      · rintro ⟨a, b, k, s⟩; have := nb0 k; omega
    · rw [upd_other _ _ e]
  refine ⟨I.fb, fun g hg hdg => ?_, I.few, fun hn => I.calm (fun b => hn (hb.2 b)), fun b => ?_, fun a b k s => ?_, fun g hg hdg k s => ?_, fun g hg hdg s => ?_, fun g hg hdg k s => ?_, fun g hg hdg k s => ?_⟩
  · by_cases e : g = h
    · subst e
      rw [upd_same]
      obtain ⟨x1, x2, _⟩ := I.own g hg hdg
      exact ⟨e1.trans x1, e2.trans x2, W⟩
    · rw [upd_other _ _ e]; exact I.own g hg hdg
  · by_cases e : 0 = h
    · subst e
      have b' := hb.1 b
      have := nb0 b'.2.2.1
      have := b'.2.2.2
      omega
    · rw [upd_other _ _ e]; exact I.busy (hb.1 b)
  · by_cases e : 0 = h
    · subst e
      rw [upd_same] at k s ⊢
      exact ho (e2 ▸ k) s
    · rw [upd_other _ _ e] at k s ⊢; exact I.open1 a b k s
  · by_cases e : g = h
    · subst e
      rw [upd_same] at k s ⊢
      exact hr (e2 ▸ k) s
    · rw [upd_other _ _ e] at k s ⊢; exact I.rd g hg hdg k s
  · by_cases e : g = h
    · subst e
      rw [upd_same] at s
      exact l0 (s.imp id (fun k => e2 ▸ k))
    · rw [upd_other _ _ e] at s; rw [(oth g e).2.1]; exact I.law0 g hg hdg s
  · by_cases e : g = h
    · subst e
      rw [upd_same] at k s ⊢
      exact l2 (e2 ▸ k) s
    · rw [upd_other _ _ e] at k s ⊢; rw [(oth g e).1, (oth g e).2.1, (oth g e).2.2]; exact I.law2 g hg hdg k s
  · by_cases e : g = h
    · subst e
      rw [upd_same] at k s ⊢
      exact l3 (e2 ▸ k) s
    · rw [upd_other _ _ e] at k s ⊢; rw [(oth g e).1, (oth g e).2.1, (oth g e).2.2]; exact I.law3 g hg hdg k s

/-- The writer's step: the words change, the job goes on. -/
theorem Iv.write (I : Iv r P f done cur now wn fst ld bg) (hh : 0 < P.nh) (hd : done 0 < P.jn 0) (hk : (cur 0).j.kind = 1) {c' : SeS} {f' : Nat → Int} (e1 : c'.hand = (cur 0).hand) (e2 : c'.j = (cur 0).j) (W : Wf r c') (hs : c'.st = 2 ∨ c'.st = 3)
    (fb : ∀ i, 0 ≤ f' i ∧ f' i ≤ 18446744073709551615) (h0 : f' 0 = 2 * (wn : Int) + 1) (hv : c'.ver = 2 * (wn : Int)) (hw : ∀ k : Nat, 1 ≤ k → k ≤ r → (k : Int) < c'.at_ → f' k = c'.j.h) (hold : f 0 ≤ 2 * (wn : Int) + 1) : Iv r P f' done (upd cur 0 c') now wn fst ld bg := by
  have hb : Busy P done (upd cur 0 c') := ⟨hh, hd, by rw [upd_same, e2]; exact hk, by rw [upd_same]; exact hs⟩
  have ne : ∀ g, (upd cur 0 c' g).j.kind = 2 → g ≠ 0 := fun g k e => by subst e; rw [upd_same, e2] at k; omega
  refine ⟨fb, fun g hg hdg => ?_, I.few, fun hn => absurd hb hn, fun _ => ?_, fun a b k s => ?_, fun g hg hdg k s => ?_, fun g hg hdg s => ?_, fun g hg hdg k s => ?_, fun g hg hdg k s => ?_⟩
  · by_cases e : g = 0
    · subst e
      rw [upd_same]
      obtain ⟨x1, x2, _⟩ := I.own 0 hg hdg
      exact ⟨e1.trans x1, e2.trans x2, W⟩
    · rw [upd_other _ _ e]; exact I.own g hg hdg
  · rw [upd_same]
    exact ⟨h0, hv, hw⟩
  · rw [upd_same] at s; omega
  · have e := ne g k
    rw [upd_other _ _ e] at k s ⊢
    obtain ⟨x1, x2, _⟩ := I.rd g hg hdg k s
    exact ⟨x1, by omega, fun z => by omega⟩
  · by_cases e : g = 0
    · subst e
      exact I.law0 0 hg hdg (.inr hk)
    · rw [upd_other _ _ e] at s; exact I.law0 g hg hdg s
  · have e := ne g k
    rw [upd_other _ _ e] at k s ⊢; exact I.law2 g hg hdg k s
  · have e := ne g k
    rw [upd_other _ _ e] at k s ⊢; exact I.law3 g hg hdg k s

/-- A job ends: the hand's next one begins. -/
theorem Iv.over (I : Iv r P f done cur now wn fst ld bg) (hok : ∀ h, h < P.nh → ∀ j, j < P.jn h → serr h (P.jb h j) = 0 ∧ (P.jb h j).wf) (hh : h < P.nh) {f' : Nat → Int} {now' : Int} {wn' : Nat}
    (fb : ∀ i, 0 ≤ f' i ∧ f' i ≤ 18446744073709551615) (few : wn' ≤ upd done h (done h + 1) 0) (calm : f' 0 = 2 * (wn' : Int) ∧ ∀ k : Nat, 1 ≤ k → k ≤ r → f' k = now')
    (nb : h = 0 ∨ ¬ Busy P done cur)
    (ho : 0 ≠ h → 0 < P.nh → done 0 < P.jn 0 → (cur 0).j.kind = 1 → (cur 0).st = 1 → (cur 0).ver = 2 * (wn' : Int))
    (hr : ∀ g, g ≠ h → g < P.nh → done g < P.jn g → (cur g).j.kind = 2 → (cur g).st = 2 ∨ (cur g).st = 3 → (cur g).ver ≤ f' 0 ∧ (f' 0 = (cur g).ver → ¬ (cur g).at_ = 1 → (cur g).fnd = ⟨true, now'⟩)) :
    Iv r P f' (upd done h (done h + 1)) (upd cur h (sinit h (P.jb h (done h + 1)))) now' wn' fst (upd ld h 0) (upd bg h false) := by
  have hi0 : (sinit h (P.jb h (done h + 1))).st = 0 := rfl
  have hb : ¬ Busy P (upd done h (done h + 1)) (upd cur h (sinit h (P.jb h (done h + 1)))) := by
    rintro ⟨a, b, k, s⟩
    by_cases e : 0 = h
    · subst e
      rw [upd_same] at s
      omega
    · rw [upd_other _ _ e] at b k s
      rcases nb with z | z
      · exact e z.symm
      · exact z ⟨a, b, k, s⟩
  refine ⟨fb, fun g hg hdg => ?_, few, fun _ => calm, fun b => absurd b hb, fun a b k s => ?_, fun g hg hdg k s => ?_, fun g hg hdg s => ?_, fun g hg hdg k s => ?_, fun g hg hdg k s => ?_⟩
  · by_cases e : g = h
    · subst e
      rw [upd_same] at hdg ⊢
      rw [upd_same]
      obtain ⟨z, w⟩ := hok g hg _ hdg
      refine ⟨?_, rfl, wf_init r g ⟨w, g, z⟩⟩
      rcases serr_cases z with ⟨k, z⟩ | k
      · simp [sinit, k]; omega
      · simp [sinit, k]
    · rw [upd_other _ _ e] at hdg ⊢
      rw [upd_other _ _ e]
      exact I.own g hg hdg
  · by_cases e : 0 = h
    · subst e
      rw [upd_same] at s
      omega
    · rw [upd_other _ _ e] at b k s ⊢
      exact ho e a b k s
  · by_cases e : g = h
    · subst e
      rw [upd_same] at s
      omega
    · rw [upd_other _ _ e] at hdg k s ⊢
      exact ⟨(I.rd g hg hdg k s).1, hr g e hg hdg k s⟩
  · by_cases e : g = h
    · subst e
      exact upd_same _ _ _
    · rw [upd_other _ _ e] at hdg s
      rw [upd_other _ _ e]
      exact I.law0 g hg hdg s
  · by_cases e : g = h
    · subst e
      rw [upd_same] at s
      omega
    · rw [upd_other _ _ e] at hdg k s ⊢
      rw [upd_other _ _ e, upd_other _ _ e]
      exact I.law2 g hg hdg k s
  · by_cases e : g = h
    · subst e
      rw [upd_same] at s
      omega
    · rw [upd_other _ _ e] at hdg k s ⊢
      rw [upd_other _ _ e, upd_other _ _ e]
      exact I.law3 g hg hdg k s

/-- What a step is to the law. -/
inductive Kn (r : Nat) (P : Par) (now : Int) (wn : Nat) (fst ld : Nat → Int) (bg : Nat → Bool) (h : Nat) (j : Jb) (x : Stp) (en : Bool) (tl : Ans) : Int → Nat → (Nat → Int) → (Nat → Int) → (Nat → Bool) → Prop where
  | wGo (k : j.kind = 1) (n : ¬ (x.act = 2 ∧ x.at_ = 0 ∧ x.put % 2 = 0)) (e : en = false) : Kn r P now wn fst ld bg h j x en tl now wn fst ld bg
  | wEnd (k : j.kind = 1) (a : x.act = 2) (z : x.at_ = 0) (p : x.put % 2 = 0) (s : wn < 256) (e : en = true) (t : tl = ⟨true, 2 * ((wn + 1 : Nat) : Int)⟩) : Kn r P now wn fst ld bg h j x en tl j.h (wn + 1) fst (upd ld h 0) (upd bg h false)
  | rWord (k : j.kind = 2) (z : ¬ x.at_ = 0) (l : 0 ≤ ld h ∧ ld h < 64) (e : en = false) : Kn r P now wn fst ld bg h j x en tl now wn fst (upd ld h (ld h + 1)) bg
  | rEnd (k : j.kind = 2) (z : x.at_ = 0) (b : bg h = true) (l : ld h = (r : Int)) (v : x.had = fst h) (e : en = true) (t : tl = ⟨true, now⟩) : Kn r P now wn fst ld bg h j x en tl now wn fst (upd ld h 0) (upd bg h false)
  | rGo (k : j.kind = 2) (z : x.at_ = 0) (a : x.act = 1) (n : bg h = false ∨ (bg h = true ∧ ¬ ld h = (r : Int)) ∨ (bg h = true ∧ ld h = (r : Int) ∧ ¬ x.had = fst h)) (e : en = false) : Kn r P now wn fst ld bg h j x en tl now wn (upd fst h x.had) (upd ld h 0) (upd bg h (decide (x.had % 2 = 0)))

theorem upd_self' {α : Type} (g : Nat → α) (h : Nat) : upd g h (g h) = g := by
  funext i
  by_cases e : i = h
  · subst e; exact upd_same _ _ _
  · exact upd_other _ _ e

/-- Each step. -/
theorem Iv.step (I : Iv r P f done cur now wn fst ld bg) (hr1 : 1 ≤ r) (hr2 : r ≤ 64) (hn : P.n = r + 1) (hok : ∀ h, h < P.nh → ∀ j, j < P.jn h → serr h (P.jb h j) = 0 ∧ (P.jb h j).wf) (h256 : ∀ h, h < P.nh → P.jn h ≤ 256) (hh : h < P.nh) (hd : done h < P.jn h) :
    ∃ now' wn' fst' ld' bg', Kn r P now wn fst ld bg h (P.jb h (done h)) (stepOf P.n f (sreq (cur h))) (sends (cur h) (stepOf P.n f (sreq (cur h)))) (snext r (cur h) (stepOf P.n f (sreq (cur h)))).told now' wn' fst' ld' bg' ∧
      (stepOf P.n f (sreq (cur h))).hand = (h : Int) ∧ (0 ≤ (stepOf P.n f (sreq (cur h))).had ∧ (stepOf P.n f (sreq (cur h))).had ≤ 18446744073709551615) ∧ (0 ≤ (stepOf P.n f (sreq (cur h))).put ∧ (stepOf P.n f (sreq (cur h))).put ≤ 18446744073709551615) ∧
      Iv r P (wordsOf P.n f (sreq (cur h))) (if sends (cur h) (stepOf P.n f (sreq (cur h))) = true then upd done h (done h + 1) else done)
        (upd cur h (if sends (cur h) (stepOf P.n f (sreq (cur h))) = true then sinit h (P.jb h (done h + 1)) else snext r (cur h) (stepOf P.n f (sreq (cur h))))) now' wn' fst' ld' bg' := by
  obtain ⟨c, hc⟩ : ∃ c, cur h = c := ⟨_, rfl⟩
  obtain ⟨eh, ej, W⟩ := I.own h hh hd
  rw [hc] at eh ej W ⊢
  have WN := fun x (hx : 0 ≤ x.had ∧ x.had ≤ 18446744073709551615) => snext_wf (r := (r : Int)) (x := x) (by omega) W hx
  have f0 := I.fb 0
  have hn' : ((0 : Int) < (P.n : Int)) := by omega
  have t0 : (0 : Int).toNat = 0 := rfl
  rcases W.st with ⟨k1, hz, hst⟩ | ⟨k2, hst⟩
  · have h0 : h = 0 := I.zero hh hd (by rw [hc]; exact k1)
    subst h0
    have kj : (P.jb 0 (done 0)).kind = 1 := by rw [← ej]; exact k1
    have sm := I.small (h256 0 hh) hd
    have kc : (cur 0).j.kind = 1 := by rw [hc]; exact k1
    have kn2 : ¬ (cur 0).j.kind = 2 := by omega
    rcases hst with s | s | s | s
    · have q : sreq c = ⟨c.hand, 1, 0, 0, 0, true⟩ := by simp [sreq, k1, s]
      rw [q, act_ld (Int.le_refl 0) hn', act_ldw (Int.le_refl 0) hn', t0]
      have e5 : sends c ⟨c.hand, 1, 0, f 0, f 0, true⟩ = false := by simp [sends, k1, s]
      have e7 : snext (r : Int) c ⟨c.hand, 1, 0, f 0, f 0, true⟩ = { c with ver := f 0, st := 1 } := by simp [snext, k1, s]
      have w7 := WN ⟨c.hand, 1, 0, f 0, f 0, true⟩ f0
      rw [e7] at w7
      rw [e5, e7]
      refine ⟨now, wn, fst, ld, bg, .wGo kj (by simp) rfl, eh, f0, f0, ?_⟩
      rw [if_neg (by decide), if_neg (by decide)]
      have nb : ¬ Busy P done cur := fun b => by have := b.2.2.2; rw [hc] at this; omega
      refine I.move hh hd (by rw [hc]) (by rw [hc]) w7 (fun _ => .inr rfl) (fun _ => by rw [hc]; exact .inl s) (fun _ _ => (I.calm nb).1) (fun k => absurd k kn2) (fun _ => I.law0 0 hh hd (.inr kc)) (fun k => absurd k kn2) (fun k => absurd k kn2) (fun _ _ => ⟨rfl, rfl, rfl⟩)
    · have hv : c.ver = 2 * (wn : Int) := by have := I.open1 hh hd kc (by rw [hc]; exact s); rwa [hc] at this
      have hu : u64 (c.ver + 1) = 2 * (wn : Int) + 1 := by rw [hv]; exact u64_id (by omega)
      have q : sreq c = ⟨c.hand, 2, 0, 0, 2 * (wn : Int) + 1, true⟩ := by simp [sreq, k1, s, hu]
      rw [q, act_st (Int.le_refl 0) hn', act_stw (Int.le_refl 0) hn', t0]
      have e5 : sends c ⟨c.hand, 2, 0, f 0, 2 * (wn : Int) + 1, true⟩ = false := by simp [sends, k1, s]
      have e7 : snext (r : Int) c ⟨c.hand, 2, 0, f 0, 2 * (wn : Int) + 1, true⟩ = { c with at_ := 1, st := 2 } := by simp [snext, k1, s]
      have w7 := WN ⟨c.hand, 2, 0, f 0, 2 * (wn : Int) + 1, true⟩ f0
      rw [e7] at w7
      rw [e5, e7]
      refine ⟨now, wn, fst, ld, bg, .wGo kj (by first | (simp; done) | (simp; omega)) rfl, eh, f0, by show 0 ≤ 2 * (wn : Int) + 1 ∧ 2 * (wn : Int) + 1 ≤ 18446744073709551615; omega, ?_⟩
      rw [if_neg (by decide), if_neg (by decide)]
      have nb : ¬ Busy P done cur := fun b => by have := b.2.2.2; rw [hc] at this; omega
      have hca := (I.calm nb).1
      refine I.write hh hd kc (by rw [hc]) (by rw [hc]) w7 (.inl rfl) (fun i => ?_) (by simp [putF]) hv (fun k a b l => absurd l (by show ¬ (k : Int) < 1; omega)) (by omega)
      unfold putF
      split
      · omega
      · exact I.fb i
    · have hat := W.at_ s
      have q : sreq c = ⟨c.hand, 2, c.at_, 0, c.j.h, true⟩ := by simp [sreq, k1, s]
      have b1 : 0 ≤ c.at_ := by omega
      have b2 : c.at_ < (P.n : Int) := by omega
      have bh : 0 ≤ c.j.h ∧ c.j.h ≤ 18446744073709551615 := W.h
      rw [q, act_st b1 b2, act_stw b1 b2]
      have e5 : sends c ⟨c.hand, 2, c.at_, f c.at_.toNat, c.j.h, true⟩ = false := by simp [sends, k1, s]
      have w7 := WN ⟨c.hand, 2, c.at_, f c.at_.toNat, c.j.h, true⟩ (I.fb _)
      obtain ⟨c', e7⟩ : ∃ c', snext (r : Int) c ⟨c.hand, 2, c.at_, f c.at_.toNat, c.j.h, true⟩ = c' := ⟨_, rfl⟩
      have e8 : c' = { c with at_ := c.at_ + 1, st := if (r : Int) < c.at_ + 1 then 3 else 2 } := by rw [← e7]; simp [snext, k1, s]
      rw [e7] at w7
      rw [e5, e7]
      refine ⟨now, wn, fst, ld, bg, .wGo kj (by first | (simp; done) | (simp; omega)) rfl, eh, I.fb _, bh, ?_⟩
      rw [if_neg (by decide), if_neg (by decide)]
      have hb : Busy P done cur := ⟨hh, hd, kc, by rw [hc]; exact .inl s⟩
      obtain ⟨g1, g2, g3⟩ := I.busy hb
      rw [hc] at g2 g3
      refine I.write hh hd kc (by rw [hc, e8]) (by rw [hc, e8]) w7 (by rw [e8]; show (if _ then _ else _) = _ ∨ _; split; exact .inr rfl; exact .inl rfl) (fun i => ?_) ?_ (by rw [e8]; exact g2) (fun k a b l => ?_) (by omega)
      · unfold putF
        split
        · exact bh
        · exact I.fb i
      · unfold putF
        rw [if_neg (by omega)]
        exact g1
      · rw [e8] at l ⊢
        have l' : (k : Int) < c.at_ + 1 := l
        unfold putF
        split
        · rfl
        · exact g3 k a b (by omega)
    · have hat := W.at3 s
      have hb : Busy P done cur := ⟨hh, hd, kc, by rw [hc]; exact .inr s⟩
      obtain ⟨g1, g2, g3⟩ := I.busy hb
      rw [hc] at g2 g3
      have hu : u64 (c.ver + 2) = 2 * ((wn + 1 : Nat) : Int) := by rw [g2, u64_id (by omega)]; omega
      have q : sreq c = ⟨c.hand, 2, 0, 0, 2 * ((wn + 1 : Nat) : Int), true⟩ := by simp [sreq, k1, s, hu]
      rw [q, act_st (Int.le_refl 0) hn', act_stw (Int.le_refl 0) hn', t0]
      have e5 : sends c ⟨c.hand, 2, 0, f 0, 2 * ((wn + 1 : Nat) : Int), true⟩ = true := by simp [sends, k1, s]
      have e7 : (snext (r : Int) c ⟨c.hand, 2, 0, f 0, 2 * ((wn + 1 : Nat) : Int), true⟩).told = ⟨true, 2 * ((wn + 1 : Nat) : Int)⟩ := by simp [snext, k1, s, hu]
      rw [e5]
      refine ⟨(P.jb 0 (done 0)).h, wn + 1, fst, upd ld 0 0, upd bg 0 false, .wEnd kj rfl rfl (by show 2 * ((wn + 1 : Nat) : Int) % 2 = 0; omega) (by omega) rfl e7, eh, f0, by show 0 ≤ 2 * ((wn + 1 : Nat) : Int) ∧ 2 * ((wn + 1 : Nat) : Int) ≤ 18446744073709551615; omega, ?_⟩
      rw [if_pos rfl, if_pos rfl]
      refine I.over hok hh (fun i => ?_) (by rw [upd_same]; have := I.few; omega) ⟨by simp [putF], fun k a b => ?_⟩ (.inl rfl) (fun e => absurd rfl e) (fun g hg hgn hgd k s' => ?_)
      · unfold putF
        split
        · omega
        · exact I.fb i
      · unfold putF
        rw [if_neg (by omega), g3 k a b (by omega), ej]
      · obtain ⟨x1, x2, _⟩ := I.rd g hgn hgd k s'
        unfold putF
        rw [if_pos rfl]
        exact ⟨by omega, fun z => by omega⟩
  · have kj : (P.jb h (done h)).kind = 2 := by rw [← ej]; exact k2
    have kc : (cur h).j.kind = 2 := by rw [hc]; exact k2
    have kn1 : ¬ (cur h).j.kind = 1 := by omega
    have r0 : ¬ (0 : Int) = (r : Int) := by omega
    rcases hst with s | s | s
    · have q : sreq c = ⟨c.hand, 1, 0, 0, 0, true⟩ := by simp [sreq, k2, s]
      rw [q, act_ld (Int.le_refl 0) hn', act_ldw (Int.le_refl 0) hn', t0]
      have l0 := I.law0 h hh hd (.inl (by rw [hc]; exact s))
      have e5 : sends c ⟨c.hand, 1, 0, f 0, f 0, true⟩ = false := by simp [sends, k2, s]
      have w7 := WN ⟨c.hand, 1, 0, f 0, f 0, true⟩ f0
      rw [e5]
      refine ⟨now, wn, upd fst h (f 0), upd ld h 0, upd bg h (decide (f 0 % 2 = 0)), .rGo kj rfl rfl ?_ rfl, eh, f0, f0, ?_⟩
      · cases hb : bg h with
        | false => exact .inl rfl
        | true => exact .inr (.inl ⟨rfl, by rw [l0]; exact r0⟩)
      · rw [if_neg (by decide), if_neg (by decide)]
        by_cases ev : f 0 % 2 = 0
        · have e7 : snext (r : Int) c ⟨c.hand, 1, 0, f 0, f 0, true⟩ = { c with ver := f 0, at_ := 1, st := 2 } := by simp [snext, k2, s, ev]
          rw [e7] at w7 ⊢
          refine I.move hh hd (by rw [hc]) (by rw [hc]) w7 (fun k => absurd k kn1) (fun k => absurd k kn1) (fun k => absurd k kn1) (fun _ _ => ⟨ev, Int.le_refl _, fun _ z => absurd rfl z⟩) (fun z => (by rcases z with z | z; exact absurd z (by simp); exact absurd z kn1)) (fun _ _ => ?_) (fun _ z => absurd z (by simp)) (fun g hg => ⟨upd_other _ _ hg, upd_other _ _ hg, upd_other _ _ hg⟩)
          rw [upd_same, upd_same, upd_same]
          exact ⟨decide_eq_true ev, rfl, rfl⟩
        · have e7 : snext (r : Int) c ⟨c.hand, 1, 0, f 0, f 0, true⟩ = c := by simp [snext, k2, s, ev]
          rw [e7] at w7 ⊢
          refine I.move hh hd (by rw [hc]) (by rw [hc]) w7 (fun k => absurd k kn1) (fun k => absurd k kn1) (fun k => absurd k kn1) (fun _ z => by omega) (fun _ => upd_same _ _ _) (fun _ z => by omega) (fun _ z => by omega) (fun g hg => ⟨upd_other _ _ hg, upd_other _ _ hg, upd_other _ _ hg⟩)
    · have hat := W.at_ s
      have q : sreq c = ⟨c.hand, 1, c.at_, 0, 0, true⟩ := by simp [sreq, k2, s]
      have b1 : 0 ≤ c.at_ := by omega
      have b2 : c.at_ < (P.n : Int) := by omega
      rw [q, act_ld b1 b2, act_ldw b1 b2]
      obtain ⟨v, hv⟩ : ∃ v, f c.at_.toNat = v := ⟨_, rfl⟩
      have fv := I.fb c.at_.toNat
      rw [hv] at fv ⊢
      have e5 : sends c ⟨c.hand, 1, c.at_, v, v, true⟩ = false := by simp [sends, k2, s]
      have w7 := WN ⟨c.hand, 1, c.at_, v, v, true⟩ fv
      have e7 : snext (r : Int) c ⟨c.hand, 1, c.at_, v, v, true⟩ = { c with fnd := fnx c.at_ v c.fnd, at_ := c.at_ + 1, st := if (r : Int) < c.at_ + 1 then 3 else 2 } := by simp [snext, k2, s]
      rw [e7] at w7
      rw [e5, e7]
      obtain ⟨l1, l2, l3⟩ := I.law2 h hh hd kc (by rw [hc]; exact s)
      rw [hc] at l2 l3
      obtain ⟨x1, x2, x3⟩ := I.rd h hh hd kc (by rw [hc]; exact .inl s)
      rw [hc] at x1 x2 x3
      refine ⟨now, wn, fst, upd ld h (ld h + 1), bg, .rWord kj (by show ¬ c.at_ = 0; omega) (by omega) rfl, eh, fv, fv, ?_⟩
      rw [if_neg (by decide), if_neg (by decide)]
      refine I.move hh hd (by rw [hc]) (by rw [hc]) w7 (fun k => absurd k kn1) (fun k => absurd k kn1) (fun k => absurd k kn1) (fun _ _ => ⟨x1, x2, fun z1 z2 => ?_⟩) (fun z => ?_) (fun _ z => ?_) (fun _ z => ?_) (fun g hg => ⟨rfl, upd_other _ _ hg, rfl⟩)
      · have z1' : f 0 = c.ver := z1
        have nb : ¬ Busy P done cur := fun b => by have := (I.busy b).1; omega
        have hw := (I.calm nb).2 c.at_.toNat (by omega) (by omega)
        rw [hv] at hw
        subst hw
        show fnx c.at_ v c.fnd = _
        unfold fnx
        by_cases a1 : c.at_ = 1
        · rw [if_pos a1]
        · rw [if_neg a1, x3 z1' a1]
          simp
      · rcases z with z | z
        · exact absurd z (by show ¬ (if _ then _ else _) = _; split <;> decide)
        · exact absurd z kn1
      · rw [upd_same]
        exact ⟨l1, l2, by show _ = c.at_ + 1 - 1; omega⟩
      · have z' : (if (r : Int) < c.at_ + 1 then (3 : Int) else 2) = 3 := z
        rw [upd_same]
        split at z'
        · exact ⟨l1, l2, by omega⟩
        · exact absurd z' (by decide)
    · have hat := W.at3 s
      have q : sreq c = ⟨c.hand, 1, 0, 0, 0, true⟩ := by simp [sreq, k2, s]
      rw [q, act_ld (Int.le_refl 0) hn', act_ldw (Int.le_refl 0) hn', t0]
      obtain ⟨l1, l2, l3⟩ := I.law3 h hh hd kc (by rw [hc]; exact s)
      rw [hc] at l2
      obtain ⟨x1, x2, x3⟩ := I.rd h hh hd kc (by rw [hc]; exact .inr s)
      rw [hc] at x1 x2 x3
      by_cases ev : f 0 = c.ver
      · have e5 : sends c ⟨c.hand, 1, 0, f 0, f 0, true⟩ = true := by simp [sends, k2, s, ev]
        have e7 : (snext (r : Int) c ⟨c.hand, 1, 0, f 0, f 0, true⟩).told = ⟨true, now⟩ := by
          have := x3 ev (by omega)
          simp [snext, k2, s, ev, this]
        rw [e5]
        refine ⟨now, wn, fst, upd ld h 0, upd bg h false, .rEnd kj rfl l1 l3 (by show f 0 = fst h; rw [l2]; exact ev) rfl e7, eh, f0, f0, ?_⟩
        rw [if_pos rfl, if_pos rfl]
        have nb : ¬ Busy P done cur := fun b => by have := (I.busy b).1; omega
        refine I.over hok hh I.fb ?_ (I.calm nb) (.inr nb) (fun e a b k s' => I.open1 a b k s') (fun g hg hgn hgd k s' => (I.rd g hgn hgd k s').2)
        have := I.few
        by_cases e : 0 = h
        · subst e; rw [upd_same]; omega
        · rw [upd_other _ _ e]; exact this
      · have e5 : sends c ⟨c.hand, 1, 0, f 0, f 0, true⟩ = false := by simp [sends, k2, s, ev]
        have w7 := WN ⟨c.hand, 1, 0, f 0, f 0, true⟩ f0
        have e7 : snext (r : Int) c ⟨c.hand, 1, 0, f 0, f 0, true⟩ = { c with st := 0 } := by simp [snext, k2, s, ev]
        rw [e7] at w7
        rw [e5, e7]
        refine ⟨now, wn, upd fst h (f 0), upd ld h 0, upd bg h (decide (f 0 % 2 = 0)), .rGo kj rfl rfl (.inr (.inr ⟨l1, l3, by show ¬ f 0 = fst h; rw [l2]; exact ev⟩)) rfl, eh, f0, f0, ?_⟩
        rw [if_neg (by decide), if_neg (by decide)]
        exact I.move hh hd (by rw [hc]) (by rw [hc]) w7 (fun k => absurd k kn1) (fun k => absurd k kn1) (fun k => absurd k kn1) (fun _ z => by rcases z with z | z <;> exact absurd z (by simp)) (fun _ => upd_same _ _ _) (fun _ z => absurd z (by simp)) (fun _ z => absurd z (by simp)) (fun g hg => ⟨upd_other _ _ hg, upd_other _ _ hg, upd_other _ _ hg⟩)
end
end Seq
end Go.Proofs.Ytkiojiibppdjjaa
