/-
  Lemmas: PileN, PileI, PileJ, PileO, PileO2, HistG.
-/
import Derived.Test.YtbjlpmahomjgjaaTx09
import Derived.Test.YtbjlpmahomjgjaaTp13
set_option linter.unusedVariables false
set_option linter.unusedSimpArgs false
namespace Go.Proofs.Ytbjlpmahomjgjaa
open Go.RowKit
namespace Pile

/-- The places of a list, from the index of its head on. -/
def Chain (f : Nat → Int) : Int → List Nat → Prop
  | p, [] => p = 0
  | p, q :: l => p = (q : Int) ∧ 1 ≤ q ∧ Chain f (idx (f (2 * q))) l

theorem Chain.congr {f g : Nat → Int} : ∀ {l : List Nat} {p : Int}, Chain f p l → (∀ q ∈ l, f (2 * q) = g (2 * q)) → Chain g p l
  | [], _, h, _ => h
  | q :: l, _, ⟨h1, h2, h3⟩, e => ⟨h1, h2, by rw [← e q (.head _)]; exact h3.congr (fun q' hq => e q' (.tail _ hq))⟩
theorem Chain.nil {f : Nat → Int} {p : Int} {l : List Nat} (h : Chain f p l) (hp : p = 0) : l = [] := by
  cases l with
  | nil => rfl
  | cons q l => obtain ⟨h1, h2, _⟩ := h; omega
theorem Chain.cons {f : Nat → Int} {p : Int} {l : List Nat} (h : Chain f p l) (hp : ¬ p = 0) : ∃ (q : Nat) (l' : List Nat), l = q :: l' ∧ p = (q : Int) ∧ 1 ≤ q ∧ Chain f (idx (f (2 * q))) l' := by
  cases l with
  | nil => exact absurd h hp
  | cons q l => exact ⟨q, l, rfl, h⟩
theorem Chain.one {f : Nat → Int} : ∀ {l l' : List Nat} {p : Int}, Chain f p l → Chain f p l' → l = l'
  | [], l', p, h, h' => (h'.nil h).symm
  | q :: l, l', p, h, h' => by
    have hp : ¬ p = 0 := by obtain ⟨h1, h2, _⟩ := h; omega
    obtain ⟨q', l2, rfl, e1, _, e3⟩ := h'.cons hp
    obtain ⟨h1, _, h3⟩ := h
    have : q = q' := by omega
    subst this
    rw [h3.one e3]
theorem Chain.last {f : Nat → Int} : ∀ (m k : Nat), 1 ≤ k → (∀ q, k ≤ q → q < k + m → f (2 * q) = (q : Int) + 1) → f (2 * (k + m)) = 0 → k + m < 4294967295 → Chain f (k : Int) (List.range' k (m + 1))
  | 0, k, hk, _, h0, _ => ⟨rfl, hk, by show idx (f (2 * k)) = 0; have : f (2 * k) = 0 := h0; rw [this]; rfl⟩
  | m + 1, k, hk, hs, h0, hb => by
    refine ⟨rfl, hk, ?_⟩
    have e : idx (f (2 * k)) = ((k + 1 : Nat) : Int) := by
      rw [hs k (Nat.le_refl _) (by omega)]
      unfold idx
      omega
    rw [e]
    exact Chain.last m (k + 1) (by omega) (fun q h1 h2 => hs q (by omega) (by omega)) (by rw [show k + 1 + m = k + (m + 1) by omega]; exact h0) (by omega)

/-- Fresh words: nothing lies on the pile, all places are spare. -/
theorem fresh_top (r : Nat) : Chain (pfr r) (idx (pfr r 0)) [] := by
  show idx (pfr r 0) = 0
  have : pfr r 0 = 0 := by unfold pfr; rw [if_neg (by omega), if_neg (by omega)]
  rw [this]; rfl
theorem fresh_spare {r : Nat} (h1 : 1 ≤ r) (h2 : r ≤ 64) : Chain (pfr r) (idx (pfr r 1)) (List.range' 1 r) := by
  have e : idx (pfr r 1) = ((1 : Nat) : Int) := by
    have : pfr r 1 = 1 := by unfold pfr; rw [if_pos rfl]
    rw [this]; rfl
  rw [e]
  obtain ⟨m, rfl⟩ : ∃ m, r = m + 1 := ⟨r - 1, by omega⟩
  refine Chain.last m 1 (Nat.le_refl _) (fun q h1 h2 => ?_) ?_ (by omega)
  · unfold pfr
    rw [if_neg (by omega), if_pos (by omega)]
    have : 2 * q / 2 = q := by omega
    rw [this]
  · unfold pfr
    rw [if_neg (by omega), if_neg (by omega)]

/-- A head's tag. -/
def tag (t : Int) : Int := t / 4294967296
theorem tag_bump {t i : Int} (h0 : 0 ≤ t) (h : tag t < 4294967295) : tag (bump t i) = tag t + 1 := by
  unfold tag at h ⊢
  unfold bump hd
  omega
theorem idx_bump {t i : Int} (h0 : 0 ≤ i) (h1 : i < 4294967296) : idx (bump t i) = i := by
  unfold idx bump hd
  omega
theorem head_one {t u : Int} (hi : idx t = idx u) (ht : tag t = tag u) : t = u := by
  unfold idx at hi
  unfold tag at ht
  omega
end Pile
end Go.Proofs.Ytbjlpmahomjgjaa

namespace Go.Proofs.Ytbjlpmahomjgjaa
open Go.RowKit
namespace Pile

def fromN (s : PiS) : Nat := if s.j.kind = 1 then 1 else 0
def ontoN (s : PiS) : Nat := if s.j.kind = 1 then 0 else 1
theorem frm_eq (s : PiS) : frm s.j.kind = (fromN s : Int) := by unfold frm fromN; split <;> rfl
theorem ont_eq (s : PiS) : ont s.j.kind = (ontoN s : Int) := by unfold ont ontoN; split <;> rfl
theorem fromN_lt (s : PiS) : fromN s < 2 := by unfold fromN; split <;> omega
theorem ontoN_lt (s : PiS) : ontoN s < 2 := by unfold ontoN; split <;> omega

/-- Which head's word the task has loaded. -/
def Looks (s : PiS) (w : Nat) : Prop := ((s.st = 1 ∨ s.st = 2) ∧ w = fromN s) ∨ ((s.st = 5 ∨ s.st = 6) ∧ w = ontoN s)
theorem Looks.lt {s : PiS} {w : Nat} (h : Looks s w) : w < 2 := by
  rcases h with ⟨_, rfl⟩ | ⟨_, rfl⟩
  · exact fromN_lt s
  · exact ontoN_lt s

structure Own (r : Nat) (f : Nat → Int) (l : Nat → List Nat) (s : PiS) : Prop where
  hold : 3 ≤ s.st → ∃ q : Nat, s.place = (q : Int) ∧ 1 ≤ q ∧ q ≤ r ∧ q ∉ l 0 ∧ q ∉ l 1
  look : ∀ w, Looks s w → 0 ≤ s.head ∧ tag s.head ≤ tag (f w) ∧ (tag s.head = tag (f w) → s.head = f w)
  seen : (s.st = 1 ∨ s.st = 2) → s.place = idx s.head ∧ 1 ≤ s.place ∧ s.place ≤ r
  low : s.st = 2 → s.head = f (fromN s) → idx s.low = idx (f (2 * s.place.toNat))
  lnk : s.st = 6 → f (2 * s.place.toNat) = idx s.head

def holds (c : Nat → PiS) (h : Nat) : Bool := decide (3 ≤ (c h).st)

structure PI (r nh : Nat) (f : Nat → Int) (c : Nat → PiS) (k : Nat) (l : Nat → List Nat) : Prop where
  ch : ∀ w, w < 2 → Chain f (idx (f w)) (l w)
  rng : ∀ w, w < 2 → ∀ q, q ∈ l w → q ≤ r
  nd : ∀ w, w < 2 → (l w).Nodup
  dis : ∀ q, q ∈ l 0 → q ∈ l 1 → False
  pos : ∀ w, w < 2 → 0 ≤ f w
  tg : ∀ w, w < 2 → tag (f w) ≤ k
  own : ∀ h, h < nh → Own r f l (c h)
  sep : ∀ h h', h < nh → h' < nh → h ≠ h' → 3 ≤ (c h).st → 3 ≤ (c h').st → (c h).place ≠ (c h').place
  all : (l 0).length + (l 1).length + cnt (holds c) nh = r

theorem cnt_on {g g' : Nat → Bool} {h : Nat} (h0 : g h = false) (h1 : g' h = true) (he : ∀ j, j ≠ h → g' j = g j) : ∀ n, h < n → cnt g' n = cnt g n + 1
  | 0, hn => absurd hn (Nat.not_lt_zero _)
  | n + 1, hn => by
    by_cases e : h = n
    · subst e
      rw [cnt_true h1, cnt_false h0, cnt_congr (fun i hi => he i (by omega))]
    · have ih := cnt_on h0 h1 he n (by omega)
      have en := he n (Ne.symm e)
      cases hg : g n with
      | true => rw [cnt_true (by rw [en, hg]), cnt_true hg, ih]
      | false => rw [cnt_false (by rw [en, hg]), cnt_false hg, ih]

/-- The state of one hand alone is turned. -/
theorem PI.turn {r nh : Nat} {f : Nat → Int} {c : Nat → PiS} {k : Nat} {l : Nat → List Nat} (I : PI r nh f c k l) {h : Nat} (hh : h < nh) {s' : PiS} (ho : Own r f l s') (hst : (3 ≤ s'.st ↔ 3 ≤ (c h).st)) (hpl : 3 ≤ s'.st → s'.place = (c h).place) : PI r nh f (upd c h s') (k + 1) l := by
  refine ⟨I.ch, I.rng, I.nd, I.dis, I.pos, fun w hw => by have := I.tg w hw; omega, fun j hj => ?_, fun a b ha hb hab h1 h2 => ?_, ?_⟩
  · by_cases e : j = h
    · subst e; rw [upd_same]; exact ho
    · rw [upd_other _ _ e]; exact I.own j hj
  · by_cases ea : a = h
    · subst ea
      rw [upd_same] at h1 ⊢
      rw [upd_other _ _ (Ne.symm hab)] at h2 ⊢
      rw [hpl h1]
      exact I.sep a b ha hb hab (hst.1 h1) h2
    · rw [upd_other _ _ ea] at h1 ⊢
      by_cases eb : b = h
      · subst eb
        rw [upd_same] at h2 ⊢
        rw [hpl h2]
        exact I.sep a b ha hb hab h1 (hst.1 h2)
      · rw [upd_other _ _ eb] at h2 ⊢
        exact I.sep a b ha hb hab h1 h2
  · rw [← I.all, cnt_congr (g := holds (upd c h s')) (g' := holds c)]
    intro j _
    unfold holds
    by_cases e : j = h
    · subst e; rw [upd_same]; exact decide_eq_decide.2 hst
    · rw [upd_other _ _ e]

/-- A word that is no head's and no link of a place in a list is turned. -/
theorem PI.put {r nh : Nat} {f : Nat → Int} {c : Nat → PiS} {k : Nat} {l : Nat → List Nat} (I : PI r nh f c k l) {i : Nat} {v : Int} (hi : 2 ≤ i) (hl : ∀ w, w < 2 → ∀ q, q ∈ l w → 2 * q ≠ i) (hk : ∀ h, h < nh → (c h).st = 6 → 2 * (c h).place.toNat ≠ i) : PI r nh (putF f i v) c k l := by
  have e0 : ∀ w, w < 2 → putF f i v w = f w := fun w hw => by unfold putF; rw [if_neg (by omega)]
  have eo : ∀ q, q ≠ i → putF f i v q = f q := fun q hq => by unfold putF; rw [if_neg hq]
  refine ⟨fun w hw => ?_, I.rng, I.nd, I.dis, fun w hw => by rw [e0 w hw]; exact I.pos w hw, fun w hw => by rw [e0 w hw]; exact I.tg w hw, fun h hh => ?_, I.sep, I.all⟩
  · rw [e0 w hw]
    exact (I.ch w hw).congr (fun q hq => (eo _ (hl w hw q hq)).symm)
  · have O := I.own h hh
    refine ⟨O.hold, fun w hw => by rw [e0 w hw.lt]; exact O.look w hw, O.seen, fun h2 he => ?_, fun h6 => by rw [eo _ (hk h hh h6)]; exact O.lnk h6⟩
    rw [e0 _ (fromN_lt _)] at he
    have hs := O.seen (.inr h2)
    have hc := I.ch (fromN (c h)) (fromN_lt _)
    rw [← he, ← hs.1] at hc
    obtain ⟨q, l', el, eq, _, _⟩ := hc.cons (by omega)
    have hq : (c h).place.toNat = q := by omega
    rw [eo _ (by rw [hq]; exact hl _ (fromN_lt _) q (by rw [el]; exact .head _))]
    exact O.low h2 he
end Pile
end Go.Proofs.Ytbjlpmahomjgjaa

namespace Go.Proofs.Ytbjlpmahomjgjaa
open Go.RowKit
namespace Pile

def updL (l : Nat → List Nat) (w : Nat) (x : List Nat) : Nat → List Nat := fun v => if v = w then x else l v
theorem updL_same (l : Nat → List Nat) (w : Nat) (x : List Nat) : updL l w x w = x := if_pos rfl
theorem updL_other (l : Nat → List Nat) {w v : Nat} (x : List Nat) (h : v ≠ w) : updL l w x v = l v := if_neg h

theorem Chain.low {f : Nat → Int} : ∀ {l : List Nat} {p : Int}, Chain f p l → ∀ q, q ∈ l → 1 ≤ q
  | [], _, _, q, hq => nomatch hq
  | _ :: l, _, ⟨_, h2, h3⟩, q, hq => by
    cases hq with
    | head => exact h2
    | tail _ hq => exact h3.low q hq

theorem idx_idx (x : Int) : idx (idx x) = idx x := by unfold idx; omega

theorem Own.bare {r : Nat} {f : Nat → Int} {l : Nat → List Nat} {s : PiS} (hs : s.st = 3 ∨ s.st = 4) {q : Nat} (e : s.place = (q : Int)) (h1 : 1 ≤ q) (hr : q ≤ r) (n0 : q ∉ l 0) (n1 : q ∉ l 1) : Own r f l s :=
  ⟨fun _ => ⟨q, e, h1, hr, n0, n1⟩, fun w hw => by unfold Looks at hw; omega, fun h => by omega, fun h => by omega, fun h => by omega⟩
theorem Own.idle {r : Nat} {f : Nat → Int} {l : Nat → List Nat} {s : PiS} (hs : s.st = 0) : Own r f l s :=
  ⟨fun h => by omega, fun w hw => by unfold Looks at hw; omega, fun h => by omega, fun h => by omega, fun h => by omega⟩

/-- What another hand knows when the head of a list is turned and its tag is one more. -/
theorem Own.head {r : Nat} {f : Nat → Int} {l l' : Nat → List Nat} {s : PiS} (O : Own r f l s) {w : Nat} {v : Int} (hw : w < 2) (ht : tag v = tag (f w) + 1) (hl : 3 ≤ s.st → ∀ q : Nat, s.place = (q : Int) → q ∉ l 0 → q ∉ l 1 → q ∉ l' 0 ∧ q ∉ l' 1) : Own r (putF f w v) l' s := by
  have es : putF f w v w = v := by unfold putF; rw [if_pos rfl]
  have eo : ∀ q, q ≠ w → putF f w v q = f q := fun q hq => by unfold putF; rw [if_neg hq]
  refine ⟨fun h3 => ?_, fun w' hw' => ?_, O.seen, fun h2 he => ?_, fun h6 => ?_⟩
  · obtain ⟨q, e, h1, h2, h4, h5⟩ := O.hold h3
    have := hl h3 q e h4 h5
    exact ⟨q, e, h1, h2, this.1, this.2⟩
  · have := O.look w' hw'
    by_cases e : w' = w
    · subst e
      rw [es]
      exact ⟨this.1, by omega, fun h => by omega⟩
    · rw [eo _ e]; exact this
  · have hs := O.seen (.inr h2)
    have hL := O.look (fromN s) (.inl ⟨.inr h2, rfl⟩)
    by_cases e : fromN s = w
    · rw [e, es] at he
      rw [e] at hL
      rw [he] at hL
      omega
    · rw [eo _ e] at he
      rw [eo _ (by omega)]
      exact O.low h2 he
  · obtain ⟨q, e, h1, _⟩ := O.hold (by omega)
    rw [eo _ (by omega)]
    exact O.lnk h6

theorem PI.take {r nh : Nat} {f : Nat → Int} {c : Nat → PiS} {k : Nat} {l : Nat → List Nat} (I : PI r nh f c k l) (hk : k < 4294967295) {h : Nat} (hh : h < nh) (h2 : (c h).st = 2) (hs : f (fromN (c h)) = (c h).head) :
    ∃ q l', l (fromN (c h)) = q :: l' ∧ (c h).place = (q : Int) ∧ PI r nh (putF f (fromN (c h)) (bump (c h).head (idx (c h).low))) (upd c h { c h with st := 3 }) (k + 1) (updL l (fromN (c h)) l') := by
  have O := I.own h hh
  have hseen := O.seen (.inr h2)
  have hlow := O.low h2 hs.symm
  have hw := fromN_lt (c h)
  have hc := I.ch _ hw
  rw [hs, ← hseen.1] at hc
  obtain ⟨q, l', el, eq, hq1, hch⟩ := hc.cons (by omega)
  refine ⟨q, l', el, eq, ?_⟩
  have hq : (c h).place.toNat = q := by omega
  rw [hq] at hlow
  generalize fromN (c h) = w at *
  have ht : tag (bump (c h).head (idx (c h).low)) = tag (f w) + 1 := by
    have := I.tg w hw
    have := I.pos w hw
    rw [← hs]
    exact tag_bump (by omega) (by omega)
  have hi : idx (bump (c h).head (idx (c h).low)) = idx (f (2 * q)) := by
    rw [idx_bump (idx_lo _) (idx_hi _), hlow]
  have hpos : 0 ≤ bump (c h).head (idx (c h).low) := bump_lo _ _
  generalize bump (c h).head (idx (c h).low) = v at *
  have es : putF f w v w = v := by unfold putF; rw [if_pos rfl]
  have eo : ∀ q, q ≠ w → putF f w v q = f q := fun q hq => by unfold putF; rw [if_neg hq]
  have hsub : ∀ w', ∀ p, p ∈ updL l w l' w' → p ∈ l w' := by
    intro w' p hp
    by_cases e : w' = w
    · subst e; rw [updL_same] at hp; rw [el]; exact .tail _ hp
    · rw [updL_other _ _ e] at hp; exact hp
  have hnd := I.nd w hw
  rw [el] at hnd
  have hql : q ∉ l' := (List.nodup_cons.1 hnd).1
  have hqn : ∀ w', w' < 2 → q ∉ updL l w l' w' := by
    intro w' hw' hp
    by_cases e : w' = w
    · subst e; rw [updL_same] at hp; exact hql hp
    · rw [updL_other _ _ e] at hp
      have hm : q ∈ l w := by rw [el]; exact .head _
      have : (w = 0 ∧ w' = 1) ∨ (w = 1 ∧ w' = 0) := by omega
      rcases this with ⟨rfl, rfl⟩ | ⟨rfl, rfl⟩
      · exact I.dis q hm hp
      · exact I.dis q hp hm
  have hqr : q ≤ r := I.rng w hw q (by rw [el]; exact .head _)
  have hqm : q ∈ l 0 ∨ q ∈ l 1 := by
    have hm : q ∈ l w := by rw [el]; exact .head _
    have : w = 0 ∨ w = 1 := by omega
    rcases this with rfl | rfl
    · exact .inl hm
    · exact .inr hm
  have hne : ∀ b, b < nh → 3 ≤ (c b).st → (c b).place ≠ (q : Int) := by
    intro b hb h3 he
    obtain ⟨p, e, _, _, n0, n1⟩ := (I.own b hb).hold h3
    have : p = q := by omega
    subst this
    rcases hqm with hm | hm
    · exact n0 hm
    · exact n1 hm
  refine ⟨fun w' hw' => ?_, fun w' hw' p hp => I.rng w' hw' p (hsub w' p hp), fun w' hw' => ?_, fun p h0 h1 => I.dis p (hsub 0 p h0) (hsub 1 p h1), fun w' hw' => ?_, fun w' hw' => ?_, fun j hj => ?_, fun a b ha hb hab h1 h3 => ?_, ?_⟩
  · have hcg : ∀ x p, p ∈ l x → x < 2 → f (2 * p) = putF f w v (2 * p) := by
      intro x p hp hx
      refine (eo _ ?_).symm
      have := (I.ch x hx).low p hp
      omega
    by_cases e : w' = w
    · subst e
      rw [es, updL_same, hi]
      exact hch.congr (fun p hp => hcg w' p (by rw [el]; exact .tail _ hp) hw')
    · rw [eo _ e, updL_other _ _ e]
      exact (I.ch w' hw').congr (fun p hp => hcg w' p hp hw')
  · by_cases e : w' = w
    · subst e; rw [updL_same]; exact (List.nodup_cons.1 hnd).2
    · rw [updL_other _ _ e]; exact I.nd w' hw'
  · by_cases e : w' = w
    · subst e; rw [es]; exact hpos
    · rw [eo _ e]; exact I.pos w' hw'
  · have := I.tg w' hw'
    by_cases e : w' = w
    · subst e; rw [es]; omega
    · rw [eo _ e]; omega
  · by_cases e : j = h
    · subst e
      rw [upd_same]
      exact Own.bare (.inl rfl) eq hq1 hqr (hqn 0 (by omega)) (hqn 1 (by omega))
    · rw [upd_other _ _ e]
      exact (I.own j hj).head hw ht (fun h3 p ep n0 n1 => ⟨fun hp => n0 (hsub 0 p hp), fun hp => n1 (hsub 1 p hp)⟩)
  · by_cases ea : a = h
    · subst ea
      rw [upd_same]
      rw [upd_other _ _ (Ne.symm hab)] at h3 ⊢
      show (c a).place ≠ _
      rw [eq]
      exact Ne.symm (hne b hb h3)
    · rw [upd_other _ _ ea] at h1 ⊢
      by_cases eb : b = h
      · subst eb
        rw [upd_same]
        show _ ≠ (c b).place
        rw [eq]
        exact hne a ha h1
      · rw [upd_other _ _ eb] at h3 ⊢
        exact I.sep a b ha hb hab h1 h3
  · have hcnt : cnt (holds (upd c h { c h with st := 3 })) nh = cnt (holds c) nh + 1 := by
      refine cnt_on (h := h) ?_ ?_ ?_ nh hh
      · unfold holds; rw [h2]; decide
      · unfold holds; rw [upd_same]; exact decide_eq_true (show (3 : Int) ≤ 3 by decide)
      · intro j hj; unfold holds; rw [upd_other _ _ hj]
    rw [hcnt]
    have := I.all
    have : w = 0 ∨ w = 1 := by omega
    rcases this with rfl | rfl
    · rw [updL_same, updL_other _ _ (by omega)]
      rw [el, List.length_cons] at this
      omega
    · rw [updL_same, updL_other _ _ (by omega)]
      rw [el, List.length_cons] at this
      omega
theorem PI.lay {r nh : Nat} {f : Nat → Int} {c : Nat → PiS} {k : Nat} {l : Nat → List Nat} (I : PI r nh f c k l) (hk : k < 4294967295) (hr : r < 4294967296) {h : Nat} (hh : h < nh) (h6 : (c h).st = 6) (hs : f (ontoN (c h)) = (c h).head) {s' : PiS} (h0 : s'.st = 0) :
    ∃ q : Nat, (c h).place = (q : Int) ∧ PI r nh (putF f (ontoN (c h)) (bump (c h).head (c h).place)) (upd c h s') (k + 1) (updL l (ontoN (c h)) (q :: l (ontoN (c h)))) := by
  have O := I.own h hh
  have hlnk := O.lnk h6
  obtain ⟨q, eq, hq1, hqr, n0, n1⟩ := O.hold (by omega)
  have hw := ontoN_lt (c h)
  refine ⟨q, eq, ?_⟩
  have hq : (c h).place.toNat = q := by omega
  rw [hq] at hlnk
  generalize ontoN (c h) = w at *
  have ht : tag (bump (c h).head (c h).place) = tag (f w) + 1 := by
    have := I.tg w hw
    have := I.pos w hw
    rw [← hs]
    exact tag_bump (by omega) (by omega)
  have hi : idx (bump (c h).head (c h).place) = (q : Int) := by
    rw [eq]
    exact idx_bump (by omega) (by omega)
  have hpos : 0 ≤ bump (c h).head (c h).place := bump_lo _ _
  generalize bump (c h).head (c h).place = v at *
  have es : putF f w v w = v := by unfold putF; rw [if_pos rfl]
  have eo : ∀ q, q ≠ w → putF f w v q = f q := fun q hq => by unfold putF; rw [if_neg hq]
  have hql : ∀ w', w' < 2 → q ∉ l w' := by
    intro w' hw' hp
    have : w' = 0 ∨ w' = 1 := by omega
    rcases this with rfl | rfl
    · exact n0 hp
    · exact n1 hp
  have hin : ∀ w' p, p ∈ updL l w (q :: l w) w' → p = q ∨ p ∈ l w' := by
    intro w' p hp
    by_cases e : w' = w
    · subst e; rw [updL_same] at hp
      cases hp with
      | head => exact .inl rfl
      | tail _ hp => exact .inr hp
    · rw [updL_other _ _ e] at hp; exact .inr hp
  have hone : ∀ w', w' ≠ w → updL l w (q :: l w) w' = l w' := fun w' e => updL_other _ _ e
  refine ⟨fun w' hw' => ?_, fun w' hw' p hp => ?_, fun w' hw' => ?_, fun p p0 p1 => ?_, fun w' hw' => ?_, fun w' hw' => ?_, fun j hj => ?_, fun a b ha hb hab h1 h3 => ?_, ?_⟩
  · have hcg : ∀ x p, p ∈ l x → x < 2 → f (2 * p) = putF f w v (2 * p) := by
      intro x p hp hx
      refine (eo _ ?_).symm
      have := (I.ch x hx).low p hp
      omega
    by_cases e : w' = w
    · subst e
      rw [es, updL_same, hi]
      refine ⟨rfl, hq1, ?_⟩
      rw [eo _ (by omega), hlnk, idx_idx, ← hs]
      exact (I.ch w' hw').congr (fun p hp => hcg w' p hp hw')
    · rw [eo _ e, updL_other _ _ e]
      exact (I.ch w' hw').congr (fun p hp => hcg w' p hp hw')
  · rcases hin w' p hp with rfl | hp
    · exact hqr
    · exact I.rng w' hw' p hp
  · by_cases e : w' = w
    · subst e; rw [updL_same]; exact List.nodup_cons.2 ⟨hql w' hw', I.nd w' hw'⟩
    · rw [updL_other _ _ e]; exact I.nd w' hw'
  · have : w = 0 ∨ w = 1 := by omega
    rcases this with rfl | rfl
    · rw [hone 1 (by omega)] at p1
      rcases hin 0 p p0 with rfl | p0
      · exact n1 p1
      · exact I.dis p p0 p1
    · rw [hone 0 (by omega)] at p0
      rcases hin 1 p p1 with rfl | p1
      · exact n0 p0
      · exact I.dis p p0 p1
  · by_cases e : w' = w
    · subst e; rw [es]; exact hpos
    · rw [eo _ e]; exact I.pos w' hw'
  · have := I.tg w' hw'
    by_cases e : w' = w
    · subst e; rw [es]; omega
    · rw [eo _ e]; omega
  · by_cases e : j = h
    · subst e
      rw [upd_same]
      exact Own.idle h0
    · rw [upd_other _ _ e]
      refine (I.own j hj).head hw ht (fun h3 p ep m0 m1 => ?_)
      have hne := I.sep j h hj hh e h3 (by omega)
      refine ⟨fun hp => ?_, fun hp => ?_⟩
      · rcases hin 0 p hp with rfl | hp
        · exact hne (ep.trans eq.symm)
        · exact m0 hp
      · rcases hin 1 p hp with rfl | hp
        · exact hne (ep.trans eq.symm)
        · exact m1 hp
  · by_cases ea : a = h
    · subst ea
      rw [upd_same] at h1
      omega
    · rw [upd_other _ _ ea] at h1 ⊢
      by_cases eb : b = h
      · subst eb
        rw [upd_same] at h3
        omega
      · rw [upd_other _ _ eb] at h3 ⊢
        exact I.sep a b ha hb hab h1 h3
  · have hcnt : cnt (holds c) nh = cnt (holds (upd c h s')) nh + 1 := by
      refine cnt_on (h := h) ?_ ?_ ?_ nh hh
      · unfold holds; rw [upd_same, h0]; decide
      · unfold holds; rw [h6]; decide
      · intro j hj; unfold holds; rw [upd_other _ _ hj]
    have := I.all
    have : w = 0 ∨ w = 1 := by omega
    rcases this with rfl | rfl
    · rw [updL_same, hone 1 (by omega), List.length_cons]
      omega
    · rw [updL_same, hone 0 (by omega), List.length_cons]
      omega
end Pile
end Go.Proofs.Ytbjlpmahomjgjaa

namespace Go.Proofs.Ytbjlpmahomjgjaa
open Go.RowKit
namespace Pile

theorem act_ld {n : Nat} {f : Nat → Int} {hd a : Int} (h0 : 0 ≤ a) (h1 : a < n) : stepOf n f ⟨hd, 1, a, 0, 0, true⟩ = ⟨hd, 1, a, f a.toNat, f a.toNat, true⟩ := by
  unfold stepOf; rw [if_pos ⟨h0, h1⟩]; rfl
theorem act_ldw {n : Nat} {f : Nat → Int} {hd a : Int} (h0 : 0 ≤ a) (h1 : a < n) : wordsOf n f ⟨hd, 1, a, 0, 0, true⟩ = f := by
  unfold wordsOf; rw [if_pos ⟨h0, h1⟩, act_ld h0 h1]; exact putF_self _
theorem act_st {n : Nat} {f : Nat → Int} {hd a v : Int} (h0 : 0 ≤ a) (h1 : a < n) : stepOf n f ⟨hd, 2, a, 0, v, true⟩ = ⟨hd, 2, a, f a.toNat, v, true⟩ := by
  unfold stepOf; rw [if_pos ⟨h0, h1⟩]; rfl
theorem act_stw {n : Nat} {f : Nat → Int} {hd a v : Int} (h0 : 0 ≤ a) (h1 : a < n) : wordsOf n f ⟨hd, 2, a, 0, v, true⟩ = putF f a.toNat v := by
  unfold wordsOf; rw [if_pos ⟨h0, h1⟩, act_st h0 h1]
theorem act_ca {n : Nat} {f : Nat → Int} {hd a o v : Int} (h0 : 0 ≤ a) (h1 : a < n) (he : f a.toNat = o) : stepOf n f ⟨hd, 5, a, o, v, true⟩ = ⟨hd, 5, a, o, v, true⟩ := by
  subst he
  unfold stepOf; rw [if_pos ⟨h0, h1⟩]
  simp [actOf, putBy]
theorem act_caw {n : Nat} {f : Nat → Int} {hd a o v : Int} (h0 : 0 ≤ a) (h1 : a < n) (he : f a.toNat = o) : wordsOf n f ⟨hd, 5, a, o, v, true⟩ = putF f a.toNat v := by
  unfold wordsOf; rw [if_pos ⟨h0, h1⟩, act_ca h0 h1 he]
theorem act_no {n : Nat} {f : Nat → Int} {hd a o v : Int} (h0 : 0 ≤ a) (h1 : a < n) (he : ¬ f a.toNat = o) : stepOf n f ⟨hd, 5, a, o, v, true⟩ = ⟨hd, 5, a, f a.toNat, f a.toNat, false⟩ := by
  unfold stepOf; rw [if_pos ⟨h0, h1⟩]
  simp [actOf, putBy, he]
theorem act_now {n : Nat} {f : Nat → Int} {hd a o v : Int} (h0 : 0 ≤ a) (h1 : a < n) (he : ¬ f a.toNat = o) : wordsOf n f ⟨hd, 5, a, o, v, true⟩ = f := by
  unfold wordsOf; rw [if_pos ⟨h0, h1⟩, act_no h0 h1 he]; exact putF_self _

/-- What lies on the pile (the last pushed first) and what each pop has got. -/
structure PQ (r : Nat) (P : Par) (f : Nat → Int) (c : Nat → PiS) (d : Nat → Nat) (k : Nat) (l : Nat → List Nat) (ly : List Int) (pv : Nat → Int) : Prop where
  pi : PI r P.nh f c k l
  vals : ly = (l 0).map (fun q => f (2 * q + 1))
  jb : ∀ h, h < P.nh → (c h).j = P.jb h (d h)
  rng : ∀ h, h < P.nh → 0 ≤ (c h).st ∧ (c h).st ≤ 6
  push : ∀ h, h < P.nh → (c h).j.kind = 1 → 4 ≤ (c h).st → f (2 * (c h).place.toNat + 1) = (c h).j.h
  pop3 : ∀ h, h < P.nh → ¬ (c h).j.kind = 1 → (c h).st = 3 → f (2 * (c h).place.toNat + 1) = pv h
  pop4 : ∀ h, h < P.nh → ¬ (c h).j.kind = 1 → 4 ≤ (c h).st → (c h).val = pv h
  told : ∀ h, h < P.nh → (c h).told.ok = false

theorem PQ.of {r : Nat} {P : Par} {f f' : Nat → Int} {c : Nat → PiS} {d d' : Nat → Nat} {k k' : Nat} {l l' : Nat → List Nat} {ly ly' : List Int} {pv pv' : Nat → Int} (Q : PQ r P f c d k l ly pv) {h : Nat} {s' : PiS}
    (I' : PI r P.nh f' (upd c h s') k' l') (hv : ly' = (l' 0).map (fun q => f' (2 * q + 1))) (hd : ∀ j, j ≠ h → d' j = d j) (hj : s'.j = P.jb h (d' h)) (ht : s'.told.ok = false) (hr : 0 ≤ s'.st ∧ s'.st ≤ 6)
    (h1 : s'.j.kind = 1 → 4 ≤ s'.st → f' (2 * s'.place.toNat + 1) = s'.j.h) (h3 : ¬ s'.j.kind = 1 → s'.st = 3 → f' (2 * s'.place.toNat + 1) = pv' h) (h4 : ¬ s'.j.kind = 1 → 4 ≤ s'.st → s'.val = pv' h)
    (hp : ∀ j, j ≠ h → pv' j = pv j) (hf : ∀ j, j < P.nh → j ≠ h → 3 ≤ (c j).st → f' (2 * (c j).place.toNat + 1) = f (2 * (c j).place.toNat + 1)) : PQ r P f' (upd c h s') d' k' l' ly' pv' := by
  refine ⟨I', hv, fun j hjn => ?_, fun j hjn => ?_, fun j hjn => ?_, fun j hjn => ?_, fun j hjn => ?_, fun j hjn => ?_⟩
  all_goals by_cases e : j = h
  all_goals first | (subst e; rw [upd_same]; assumption) | rw [upd_other _ _ e]
  · rw [hd j e]; exact Q.jb j hjn
  · exact Q.rng j hjn
  · intro a b; rw [hf j hjn e (by omega)]; exact Q.push j hjn a b
  · intro a b; rw [hf j hjn e (by omega), hp j e]; exact Q.pop3 j hjn a b
  · intro a b; rw [hp j e]; exact Q.pop4 j hjn a b
  · exact Q.told j hjn

/-- What a step is of a pile. -/
def LA (j : Jb) (x : Stp) : Prop := j.kind = 1 ∧ x.at_ = 1 ∧ x.act = 1 ∧ idx x.had = 0
def LB (j : Jb) (x : Stp) : Prop := j.kind = 1 ∧ x.at_ = 0 ∧ x.act = 5 ∧ x.ok = true
def LC (j : Jb) (x : Stp) : Prop := j.kind = 2 ∧ x.at_ = 0 ∧ x.act = 1 ∧ idx x.had = 0
def LD (j : Jb) (x : Stp) : Prop := j.kind = 2 ∧ x.at_ = 0 ∧ x.act = 5 ∧ x.ok = true
def LE (j : Jb) (x : Stp) : Prop := j.kind = 2 ∧ x.at_ = 1 ∧ x.act = 5 ∧ x.ok = true
def SC (h : Nat) (j : Jb) (x : Stp) (ly ly' : List Int) (pv pv' : Nat → Int) (e : Bool) (a : Ans) : Prop :=
  (LA j x ∧ e = true ∧ a.ok = false ∧ ly' = ly ∧ pv' = pv) ∨ (LB j x ∧ e = true ∧ a.ok = true ∧ ly' = j.h :: ly ∧ pv' = pv) ∨ (LC j x ∧ e = true ∧ a.ok = false ∧ ly = [] ∧ ly' = ly ∧ pv' = pv) ∨
  (LD j x ∧ e = false ∧ ∃ v, ly = v :: ly' ∧ pv' = upd pv h v) ∨ (LE j x ∧ e = true ∧ a.ok = true ∧ a.val = pv h ∧ ly' = ly ∧ pv' = pv) ∨
  (¬ LA j x ∧ ¬ LB j x ∧ ¬ LC j x ∧ ¬ LD j x ∧ ¬ LE j x ∧ e = false ∧ ly' = ly ∧ pv' = pv)

/-- What a step leaves of one hand's state. -/
def goS (P : Par) (d : Nat → Nat) (h : Nat) (s : PiS) (x : Stp) : PiS := if pends s x = true then ⟨h, P.jb h (d h + 1), 0, 0, 0, 0, 0, ⟨false, 0⟩⟩ else pnext s x
def goD (d : Nat → Nat) (h : Nat) (s : PiS) (x : Stp) : Nat → Nat := if pends s x = true then upd d h (d h + 1) else d

def Stepped (r : Nat) (P : Par) (f : Nat → Int) (c : Nat → PiS) (d : Nat → Nat) (k : Nat) (ly : List Int) (pv : Nat → Int) (h : Nat) : Prop :=
  ∃ l' ly' pv', PQ r P (wordsOf P.n f (preq (c h))) (upd c h (goS P d h (c h) (stepOf P.n f (preq (c h))))) (goD d h (c h) (stepOf P.n f (preq (c h)))) (k + 1) l' ly' pv' ∧
    SC h (c h).j (stepOf P.n f (preq (c h))) ly ly' pv pv' (pends (c h) (stepOf P.n f (preq (c h)))) (pnext (c h) (stepOf P.n f (preq (c h)))).told

section
variable {r : Nat} {P : Par} {f : Nat → Int} {c : Nat → PiS} {d : Nat → Nat} {k : Nat} {l : Nat → List Nat} {ly : List Int} {pv : Nat → Int} {h : Nat}

/-- A step that turns nothing but the hand's own state, and ends nothing. -/
theorem PQ.quiet (Q : PQ r P f c d k l ly pv) (hh : h < P.nh) {x : Stp} (hx : stepOf P.n f (preq (c h)) = x) (hw : wordsOf P.n f (preq (c h)) = f) (he : pends (c h) x = false) {s' : PiS} (hs : pnext (c h) x = s') (hjj : s'.j = (c h).j) (htt : s'.told = (c h).told) (ho : Own r f l s') (hst : (3 ≤ s'.st ↔ 3 ≤ (c h).st)) (hpl : 3 ≤ s'.st → s'.place = (c h).place)
    (hr : 0 ≤ s'.st ∧ s'.st ≤ 6) (h1 : s'.j.kind = 1 → 4 ≤ s'.st → 4 ≤ (c h).st) (h3 : ¬ s'.st = 3) (h4 : ¬ s'.j.kind = 1 → 4 ≤ s'.st → s'.val = pv h)
    (hN : ¬ LA (c h).j x ∧ ¬ LB (c h).j x ∧ ¬ LC (c h).j x ∧ ¬ LD (c h).j x ∧ ¬ LE (c h).j x) : Stepped r P f c d k ly pv h := by
  unfold Stepped goS goD
  rw [hx, hw, he, hs, if_neg (by decide), if_neg (by decide)]
  refine ⟨l, ly, pv, Q.of (Q.pi.turn hh ho hst hpl) Q.vals (fun _ _ => rfl) (hjj.trans (Q.jb h hh)) (by rw [htt]; exact Q.told h hh) hr (fun a b => ?_) (fun a b => absurd b h3) h4 (fun _ _ => rfl) (fun _ _ _ _ => rfl), .inr (.inr (.inr (.inr (.inr ⟨hN.1, hN.2.1, hN.2.2.1, hN.2.2.2.1, hN.2.2.2.2, rfl, rfl, rfl⟩))))⟩
  rw [hpl (by omega), hjj]
  exact Q.push h hh (by rw [← hjj]; exact a) (h1 a b)
end
end Pile
end Go.Proofs.Ytbjlpmahomjgjaa

namespace Go.Proofs.Ytbjlpmahomjgjaa
open Go.RowKit
namespace Pile
section
variable {r : Nat} {P : Par} {f : Nat → Int} {c : Nat → PiS} {d : Nat → Nat} {k : Nat} {l : Nat → List Nat} {ly : List Int} {pv : Nat → Int} {h : Nat}

theorem frm_at (s : PiS) : (frm s.j.kind).toNat = fromN s := by rw [frm_eq]; rfl
theorem ont_at (s : PiS) : (ont s.j.kind).toNat = ontoN s := by rw [ont_eq]; rfl
theorem frm_in (s : PiS) {n : Nat} (hn : 2 ≤ n) : 0 ≤ frm s.j.kind ∧ frm s.j.kind < n := by rw [frm_eq]; have := fromN_lt s; omega
theorem ont_in (s : PiS) {n : Nat} (hn : 2 ≤ n) : 0 ≤ ont s.j.kind ∧ ont s.j.kind < n := by rw [ont_eq]; have := ontoN_lt s; omega
theorem fromN_j {s s' : PiS} (e : s'.j = s.j) : fromN s' = fromN s := by unfold fromN; rw [e]
theorem ontoN_j {s s' : PiS} (e : s'.j = s.j) : ontoN s' = ontoN s := by unfold ontoN; rw [e]
theorem fromN_1 {s : PiS} (e : s.j.kind = 1) : fromN s = 1 := if_pos e
theorem fromN_2 {s : PiS} (e : s.j.kind = 2) : fromN s = 0 := if_neg (by omega)
theorem ontoN_1 {s : PiS} (e : s.j.kind = 1) : ontoN s = 0 := if_pos e
theorem ontoN_2 {s : PiS} (e : s.j.kind = 2) : ontoN s = 1 := if_neg (by omega)

/-- State 0: the head is loaded. -/
theorem PQ.s0 (Q : PQ r P f c d k l ly pv) (hh : h < P.nh) (hn : P.n = 2 + 2 * r) (hk : (c h).j.kind = 1 ∨ (c h).j.kind = 2) (h0 : (c h).st = 0) : Stepped r P f c d k ly pv h := by
  have hi := frm_in (c h) (n := P.n) (by omega)
  have hw := fromN_lt (c h)
  have eq : preq (c h) = ⟨(c h).hand, 1, frm (c h).j.kind, 0, 0, true⟩ := by unfold preq; rw [if_pos h0]
  have ex := act_ld (hd := (c h).hand) (f := f) hi.1 hi.2
  have ew := act_ldw (hd := (c h).hand) (f := f) hi.1 hi.2
  rw [← eq] at ex ew
  rw [frm_at, frm_eq] at ex
  have hc := Q.pi.ch _ hw
  by_cases hz : idx (f (fromN (c h))) = 0
  · have hl := hc.nil hz
    obtain ⟨x, hx, x1, x2, x3⟩ : ∃ x, stepOf P.n f (preq (c h)) = x ∧ x.act = 1 ∧ x.at_ = (fromN (c h) : Int) ∧ idx x.had = 0 := ⟨_, ex, rfl, rfl, hz⟩
    have he : pends (c h) x = true := by unfold pends; rw [if_pos h0]; exact beq_iff_eq.2 x3
    have hnx : (pnext (c h) x).told = (c h).told := by unfold pnext; rw [if_pos h0]
    unfold Stepped goS goD
    rw [hx, ew, he, if_pos rfl, if_pos rfl, hnx]
    obtain ⟨s', es, e0, ej, et⟩ : ∃ s' : PiS, (⟨h, P.jb h (d h + 1), 0, 0, 0, 0, 0, ⟨false, 0⟩⟩ : PiS) = s' ∧ s'.st = 0 ∧ s'.j = P.jb h (d h + 1) ∧ s'.told.ok = false := ⟨_, rfl, rfl, rfl, rfl⟩
    rw [es]
    refine ⟨l, ly, pv, Q.of (Q.pi.turn hh (Own.idle e0) (by omega) (fun h3 => by omega)) Q.vals (fun j hj => upd_other _ _ hj) (by rw [upd_same]; exact ej) et (by omega) (fun _ _ => by omega) (fun _ _ => by omega) (fun _ _ => by omega) (fun _ _ => rfl) (fun _ _ _ _ => rfl), ?_⟩
    rcases hk with hk | hk
    · exact .inl ⟨⟨hk, by rw [x2, fromN_1 hk]; rfl, x1, x3⟩, rfl, Q.told h hh, rfl, rfl⟩
    · rw [fromN_2 hk] at hl
      exact .inr (.inr (.inl ⟨⟨hk, by rw [x2, fromN_2 hk]; rfl, x1, x3⟩, rfl, Q.told h hh, by rw [Q.vals, hl]; rfl, rfl, rfl⟩))
  · obtain ⟨q, l', el, e1, hq1, _⟩ := hc.cons hz
    have hqr := Q.pi.rng _ hw q (by rw [el]; exact .head _)
    obtain ⟨x, hx, x1, x2, x3⟩ : ∃ x, stepOf P.n f (preq (c h)) = x ∧ x.act = 1 ∧ x.at_ = (fromN (c h) : Int) ∧ x.had = f (fromN (c h)) := ⟨_, ex, rfl, rfl, rfl⟩
    have he : pends (c h) x = false := by unfold pends; rw [if_pos h0, x3]; exact beq_eq_false_iff_ne.2 hz
    obtain ⟨s', hs, ej, e0, eh, ep, et⟩ : ∃ s', pnext (c h) x = s' ∧ s'.j = (c h).j ∧ s'.st = 1 ∧ s'.head = f (fromN (c h)) ∧ s'.place = idx (f (fromN (c h))) ∧ s'.told = (c h).told := by
      refine ⟨_, rfl, ?_⟩
      unfold pnext; rw [if_pos h0, x3]; simp only [if_neg hz]; exact ⟨trivial, trivial, trivial, trivial, trivial⟩
    refine Q.quiet hh hx ew he hs ej et ⟨fun h => by omega, fun w hw' => ?_, fun _ => by rw [ep, eh]; exact ⟨rfl, by omega, by omega⟩, fun h => by omega, fun h => by omega⟩ (by omega) (fun h => by omega) (by omega) (fun _ h => by omega) (by omega) (fun _ h => by omega) ?_
    · unfold Looks at hw'
      rw [fromN_j ej] at hw'
      have e' : w = fromN (c h) := by omega
      subst e'
      rw [eh]
      exact ⟨Q.pi.pos _ hw, Int.le_refl _, fun _ => rfl⟩
    · unfold LA LB LC LD LE
      rw [x3]
      exact ⟨fun h => hz h.2.2.2, fun h => by omega, fun h => hz h.2.2.2, fun h => by omega, fun h => by omega⟩

/-- State 1: the link is loaded. -/
theorem PQ.s1 (Q : PQ r P f c d k l ly pv) (hh : h < P.nh) (hn : P.n = 2 + 2 * r) (h0 : (c h).st = 1) : Stepped r P f c d k ly pv h := by
  have O := Q.pi.own h hh
  have hs := O.seen (.inl h0)
  have eq : preq (c h) = ⟨(c h).hand, 1, 2 * (c h).place, 0, 0, true⟩ := by unfold preq; rw [if_neg (by omega), if_pos h0]
  have ex := act_ld (n := P.n) (hd := (c h).hand) (f := f) (a := 2 * (c h).place) (by omega) (by omega)
  have ew := act_ldw (n := P.n) (hd := (c h).hand) (f := f) (a := 2 * (c h).place) (by omega) (by omega)
  rw [← eq] at ex ew
  have e2 : (2 * (c h).place).toNat = 2 * (c h).place.toNat := by omega
  rw [e2] at ex
  obtain ⟨x, hx, x1, x2, x3⟩ : ∃ x, stepOf P.n f (preq (c h)) = x ∧ x.act = 1 ∧ x.at_ = 2 * (c h).place ∧ x.had = f (2 * (c h).place.toNat) := ⟨_, ex, rfl, rfl, rfl⟩
  have he : pends (c h) x = false := by unfold pends; rw [if_neg (by omega), if_pos h0]
  obtain ⟨s', hs', ej, e0, eh, ep, el, et⟩ : ∃ s', pnext (c h) x = s' ∧ s'.j = (c h).j ∧ s'.st = 2 ∧ s'.head = (c h).head ∧ s'.place = (c h).place ∧ s'.low = f (2 * (c h).place.toNat) ∧ s'.told = (c h).told := by
    refine ⟨_, rfl, ?_⟩
    unfold pnext; rw [if_neg (by omega), if_pos h0, x3]; exact ⟨rfl, rfl, rfl, rfl, rfl, rfl⟩
  refine Q.quiet hh hx ew he hs' ej et ⟨fun h => by omega, fun w hw' => ?_, fun _ => by rw [ep, eh]; exact hs, fun _ _ => by rw [el, ep], fun h => by omega⟩ (by omega) (fun h => by omega) (by omega) (fun _ h => by omega) (by omega) (fun _ h => by omega) ?_
  · unfold Looks at hw'
    rw [fromN_j ej] at hw'
    rw [eh]
    exact O.look w (.inl ⟨.inl h0, by omega⟩)
  · unfold LA LB LC LD LE
    exact ⟨fun h => by omega, fun h => by omega, fun h => by omega, fun h => by omega, fun h => by omega⟩

/-- State 2: the head is turned, or not. -/
theorem PQ.s2 (Q : PQ r P f c d k l ly pv) (hh : h < P.nh) (hn : P.n = 2 + 2 * r) (hb : k < 4294967295) (hk : (c h).j.kind = 1 ∨ (c h).j.kind = 2) (h0 : (c h).st = 2) : Stepped r P f c d k ly pv h := by
  have hi := frm_in (c h) (n := P.n) (by omega)
  have hw := fromN_lt (c h)
  have eq : preq (c h) = ⟨(c h).hand, 5, frm (c h).j.kind, (c h).head, bump (c h).head (idx (c h).low), true⟩ := by unfold preq; rw [if_neg (by omega), if_neg (by omega), if_pos h0]
  by_cases hz : f (fromN (c h)) = (c h).head
  · have hz' : f (frm (c h).j.kind).toNat = (c h).head := by rw [frm_at]; exact hz
    have ex := act_ca (hd := (c h).hand) (v := bump (c h).head (idx (c h).low)) hi.1 hi.2 hz'
    have ew := act_caw (hd := (c h).hand) (v := bump (c h).head (idx (c h).low)) hi.1 hi.2 hz'
    rw [← eq] at ew
    rw [frm_at] at ew
    obtain ⟨x, hx, x1, x2, x3⟩ : ∃ x, stepOf P.n f (preq (c h)) = x ∧ x.act = 5 ∧ x.at_ = (fromN (c h) : Int) ∧ x.ok = true := ⟨_, (congrArg (stepOf P.n f) eq).trans ex, rfl, frm_eq _, rfl⟩
    have he : pends (c h) x = false := by unfold pends; rw [if_neg (by omega), if_neg (by omega), if_pos h0]
    have hs' : pnext (c h) x = { c h with st := 3 } := by unfold pnext; rw [if_neg (by omega), if_neg (by omega), if_pos h0, x3, if_pos rfl]
    obtain ⟨q, l', el, epl, I'⟩ := Q.pi.take hb hh h0 hz
    unfold Stepped goS goD
    rw [hx, ew, he, if_neg (by decide), if_neg (by decide), hs']
    have hq : (c h).place.toNat = q := by omega
    have hq1 := (Q.pi.ch _ hw).low q (by rw [el]; exact .head _)
    have eo : ∀ (v : Int) (p : Nat), 2 ≤ p → putF f (fromN (c h)) v p = f p := fun v p hp => by unfold putF; rw [if_neg (by omega)]
    rcases hk with hk | hk
    · have e1 := fromN_1 hk
      refine ⟨_, ly, pv, Q.of I' ?_ (fun _ _ => rfl) (Q.jb h hh) (Q.told h hh) ⟨by show (0 : Int) ≤ 3; decide, by show (3 : Int) ≤ 6; decide⟩ (fun _ h => absurd (show (4 : Int) ≤ 3 from h) (by decide)) (fun h _ => absurd hk h) (fun _ h => absurd (show (4 : Int) ≤ 3 from h) (by decide)) (fun _ _ => rfl) ?_, ?_⟩
      · rw [updL_other _ _ (by omega), Q.vals]
        exact List.map_congr_left (fun p hp => (eo _ _ (by have := (Q.pi.ch 0 (by omega)).low p hp; omega)).symm)
      · intro j hj _ h3
        obtain ⟨p, e, h1, _⟩ := (Q.pi.own j hj).hold h3
        exact eo _ _ (by omega)
      · refine .inr (.inr (.inr (.inr (.inr ⟨?_, ?_, ?_, ?_, ?_, rfl, rfl, rfl⟩))))
        all_goals (first | (unfold LA; omega) | (unfold LB; omega) | (unfold LC; omega) | (unfold LD; omega) | (unfold LE; omega))
    · have e1 := fromN_2 hk
      rw [e1] at el
      refine ⟨_, l'.map (fun q => f (2 * q + 1)), upd pv h (f (2 * q + 1)), Q.of I' ?_ (fun _ _ => rfl) (Q.jb h hh) (Q.told h hh) ⟨by show (0 : Int) ≤ 3; decide, by show (3 : Int) ≤ 6; decide⟩ (fun _ h => absurd (show (4 : Int) ≤ 3 from h) (by decide)) (fun _ _ => ?_) (fun _ h => absurd (show (4 : Int) ≤ 3 from h) (by decide)) (fun j hj => upd_other _ _ hj) ?_, ?_⟩
      · rw [e1, updL_same]
        refine List.map_congr_left (fun p hp => ?_)
        have := (Q.pi.ch 0 (by omega)).low p (by rw [el]; exact .tail _ hp)
        rw [← e1]
        exact (eo _ _ (by omega)).symm
      · rw [upd_same]
        show putF f _ _ (2 * (c h).place.toNat + 1) = _
        rw [hq]
        exact eo _ _ (by omega)
      · intro j hj _ h3
        obtain ⟨p, e, h1, _⟩ := (Q.pi.own j hj).hold h3
        exact eo _ _ (by omega)
      · refine .inr (.inr (.inr (.inl ⟨⟨hk, by omega, x1, x3⟩, rfl, _, ?_, rfl⟩)))
        rw [Q.vals, el]
        rfl
  · have hz' : ¬ f (frm (c h).j.kind).toNat = (c h).head := by rw [frm_at]; exact hz
    have ex := act_no (hd := (c h).hand) (v := bump (c h).head (idx (c h).low)) hi.1 hi.2 hz'
    have ew := act_now (hd := (c h).hand) (v := bump (c h).head (idx (c h).low)) hi.1 hi.2 hz'
    rw [← eq] at ex ew
    obtain ⟨x, hx, x1, x3⟩ : ∃ x, stepOf P.n f (preq (c h)) = x ∧ x.act = 5 ∧ x.ok = false := ⟨_, ex, rfl, rfl⟩
    have he : pends (c h) x = false := by unfold pends; rw [if_neg (by omega), if_neg (by omega), if_pos h0]
    obtain ⟨s', hs', ej, e0, et⟩ : ∃ s', pnext (c h) x = s' ∧ s'.j = (c h).j ∧ s'.st = 0 ∧ s'.told = (c h).told := by
      refine ⟨_, rfl, ?_⟩
      unfold pnext; rw [if_neg (by omega), if_neg (by omega), if_pos h0, x3]; exact ⟨rfl, rfl, rfl⟩
    refine Q.quiet hh hx ew he hs' ej et (Own.idle e0) (by omega) (fun h => by omega) (by omega) (fun _ h => by omega) (by omega) (fun _ h => by omega) ?_
    unfold LA LB LC LD LE
    rw [x3, x1]
    exact ⟨fun h => by omega, fun h => (nomatch h.2.2.2), fun h => by omega, fun h => (nomatch h.2.2.2), fun h => (nomatch h.2.2.2)⟩
/-- State 3: the value is stored, or loaded. -/
theorem PQ.s3 (Q : PQ r P f c d k l ly pv) (hh : h < P.nh) (hn : P.n = 2 + 2 * r) (hk : (c h).j.kind = 1 ∨ (c h).j.kind = 2) (h0 : (c h).st = 3) : Stepped r P f c d k ly pv h := by
  have O := Q.pi.own h hh
  obtain ⟨q, epl, hq1, hqr, n0, n1⟩ := O.hold (by omega)
  have hq : (c h).place.toNat = q := by omega
  have e2 : (2 * (c h).place + 1).toNat = 2 * q + 1 := by omega
  rcases hk with hk | hk
  · have eq : preq (c h) = ⟨(c h).hand, 2, 2 * (c h).place + 1, 0, (c h).j.h, true⟩ := by unfold preq; rw [if_neg (by omega), if_neg (by omega), if_neg (by omega), if_pos h0, if_pos hk]
    have ex := act_st (n := P.n) (hd := (c h).hand) (f := f) (a := 2 * (c h).place + 1) (v := (c h).j.h) (by omega) (by omega)
    have ew := act_stw (n := P.n) (hd := (c h).hand) (f := f) (a := 2 * (c h).place + 1) (v := (c h).j.h) (by omega) (by omega)
    rw [← eq] at ex ew
    rw [e2] at ew
    obtain ⟨x, hx, x1⟩ : ∃ x, stepOf P.n f (preq (c h)) = x ∧ x.act = 2 := ⟨_, ex, rfl⟩
    have he : pends (c h) x = false := by unfold pends; rw [if_neg (by omega), if_neg (by omega), if_neg (by omega), if_pos h0]
    obtain ⟨s', hs', ej, e0, ep, et⟩ : ∃ s', pnext (c h) x = s' ∧ s'.j = (c h).j ∧ s'.st = 4 ∧ s'.place = (c h).place ∧ s'.told = (c h).told := by
      refine ⟨_, rfl, ?_⟩
      unfold pnext; rw [if_neg (by omega), if_neg (by omega), if_neg (by omega), if_pos h0, if_pos hk]; exact ⟨rfl, rfl, rfl, rfl⟩
    have I1 := Q.pi.put (i := 2 * q + 1) (v := (c h).j.h) (by omega) (fun w hw p hp => by omega) (fun j hj h6 => by omega)
    have I2 := I1.turn hh (s' := s') (Own.bare (.inr e0) (ep.trans epl) hq1 hqr n0 n1) (by omega) (fun _ => ep)
    have eo : ∀ p, p ≠ 2 * q + 1 → putF f (2 * q + 1) (c h).j.h p = f p := fun p hp => by unfold putF; rw [if_neg hp]
    unfold Stepped goS goD
    rw [hx, ew, he, if_neg (by decide), if_neg (by decide), hs']
    refine ⟨l, ly, pv, Q.of I2 ?_ (fun _ _ => rfl) (ej.trans (Q.jb h hh)) (by rw [et]; exact Q.told h hh) (by omega) (fun _ _ => ?_) (fun h _ => absurd (by rw [ej]; exact hk) h) (fun h _ => absurd (by rw [ej]; exact hk) h) (fun _ _ => rfl) ?_, .inr (.inr (.inr (.inr (.inr ⟨?_, ?_, ?_, ?_, ?_, rfl, rfl, rfl⟩))))⟩
    · rw [Q.vals]
      refine List.map_congr_left (fun p hp => (eo _ (fun e => ?_)).symm)
      have : p = q := by omega
      subst this
      exact n0 hp
    · rw [ep, hq, ej]
      unfold putF
      rw [if_pos rfl]
    · intro j hj hne h3
      obtain ⟨p, e, h1, _⟩ := (Q.pi.own j hj).hold h3
      have := Q.pi.sep j h hj hh hne h3 (by omega)
      exact eo _ (by omega)
    all_goals first | (unfold LA; omega) | (unfold LB; omega) | (unfold LC; omega) | (unfold LD; omega) | (unfold LE; omega)
  · have eq : preq (c h) = ⟨(c h).hand, 1, 2 * (c h).place + 1, 0, 0, true⟩ := by unfold preq; rw [if_neg (by omega), if_neg (by omega), if_neg (by omega), if_pos h0, if_neg (by omega)]
    have ex := act_ld (n := P.n) (hd := (c h).hand) (f := f) (a := 2 * (c h).place + 1) (by omega) (by omega)
    have ew := act_ldw (n := P.n) (hd := (c h).hand) (f := f) (a := 2 * (c h).place + 1) (by omega) (by omega)
    rw [← eq] at ex ew
    rw [e2] at ex
    obtain ⟨x, hx, x1, x2, x3⟩ : ∃ x, stepOf P.n f (preq (c h)) = x ∧ x.act = 1 ∧ x.at_ = 2 * (c h).place + 1 ∧ x.had = f (2 * q + 1) := ⟨_, ex, rfl, rfl, rfl⟩
    have he : pends (c h) x = false := by unfold pends; rw [if_neg (by omega), if_neg (by omega), if_neg (by omega), if_pos h0]
    obtain ⟨s', hs', ej, e0, ep, ev, et⟩ : ∃ s', pnext (c h) x = s' ∧ s'.j = (c h).j ∧ s'.st = 4 ∧ s'.place = (c h).place ∧ s'.val = f (2 * q + 1) ∧ s'.told = (c h).told := by
      refine ⟨_, rfl, ?_⟩
      unfold pnext; rw [if_neg (by omega), if_neg (by omega), if_neg (by omega), if_pos h0, if_neg (by omega), x3]; exact ⟨rfl, rfl, rfl, rfl, rfl⟩
    refine Q.quiet hh hx ew he hs' ej et (Own.bare (.inr e0) (ep.trans epl) hq1 hqr n0 n1) (by omega) (fun _ => ep) (by omega) (fun h _ => by rw [ej] at h; omega) (by omega) (fun _ _ => ?_) ?_
    · have := Q.pop3 h hh (by omega) h0
      rw [hq] at this
      rw [ev]
      exact this
    · unfold LA LB LC LD LE
      exact ⟨fun h => by omega, fun h => by omega, fun h => by omega, fun h => by omega, fun h => by omega⟩

/-- State 4: the other head is loaded. -/
theorem PQ.s4 (Q : PQ r P f c d k l ly pv) (hh : h < P.nh) (hn : P.n = 2 + 2 * r) (hk : (c h).j.kind = 1 ∨ (c h).j.kind = 2) (h0 : (c h).st = 4) : Stepped r P f c d k ly pv h := by
  have O := Q.pi.own h hh
  have hi := ont_in (c h) (n := P.n) (by omega)
  have hw := ontoN_lt (c h)
  have eq : preq (c h) = ⟨(c h).hand, 1, ont (c h).j.kind, 0, 0, true⟩ := by unfold preq; rw [if_neg (by omega), if_neg (by omega), if_neg (by omega), if_neg (by omega), if_pos h0]
  have ex := act_ld (hd := (c h).hand) (f := f) hi.1 hi.2
  have ew := act_ldw (hd := (c h).hand) (f := f) hi.1 hi.2
  rw [← eq] at ex ew
  rw [ont_at, ont_eq] at ex
  obtain ⟨x, hx, x1, x2, x3⟩ : ∃ x, stepOf P.n f (preq (c h)) = x ∧ x.act = 1 ∧ x.at_ = (ontoN (c h) : Int) ∧ x.had = f (ontoN (c h)) := ⟨_, ex, rfl, rfl, rfl⟩
  have he : pends (c h) x = false := by unfold pends; rw [if_neg (by omega), if_neg (by omega), if_neg (by omega), if_neg (by omega), if_pos h0]
  obtain ⟨s', hs', ej, e0, eh, ep, ev, et⟩ : ∃ s', pnext (c h) x = s' ∧ s'.j = (c h).j ∧ s'.st = 5 ∧ s'.head = f (ontoN (c h)) ∧ s'.place = (c h).place ∧ s'.val = (c h).val ∧ s'.told = (c h).told := by
    refine ⟨_, rfl, ?_⟩
    unfold pnext; rw [if_neg (by omega), if_neg (by omega), if_neg (by omega), if_neg (by omega), if_pos h0, x3]; exact ⟨rfl, rfl, rfl, rfl, rfl, rfl⟩
  refine Q.quiet hh hx ew he hs' ej et ⟨fun _ => by rw [ep]; exact O.hold (by omega), fun w hw' => ?_, fun h => by omega, fun h => by omega, fun h => by omega⟩ (by omega) (fun _ => ep) (by omega) (fun _ _ => by omega) (by omega) (fun h1 _ => by rw [ev]; exact Q.pop4 h hh (by rw [← ej]; exact h1) (by omega)) ?_
  · unfold Looks at hw'
    rw [ontoN_j ej] at hw'
    have e' : w = ontoN (c h) := by omega
    subst e'
    rw [eh]
    exact ⟨Q.pi.pos _ hw, Int.le_refl _, fun _ => rfl⟩
  · unfold LA LB LC LD LE
    rcases hk with hk | hk
    · have := ontoN_1 hk
      exact ⟨fun h => by omega, fun h => by omega, fun h => by omega, fun h => by omega, fun h => by omega⟩
    · have := ontoN_2 hk
      exact ⟨fun h => by omega, fun h => by omega, fun h => by omega, fun h => by omega, fun h => by omega⟩

/-- State 5: the link is stored. -/
theorem PQ.s5 (Q : PQ r P f c d k l ly pv) (hh : h < P.nh) (hn : P.n = 2 + 2 * r) (h0 : (c h).st = 5) : Stepped r P f c d k ly pv h := by
  have O := Q.pi.own h hh
  obtain ⟨q, epl, hq1, hqr, n0, n1⟩ := O.hold (by omega)
  have hq : (c h).place.toNat = q := by omega
  have e2 : (2 * (c h).place).toNat = 2 * q := by omega
  have eq : preq (c h) = ⟨(c h).hand, 2, 2 * (c h).place, 0, idx (c h).head, true⟩ := by unfold preq; rw [if_neg (by omega), if_neg (by omega), if_neg (by omega), if_neg (by omega), if_neg (by omega), if_pos h0]
  have ex := act_st (n := P.n) (hd := (c h).hand) (f := f) (a := 2 * (c h).place) (v := idx (c h).head) (by omega) (by omega)
  have ew := act_stw (n := P.n) (hd := (c h).hand) (f := f) (a := 2 * (c h).place) (v := idx (c h).head) (by omega) (by omega)
  rw [← eq] at ex ew
  rw [e2] at ew
  obtain ⟨x, hx, x1⟩ : ∃ x, stepOf P.n f (preq (c h)) = x ∧ x.act = 2 := ⟨_, ex, rfl⟩
  have he : pends (c h) x = false := by unfold pends; rw [if_neg (by omega), if_neg (by omega), if_neg (by omega), if_neg (by omega), if_neg (by omega), if_pos h0]
  obtain ⟨s', hs', ej, e0, eh, ep, ev, et⟩ : ∃ s', pnext (c h) x = s' ∧ s'.j = (c h).j ∧ s'.st = 6 ∧ s'.head = (c h).head ∧ s'.place = (c h).place ∧ s'.val = (c h).val ∧ s'.told = (c h).told := by
    refine ⟨_, rfl, ?_⟩
    unfold pnext; rw [if_neg (by omega), if_neg (by omega), if_neg (by omega), if_neg (by omega), if_neg (by omega), if_pos h0]; exact ⟨rfl, rfl, rfl, rfl, rfl, rfl⟩
  have I1 := Q.pi.put (i := 2 * q) (v := idx (c h).head) (by omega) (fun w hw p hp e => by
    have e' : p = q := by omega
    subst e'
    have : w = 0 ∨ w = 1 := by omega
    rcases this with rfl | rfl
    · exact n0 hp
    · exact n1 hp) (fun j hj h6 => by
    by_cases e : j = h
    · subst e; omega
    · obtain ⟨p, e', h1, _⟩ := (Q.pi.own j hj).hold (by omega)
      have := Q.pi.sep j h hj hh e (by omega) (by omega)
      omega)
  have eo : ∀ p, p ≠ 2 * q → putF f (2 * q) (idx (c h).head) p = f p := fun p hp => by unfold putF; rw [if_neg hp]
  have I2 := I1.turn hh (s' := s') ⟨fun _ => ⟨q, ep.trans epl, hq1, hqr, n0, n1⟩, fun w hw => by
      have hw2 := hw.lt
      unfold Looks at hw
      rw [ontoN_j ej] at hw
      rw [eo _ (by omega), eh]
      exact O.look w (.inr ⟨.inl h0, by omega⟩), fun h => by omega, fun h => by omega, fun _ => by
      rw [ep, hq, eh]
      unfold putF
      rw [if_pos rfl]⟩ (by omega) (fun _ => ep)
  unfold Stepped goS goD
  rw [hx, ew, he, if_neg (by decide), if_neg (by decide), hs']
  refine ⟨l, ly, pv, Q.of I2 ?_ (fun _ _ => rfl) (ej.trans (Q.jb h hh)) (by rw [et]; exact Q.told h hh) (by omega) (fun h1 _ => ?_) (fun _ h => by omega) (fun h1 _ => by rw [ev]; exact Q.pop4 h hh (by rw [← ej]; exact h1) (by omega)) (fun _ _ => rfl) ?_, .inr (.inr (.inr (.inr (.inr ⟨?_, ?_, ?_, ?_, ?_, rfl, rfl, rfl⟩))))⟩
  · rw [Q.vals]
    exact List.map_congr_left (fun p hp => (eo _ (by omega)).symm)
  · rw [ep, eo _ (by omega), ej]
    exact Q.push h hh (by rw [← ej]; exact h1) (by omega)
  · intro j hj hne h3
    exact eo _ (by omega)
  all_goals first | (unfold LA; omega) | (unfold LB; omega) | (unfold LC; omega) | (unfold LD; omega) | (unfold LE; omega)

/-- State 6: the other head is turned, or not. -/
theorem PQ.s6 (Q : PQ r P f c d k l ly pv) (hh : h < P.nh) (hn : P.n = 2 + 2 * r) (hb : k < 4294967295) (hr : r < 4294967296) (hk : (c h).j.kind = 1 ∨ (c h).j.kind = 2) (h0 : (c h).st = 6) : Stepped r P f c d k ly pv h := by
  have O := Q.pi.own h hh
  obtain ⟨q0, epl0, hq1, hqr, n0, n1⟩ := O.hold (by omega)
  have hi := ont_in (c h) (n := P.n) (by omega)
  have hw := ontoN_lt (c h)
  have eq : preq (c h) = ⟨(c h).hand, 5, ont (c h).j.kind, (c h).head, bump (c h).head (c h).place, true⟩ := by unfold preq; rw [if_neg (by omega), if_neg (by omega), if_neg (by omega), if_neg (by omega), if_neg (by omega), if_neg (by omega)]
  by_cases hz : f (ontoN (c h)) = (c h).head
  · have hz' : f (ont (c h).j.kind).toNat = (c h).head := by rw [ont_at]; exact hz
    have ex := act_ca (hd := (c h).hand) (v := bump (c h).head (c h).place) hi.1 hi.2 hz'
    have ew := act_caw (hd := (c h).hand) (v := bump (c h).head (c h).place) hi.1 hi.2 hz'
    rw [← eq] at ew
    rw [ont_at] at ew
    obtain ⟨x, hx, x1, x2, x3⟩ : ∃ x, stepOf P.n f (preq (c h)) = x ∧ x.act = 5 ∧ x.at_ = (ontoN (c h) : Int) ∧ x.ok = true := ⟨_, (congrArg (stepOf P.n f) eq).trans ex, rfl, ont_eq _, rfl⟩
    have he : pends (c h) x = true := by unfold pends; rw [if_neg (by omega), if_neg (by omega), if_neg (by omega), if_neg (by omega), if_neg (by omega), if_neg (by omega)]; exact x3
    have hnx : (pnext (c h) x).told = ⟨true, if (c h).j.kind = 1 then (c h).place else (c h).val⟩ := by unfold pnext; rw [if_neg (by omega), if_neg (by omega), if_neg (by omega), if_neg (by omega), if_neg (by omega), if_neg (by omega), if_pos x3]
    unfold Stepped goS goD
    rw [hx, ew, he, if_pos rfl, if_pos rfl, hnx]
    obtain ⟨s', es, e0, ej, et⟩ : ∃ s' : PiS, (⟨h, P.jb h (d h + 1), 0, 0, 0, 0, 0, ⟨false, 0⟩⟩ : PiS) = s' ∧ s'.st = 0 ∧ s'.j = P.jb h (d h + 1) ∧ s'.told.ok = false := ⟨_, rfl, rfl, rfl, rfl⟩
    rw [es]
    obtain ⟨q, epl, I'⟩ := Q.pi.lay hb hr hh h0 hz e0
    have eqq : q = q0 := by omega
    subst eqq
    have hq : (c h).place.toNat = q := by omega
    have eo : ∀ (v : Int) (p : Nat), 2 ≤ p → putF f (ontoN (c h)) v p = f p := fun v p hp => by unfold putF; rw [if_neg (by omega)]
    have hoth : ∀ (v : Int) j, j < P.nh → j ≠ h → 3 ≤ (c j).st → putF f (ontoN (c h)) v (2 * (c j).place.toNat + 1) = f (2 * (c j).place.toNat + 1) := by
      intro v j hj _ h3
      obtain ⟨p, e, h1, _⟩ := (Q.pi.own j hj).hold h3
      exact eo _ _ (by omega)
    rcases hk with hk | hk
    · have e1 := ontoN_1 hk
      refine ⟨_, (c h).j.h :: ly, pv, Q.of I' ?_ (fun j hj => upd_other _ _ hj) (by rw [upd_same]; exact ej) et (by omega) (fun _ _ => by omega) (fun _ _ => by omega) (fun _ _ => by omega) (fun _ _ => rfl) (hoth _), .inr (.inl ⟨⟨hk, by rw [x2, e1]; rfl, x1, x3⟩, rfl, rfl, rfl, rfl⟩)⟩
      have hp := Q.push h hh hk (by omega)
      rw [hq] at hp
      have el : updL l (ontoN (c h)) (q :: l (ontoN (c h))) 0 = q :: l 0 := by rw [e1, updL_same]
      rw [el, List.map_cons, eo _ _ (by omega), hp, Q.vals]
      congr 1
      exact List.map_congr_left (fun p hp => (eo _ _ (by have := (Q.pi.ch 0 (by omega)).low p hp; omega)).symm)
    · have e1 := ontoN_2 hk
      refine ⟨_, ly, pv, Q.of I' ?_ (fun j hj => upd_other _ _ hj) (by rw [upd_same]; exact ej) et (by omega) (fun _ _ => by omega) (fun _ _ => by omega) (fun _ _ => by omega) (fun _ _ => rfl) (hoth _), .inr (.inr (.inr (.inr (.inl ⟨⟨hk, by rw [x2, e1]; rfl, x1, x3⟩, rfl, rfl, ?_, rfl, rfl⟩))))⟩
      · rw [updL_other _ _ (by omega), Q.vals]
        exact List.map_congr_left (fun p hp => (eo _ _ (by have := (Q.pi.ch 0 (by omega)).low p hp; omega)).symm)
      · show (if (c h).j.kind = 1 then (c h).place else (c h).val) = pv h
        rw [if_neg (by omega)]
        exact Q.pop4 h hh (by omega) (by omega)
  · have hz' : ¬ f (ont (c h).j.kind).toNat = (c h).head := by rw [ont_at]; exact hz
    have ex := act_no (hd := (c h).hand) (v := bump (c h).head (c h).place) hi.1 hi.2 hz'
    have ew := act_now (hd := (c h).hand) (v := bump (c h).head (c h).place) hi.1 hi.2 hz'
    rw [← eq] at ex ew
    obtain ⟨x, hx, x1, x3⟩ : ∃ x, stepOf P.n f (preq (c h)) = x ∧ x.act = 5 ∧ x.ok = false := ⟨_, ex, rfl, rfl⟩
    have he : pends (c h) x = false := by unfold pends; rw [if_neg (by omega), if_neg (by omega), if_neg (by omega), if_neg (by omega), if_neg (by omega), if_neg (by omega)]; exact x3
    obtain ⟨s', hs', ej, e0, ep, ev, et⟩ : ∃ s', pnext (c h) x = s' ∧ s'.j = (c h).j ∧ s'.st = 4 ∧ s'.place = (c h).place ∧ s'.val = (c h).val ∧ s'.told = (c h).told := by
      refine ⟨_, rfl, ?_⟩
      unfold pnext; rw [if_neg (by omega), if_neg (by omega), if_neg (by omega), if_neg (by omega), if_neg (by omega), if_neg (by omega), x3]; exact ⟨rfl, rfl, rfl, rfl, rfl⟩
    refine Q.quiet hh hx ew he hs' ej et (Own.bare (.inr e0) (ep.trans epl0) hq1 hqr n0 n1) (by omega) (fun _ => ep) (by omega) (fun _ h => by omega) (by omega) (fun h1 _ => by rw [ev]; exact Q.pop4 h hh (by rw [← ej]; exact h1) (by omega)) ?_
    unfold LA LB LC LD LE
    rw [x3, x1]
    exact ⟨fun h => by omega, fun h => (nomatch h.2.2.2), fun h => by omega, fun h => (nomatch h.2.2.2), fun h => (nomatch h.2.2.2)⟩

theorem PQ.step (Q : PQ r P f c d k l ly pv) (hh : h < P.nh) (hn : P.n = 2 + 2 * r) (hb : k < 4294967295) (hr : r < 4294967296) (hk : (c h).j.kind = 1 ∨ (c h).j.kind = 2) : Stepped r P f c d k ly pv h := by
  have hs := Q.rng h hh
  have : (c h).st = 0 ∨ (c h).st = 1 ∨ (c h).st = 2 ∨ (c h).st = 3 ∨ (c h).st = 4 ∨ (c h).st = 5 ∨ (c h).st = 6 := by omega
  rcases this with e | e | e | e | e | e | e
  · exact Q.s0 hh hn hk e
  · exact Q.s1 hh hn e
  · exact Q.s2 hh hn hb hk e
  · exact Q.s3 hh hn hk e
  · exact Q.s4 hh hn hk e
  · exact Q.s5 hh hn e
  · exact Q.s6 hh hn hb hr hk e
end
end Pile
end Go.Proofs.Ytbjlpmahomjgjaa

namespace Go.Proofs.Ytbjlpmahomjgjaa

variable {K : Kd} {P : Par} {f : Nat → Int}

theorem run_succ_cases (P : Par) (s : St K) (h0 : s.k = 0) (m : Nat) : (runSt P s (m + 1) = runSt P s m ∧ (runSt P s m).turn P < 0) ∨
    ∃ h : Nat, (runSt P s m).turn P = h ∧ h < P.nh ∧ (runSt P s m).done h < P.jn h ∧ (runSt P s m).k = m ∧ runSt P s (m + 1) = stepSt P (runSt P s m) h := by
  rcases turn_ok P (runSt P s m) with ⟨ht, _⟩ | ⟨h, ht, hh, hd⟩
  · left
    refine ⟨?_, by rw [ht]; decide⟩
    show (if _ then _ else _) = _
    rw [if_pos (by rw [ht]; decide)]
  · right
    refine ⟨h, ht, hh, hd, ?_, runSt_step ht⟩
    have hk := runSt_k P s h0 m
    rcases Nat.lt_or_ge (runSt P s m).k m with l | l
    · have := hk.2 l; rw [ht] at this; omega
    · omega

/-- Each step of a run. -/
theorem hist (P : Par) (s : St K) (h0 : s.k = 0) : ∀ m i, i < (runSt P s m).k → (runSt P s i).k = i ∧ (∃ h : Nat, (runSt P s i).turn P = h ∧ h < P.nh ∧ (runSt P s i).done h < P.jn h ∧ runSt P s (i + 1) = stepSt P (runSt P s i) h) ∧ (runSt P s m).s i = (runSt P s (i + 1)).s i
  | 0, i, hi => by have : (runSt P s 0).k = 0 := h0; omega
  | m + 1, i, hi => by
    rcases run_succ_cases P s h0 m with ⟨e, _⟩ | ⟨h, ht, hh, hd, hk, e⟩
    · rw [e] at hi ⊢
      exact hist P s h0 m i hi
    · have hk1 : (runSt P s (m + 1)).k = m + 1 := by rw [e]; show (runSt P s m).k + 1 = _; rw [hk]
      rw [hk1] at hi
      by_cases him : i = m
      · subst him
        exact ⟨hk, ⟨h, ht, hh, hd, e⟩, rfl⟩
      · obtain ⟨a, b, c⟩ := hist P s h0 m i (by rw [hk]; omega)
        refine ⟨a, b, ?_⟩
        rw [← c, e]
        show upd (runSt P s m).s (runSt P s m).k _ i = _
        rw [upd_other _ _ (by omega)]

theorem step_done (P : Par) (st : St K) (h h' : Nat) : st.done h' ≤ (stepSt P st h).done h' ∧ ∀ j, j < st.done h' → (stepSt P st h).ans h' j = st.ans h' j := by
  simp only [stepSt]
  split
  · by_cases e : h' = h
    · subst e
      rw [upd_same, upd_same]
      exact ⟨by omega, fun j hj => upd_other _ _ (by omega)⟩
    · rw [upd_other _ _ e, upd_other _ _ e]
      exact ⟨Nat.le_refl _, fun _ _ => rfl⟩
  · exact ⟨Nat.le_refl _, fun _ _ => rfl⟩

/-- What was told stays told. -/
theorem stays (P : Par) (s : St K) (h0 : s.k = 0) (i h' : Nat) : ∀ d, (runSt P s i).done h' ≤ (runSt P s (i + d)).done h' ∧ ∀ j, j < (runSt P s i).done h' → (runSt P s (i + d)).ans h' j = (runSt P s i).ans h' j
  | 0 => ⟨Nat.le_refl _, fun _ _ => rfl⟩
  | d + 1 => by
    obtain ⟨a, b⟩ := stays P s h0 i h' d
    rcases run_succ_cases P s h0 (i + d) with ⟨e, _⟩ | ⟨h, ht, hh, hd, hk, e⟩
    · rw [show i + (d + 1) = i + d + 1 by omega, e]
      exact ⟨a, b⟩
    · rw [show i + (d + 1) = i + d + 1 by omega, e]
      obtain ⟨x, y⟩ := step_done P (runSt P s (i + d)) h h'
      exact ⟨by omega, fun j hj => (y j (by omega)).trans (b j hj)⟩

/-- A run as long as its steps is the whole run. -/
theorem run_at_k (P : Par) (s : St K) (h0 : s.k = 0) (m : Nat) : runSt P s (runSt P s m).k = runSt P s m := by
  obtain ⟨h1, h2⟩ := runSt_k P s h0 m
  rcases Nat.lt_or_ge (runSt P s m).k m with l | l
  · -- the first time that none goes on
    induction m with
    | zero => omega
    | succ m ih =>
      rcases run_succ_cases P s h0 m with ⟨e, ht⟩ | ⟨h, ht, hh, hd, hk, e⟩
      · rw [e]
        obtain ⟨h1', h2'⟩ := runSt_k P s h0 m
        rcases Nat.lt_or_ge (runSt P s m).k m with l' | l'
        · exact ih h1' h2' l'
        · rw [show (runSt P s m).k = m by omega]
      · have : (runSt P s (m + 1)).k = m + 1 := by rw [e]; show (runSt P s m).k + 1 = _; rw [hk]
        omega
  · rw [show (runSt P s m).k = m by omega]

end Go.Proofs.Ytbjlpmahomjgjaa
