/-
  Lemmas: PileH, PileV, PileT, RunW, PileS, PileOX.
-/
import Derived.Test.YtohjlcmekkllgaaTr10
import Derived.Test.YtohjlcmekkllgaaTp20
/-
  The pile by every schedule: the run from fresh words, step by step.
-/
namespace Go.Proofs.Ytohjlcmekkllgaa
open Go.RowKit
set_option linter.unusedVariables false
set_option linter.unusedSimpArgs false
namespace Pile

/-- The state of a run, with what lies there. -/
def PR (r : Nat) (P : Par) (st : St kPile) (l : Nat → List Nat) (ly : List Int) (pv : Nat → Int) : Prop := PQ r P st.f st.cur st.done st.k l ly pv

theorem pr_start {r : Nat} {P : Par} (h1 : 1 ≤ r) (h2 : r ≤ 64) : PR r P (st0 kPile P (pfr r)) (fun w => if w = 0 then [] else List.range' 1 r) [] (fun _ => 0) := by
  have p0 : pfr r 0 = 0 := by unfold pfr; rw [if_neg (by omega), if_neg (by omega)]
  have p1 : pfr r 1 = 1 := by unfold pfr; rw [if_pos rfl]
  refine ⟨⟨fun w hw => ?_, fun w hw q hq => ?_, fun w hw => ?_, fun q h0 _ => ?_, fun w hw => (pfr_bounds h2 w).1, fun w hw => ?_, fun h _ => Own.idle rfl, fun h h' _ _ _ h3 _ => ?_, ?_⟩, rfl, fun _ _ => rfl, fun _ _ => ⟨Int.le_refl 0, show (0 : Int) ≤ 6 by decide⟩, fun _ _ _ h4 => ?_, fun _ _ _ h3 => ?_, fun _ _ _ h4 => ?_, fun _ _ => rfl⟩
  · have : w = 0 ∨ w = 1 := by omega
    rcases this with rfl | rfl
    · exact fresh_top r
    · exact fresh_spare h1 h2
  · have : w = 0 ∨ w = 1 := by omega
    rcases this with rfl | rfl
    · cases hq
    · have hq' : q ∈ List.range' 1 r := hq
      rw [List.mem_range'_1] at hq'
      omega
  · have : w = 0 ∨ w = 1 := by omega
    rcases this with rfl | rfl
    · exact List.nodup_nil
    · exact List.nodup_range'
  · cases h0
  · have : w = 0 ∨ w = 1 := by omega
    rcases this with rfl | rfl
    · show tag (pfr r 0) ≤ 0
      rw [p0]; decide
    · show tag (pfr r 1) ≤ 0
      rw [p1]; decide
  · exact absurd (show (3 : Int) ≤ 0 from h3) (by decide)
  · have e : cnt (holds (st0 kPile P (pfr r)).cur) P.nh = 0 := cnt_none (fun i _ => rfl)
    rw [e]
    show 0 + (List.range' 1 r).length + 0 = r
    rw [List.length_range']
    omega
  · exact absurd (show (4 : Int) ≤ 0 from h4) (by decide)
  · exact absurd (show (0 : Int) = 3 from h3) (by decide)
  · exact absurd (show (4 : Int) ≤ 0 from h4) (by decide)

theorem cur_same {K : Kd} (P : Par) (st : St K) (h : Nat) : (stepSt P st h).cur h = (if K.ends (st.cur h) (stepOf P.n st.f (K.req (st.cur h))) = true then K.init h (P.jb h (st.done h + 1)) else K.next (st.cur h) (stepOf P.n st.f (K.req (st.cur h)))) := upd_same _ _ _
theorem cur_other {K : Kd} (P : Par) (st : St K) {h h' : Nat} (e : h' ≠ h) : (stepSt P st h).cur h' = st.cur h' := upd_other _ _ e
theorem done_goes {K : Kd} (P : Par) (st : St K) {h : Nat} (e : ¬ K.ends (st.cur h) (stepOf P.n st.f (K.req (st.cur h))) = true) : (stepSt P st h).done = st.done := if_neg e
theorem done_ends {K : Kd} (P : Par) (st : St K) {h : Nat} (e : K.ends (st.cur h) (stepOf P.n st.f (K.req (st.cur h))) = true) : (stepSt P st h).done = upd st.done h (st.done h + 1) := if_pos e
theorem done_other {K : Kd} (P : Par) (st : St K) {h h' : Nat} (e : h' ≠ h) : (stepSt P st h).done h' = st.done h' := by
  by_cases he : K.ends (st.cur h) (stepOf P.n st.f (K.req (st.cur h))) = true
  · rw [done_ends P st he]; exact upd_other _ _ e
  · rw [done_goes P st he]
theorem ans_ends {K : Kd} (P : Par) (st : St K) {h : Nat} (e : K.ends (st.cur h) (stepOf P.n st.f (K.req (st.cur h))) = true) : (stepSt P st h).ans h (st.done h) = K.tell (K.next (st.cur h) (stepOf P.n st.f (K.req (st.cur h)))) := by
  have h1 : (stepSt P st h).ans = upd st.ans h (upd (st.ans h) (st.done h) (K.tell (K.next (st.cur h) (stepOf P.n st.f (K.req (st.cur h)))))) := if_pos e
  rw [h1, upd_same, upd_same]
/-- One step of a run. -/
theorem PR.go {r : Nat} {P : Par} {st : St kPile} {l : Nat → List Nat} {ly : List Int} {pv : Nat → Int} (Q : PR r P st l ly pv) {h : Nat} (hh : h < P.nh) (hd : st.done h < P.jn h) (hn : P.n = 2 + 2 * r) (hb : st.k < 4294967295) (hr : r < 4294967296) (hok : AllOk kPile P) :
    ∃ l' ly' pv' e a, PR r P (stepSt P st h) l' ly' pv' ∧ SC h (P.jb h (st.done h)) ((stepSt P st h).s st.k) ly ly' pv pv' e a ∧ (e = true → (stepSt P st h).done = upd st.done h (st.done h + 1) ∧ (stepSt P st h).ans h (st.done h) = a) ∧ (e = false → (stepSt P st h).done = st.done) := by
  have hk : (P.jb h (st.done h)).kind = 1 ∨ (P.jb h (st.done h)).kind = 2 := by
    have h2 : perr (P.jb h (st.done h)) = 0 := hok h hh _ hd
    unfold perr at h2
    split at h2
    · exact .inl (by assumption)
    · split at h2
      · exact .inr (by assumption)
      · cases h2
  have ej := Q.jb h hh
  obtain ⟨l', ly', pv', Q', S⟩ := Q.step hh hn hb hr (by rw [ej]; exact hk)
  rw [ej] at S
  refine ⟨l', ly', pv', pends (st.cur h) (stepOf P.n st.f (preq (st.cur h))), (pnext (st.cur h) (stepOf P.n st.f (preq (st.cur h)))).told, Q', ?_, fun he => ?_, fun he => ?_⟩
  · show SC _ _ (upd st.s st.k _ st.k) _ _ _ _ _ _
    rw [upd_same]
    exact S
  · have he' : kPile.ends (st.cur h) (stepOf P.n st.f (kPile.req (st.cur h))) = true := he
    exact ⟨done_ends P st he', ans_ends P st he'⟩
  · have he' : ¬ kPile.ends (st.cur h) (stepOf P.n st.f (kPile.req (st.cur h))) = true := by
      intro h'
      have := he.symm.trans h'
      cases this
    exact done_goes P st he'

theorem pr_run {r : Nat} {P : Par} (h1 : 1 ≤ r) (h2 : r ≤ 64) (hn : P.n = 2 + 2 * r) (hok : AllOk kPile P) : ∀ m, m < 4294967295 → ∃ l ly pv, PR r P (runSt P (st0 kPile P (pfr r)) m) l ly pv
  | 0, _ => ⟨_, _, _, pr_start h1 h2⟩
  | m + 1, hm => by
    obtain ⟨l, ly, pv, Q⟩ := pr_run h1 h2 hn hok m (by omega)
    rcases run_succ_cases P (st0 kPile P (pfr r)) rfl m with ⟨e, _⟩ | ⟨h, ht, hh, hd, hk, e⟩
    · rw [e]; exact ⟨l, ly, pv, Q⟩
    · rw [e]
      obtain ⟨l', ly', pv', _, _, Q', _⟩ := Q.go hh hd hn (by omega) (by omega) hok
      exact ⟨l', ly', pv', Q'⟩

/-- The hand of a step. -/
theorem pnext_hand (s : PiS) (x : Stp) : (pnext s x).hand = s.hand := by
  unfold pnext
  repeat' split
  all_goals rfl
theorem preq_hand (s : PiS) : (preq s).hand = s.hand := by
  unfold preq
  repeat' split
  all_goals rfl
theorem stepOf_hand (n : Nat) (f : Nat → Int) (q : Stp) : (stepOf n f q).hand = q.hand := by
  unfold stepOf
  split <;> rfl
def handOf (s : kPile.σ) : Int := PiS.hand s
def stOf (s : kPile.σ) : Int := PiS.st s
theorem hand_run (P : Par) (f : Nat → Int) (h : Nat) : ∀ m, handOf ((runSt P (st0 kPile P f) m).cur h) = h
  | 0 => rfl
  | m + 1 => by
    have ih := hand_run P f h m
    rcases run_succ_cases P (st0 kPile P f) rfl m with ⟨e, _⟩ | ⟨h', ht, hh, hd, hk, e⟩
    · rw [e]; exact ih
    · rw [e]
      by_cases eh : h = h'
      · subst eh
        rw [cur_same]
        split
        · rfl
        · exact (pnext_hand _ _).trans ih
      · rw [cur_other _ _ eh]; exact ih
/-- A hand whose jobs have ended holds nothing. -/
theorem idle_run (P : Par) (f : Nat → Int) (h : Nat) : ∀ m, P.jn h ≤ (runSt P (st0 kPile P f) m).done h → stOf ((runSt P (st0 kPile P f) m).cur h) = 0
  | 0, _ => rfl
  | m + 1, hm => by
    rcases run_succ_cases P (st0 kPile P f) rfl m with ⟨e, _⟩ | ⟨h', ht, hh, hd, hk, e⟩
    · rw [e] at hm ⊢; exact idle_run P f h m hm
    · rw [e] at hm ⊢
      by_cases eh : h = h'
      · subst eh
        rw [cur_same]
        split
        · rfl
        · rename_i he
          rw [done_goes P _ he] at hm
          omega
      · rw [cur_other _ _ eh]
        rw [done_other _ _ eh] at hm
        exact idle_run P f h m hm
theorem step_hand {P : Par} {f : Nat → Int} {m h : Nat} : ((stepSt P (runSt P (st0 kPile P f) m) h).s (runSt P (st0 kPile P f) m).k).hand = h := by
  have e : (stepSt P (runSt P (st0 kPile P f) m) h).s (runSt P (st0 kPile P f) m).k = stepOf P.n (runSt P (st0 kPile P f) m).f (kPile.req ((runSt P (st0 kPile P f) m).cur h)) := upd_same _ _ _
  rw [e, stepOf_hand]
  exact (preq_hand _).trans (hand_run P f h m)

/-- Behind a run that has ended all places lie in the two lists, each once. -/
theorem pr_whole {r : Nat} {P : Par} {m : Nat} {l : Nat → List Nat} {ly : List Int} {pv : Nat → Int} (Q : PR r P (runSt P (st0 kPile P (pfr r)) m) l ly pv) (he : ∀ h, h < P.nh → P.jn h ≤ (runSt P (st0 kPile P (pfr r)) m).done h) : (l 0).length + (l 1).length = r ∧ (l 0 ++ l 1).Nodup ∧ ∀ q, q ∈ l 0 ++ l 1 → 1 ≤ q ∧ q ≤ r := by
  have I := Q.pi
  refine ⟨?_, ?_, fun q hq => ?_⟩
  · have := I.all
    have e : cnt (holds (runSt P (st0 kPile P (pfr r)) m).cur) P.nh = 0 := cnt_none (fun h hh => by
      have := idle_run P (pfr r) h m (he h hh)
      exact decide_eq_false (fun h3 => by have h4 : 3 ≤ stOf ((runSt P (st0 kPile P (pfr r)) m).cur h) := h3; omega))
    rw [e] at this
    exact this
  · refine List.nodup_append.2 ⟨I.nd 0 (by omega), I.nd 1 (by omega), fun a ha b hb e => ?_⟩
    subst e
    exact I.dis a ha hb
  · rcases List.mem_append.1 hq with hq | hq
    · exact ⟨(I.ch 0 (by omega)).low q hq, I.rng 0 (by omega) q hq⟩
    · exact ⟨(I.ch 1 (by omega)).low q hq, I.rng 1 (by omega) q hq⟩
end Pile
end Go.Proofs.Ytohjlcmekkllgaa

/-
  The pile by every schedule: value by value, what was pushed is what was popped, what lies there and what a pop under way has got.
-/
namespace Go.Proofs.Ytohjlcmekkllgaa
open Go.RowKit
set_option linter.unusedVariables false
set_option linter.unusedSimpArgs false
namespace Pile

def sumC (a : Nat → Nat) : Nat → Nat
  | 0 => 0
  | n + 1 => sumC a n + a n
theorem sumC_congr {a b : Nat → Nat} : ∀ n, (∀ i, i < n → a i = b i) → sumC a n = sumC b n
  | 0, _ => rfl
  | n + 1, h => by rw [sumC, sumC, sumC_congr n (fun i hi => h i (by omega)), h n (by omega)]
theorem sumC_one {a b : Nat → Nat} {h : Nat} (he : ∀ j, j ≠ h → b j = a j) : ∀ n, h < n → sumC b n + a h = sumC a n + b h
  | 0, hn => absurd hn (Nat.not_lt_zero _)
  | n + 1, hn => by
    by_cases e : h = n
    · subst e
      rw [sumC, sumC, sumC_congr h (fun i hi => he i (by omega))]
      omega
    · have := sumC_one he n (by omega)
      rw [sumC, sumC, he n (Ne.symm e)]
      omega

def isPush (P : Par) (st : St kPile) (v : Int) (h k : Nat) : Bool := decide ((P.jb h k).kind = 1 ∧ (st.ans h k).ok = true ∧ (P.jb h k).h = v)
def isPop (P : Par) (st : St kPile) (v : Int) (h k : Nat) : Bool := decide ((P.jb h k).kind = 2 ∧ (st.ans h k).ok = true ∧ (st.ans h k).val = v)
def pushes (P : Par) (st : St kPile) (v : Int) : Nat := sumC (fun h => cnt (isPush P st v h) (st.done h)) P.nh
def pops (P : Par) (st : St kPile) (v : Int) : Nat := sumC (fun h => cnt (isPop P st v h) (st.done h)) P.nh
def has (s : PiS) : Prop := 3 ≤ s.st ∧ s.j.kind = 2
instance (s : PiS) : Decidable (has s) := by unfold has; exact inferInstance
def hasN (s : PiS) (v p : Int) : Nat := if has s ∧ p = v then 1 else 0
def under (P : Par) (c : Nat → PiS) (pv : Nat → Int) (v : Int) : Nat := sumC (fun h => hasN (c h) v (pv h)) P.nh

structure PVal (r : Nat) (P : Par) (st : St kPile) (l : Nat → List Nat) (ly : List Int) (pv : Nat → Int) : Prop where
  pr : PR r P st l ly pv
  eq : ∀ v, pushes P st v = pops P st v + ly.count v + under P st.cur pv v

theorem pv_start {r : Nat} {P : Par} (h1 : 1 ≤ r) (h2 : r ≤ 64) : PVal r P (st0 kPile P (pfr r)) (fun w => if w = 0 then [] else List.range' 1 r) [] (fun _ => 0) := by
  refine ⟨pr_start h1 h2, fun v => ?_⟩
  have z : ∀ n, sumC (fun _ => 0) n = 0 := fun n => by
    induction n with
    | zero => rfl
    | succ n ih => rw [sumC, ih]
  have e1 : pushes P (st0 kPile P (pfr r)) v = 0 := (sumC_congr _ (fun _ _ => rfl)).trans (z P.nh)
  have e2 : pops P (st0 kPile P (pfr r)) v = 0 := (sumC_congr _ (fun _ _ => rfl)).trans (z P.nh)
  have e3 : under P (st0 kPile P (pfr r)).cur (fun _ => 0) v = 0 := (sumC_congr _ (fun h _ => by
    show hasN _ _ _ = 0
    unfold hasN
    exact if_neg (fun hh => absurd (show (3 : Int) ≤ 0 from hh.1.1) (by decide)))).trans (z P.nh)
  rw [e1, e2, e3]
  rfl

/-- Whether a pop under way holds a place, behind a step that ends nothing and takes nothing off the top. -/
theorem has_next {n : Nat} {f : Nat → Int} {s : PiS} (hn : 2 ≤ n) (hs : 0 ≤ s.st ∧ s.st ≤ 6) (he : pends s (stepOf n f (preq s)) = false) (hD : ¬ LD s.j (stepOf n f (preq s))) : has (pnext s (stepOf n f (preq s))) ↔ has s := by
  have ej : (pnext s (stepOf n f (preq s))).j = s.j := pnext_j _ _
  unfold has
  rw [ej]
  by_cases k2 : s.j.kind = 2
  · have h01 : (3 ≤ (pnext s (stepOf n f (preq s))).st ↔ 3 ≤ s.st) := by
      have : s.st = 0 ∨ s.st = 1 ∨ s.st = 2 ∨ s.st = 3 ∨ s.st = 4 ∨ s.st = 5 ∨ s.st = 6 := by omega
      rcases this with e | e | e | e | e | e | e
      · generalize stepOf n f (preq s) = x
        unfold pnext
        rw [if_pos e]
        show 3 ≤ (if idx x.had = 0 then (0 : Int) else 1) ↔ _
        split <;> omega
      · generalize stepOf n f (preq s) = x
        unfold pnext
        rw [if_neg (by omega), if_pos e]
        show (3 : Int) ≤ 2 ↔ _
        omega
      · have eq : preq s = ⟨s.hand, 5, frm s.j.kind, s.head, bump s.head (idx s.low), true⟩ := by unfold preq; rw [if_neg (by omega), if_neg (by omega), if_pos e]
        have hi := frm_in s hn
        have ho : (stepOf n f (preq s)).ok = false := by
          cases ho : (stepOf n f (preq s)).ok with
          | false => rfl
          | true =>
            refine absurd ⟨k2, ?_, ?_, ho⟩ hD
            · rw [eq]
              unfold stepOf
              rw [if_pos hi]
              show frm s.j.kind = 0
              rw [frm_eq, fromN_2 k2]; rfl
            · rw [eq]
              unfold stepOf
              rw [if_pos hi]
              rfl
        generalize stepOf n f (preq s) = x at *
        unfold pnext
        rw [if_neg (by omega), if_neg (by omega), if_pos e, ho]
        show (3 : Int) ≤ 0 ↔ _
        omega
      · generalize stepOf n f (preq s) = x
        unfold pnext
        rw [if_neg (by omega), if_neg (by omega), if_neg (by omega), if_pos e, if_neg (by omega)]
        show (3 : Int) ≤ 4 ↔ _
        omega
      · generalize stepOf n f (preq s) = x
        unfold pnext
        rw [if_neg (by omega), if_neg (by omega), if_neg (by omega), if_neg (by omega), if_pos e]
        show (3 : Int) ≤ 5 ↔ _
        omega
      · generalize stepOf n f (preq s) = x
        unfold pnext
        rw [if_neg (by omega), if_neg (by omega), if_neg (by omega), if_neg (by omega), if_neg (by omega), if_pos e]
        show (3 : Int) ≤ 6 ↔ _
        omega
      · have ho : (stepOf n f (preq s)).ok = false := by
          unfold pends at he
          rw [if_neg (by omega), if_neg (by omega), if_neg (by omega), if_neg (by omega), if_neg (by omega), if_neg (by omega)] at he
          exact he
        generalize stepOf n f (preq s) = x at *
        unfold pnext
        rw [if_neg (by omega), if_neg (by omega), if_neg (by omega), if_neg (by omega), if_neg (by omega), if_neg (by omega), ho]
        show (3 : Int) ≤ 4 ↔ _
        omega
    rw [h01]
  · exact ⟨fun h => absurd h.2 k2, fun h => absurd h.2 k2⟩
theorem cnt_more {g g' : Nat → Bool} {n : Nat} (hg : ∀ i, i < n → g' i = g i) : cnt g' (n + 1) = cnt g n + (if g' n = true then 1 else 0) := by
  cases h : g' n with
  | true => rw [cnt_true h, cnt_congr hg]; rfl
  | false => rw [cnt_false h, cnt_congr hg]; rfl

/-- A count over the jobs that have ended, one job more. -/
theorem ended_more {P : Par} {d d' : Nat → Nat} {g g' : Nat → Nat → Bool} {h : Nat} (hh : h < P.nh) (hd : d' = upd d h (d h + 1)) (ho : ∀ j, j ≠ h → ∀ k, g' j k = g j k) (hs : ∀ k, k < d h → g' h k = g h k) :
    sumC (fun j => cnt (g' j) (d' j)) P.nh = sumC (fun j => cnt (g j) (d j)) P.nh + (if g' h (d h) = true then 1 else 0) := by
  have e1 := sumC_one (a := fun j => cnt (g j) (d j)) (b := fun j => cnt (g' j) (d' j)) (h := h) (fun j hj => by
    show cnt (g' j) (d' j) = cnt (g j) (d j)
    rw [hd, upd_other _ _ hj]
    exact cnt_congr (fun k _ => ho j hj k)) P.nh hh
  have e2 : cnt (g' h) (d' h) = cnt (g h) (d h) + (if g' h (d h) = true then 1 else 0) := by
    rw [hd, upd_same]
    exact cnt_more hs
  rw [e2] at e1
  omega

theorem ans_other {K : Kd} (P : Par) (st : St K) {h h' : Nat} (e : h' ≠ h) : (stepSt P st h).ans h' = st.ans h' := by
  by_cases he : K.ends (st.cur h) (stepOf P.n st.f (K.req (st.cur h))) = true
  · have h1 : (stepSt P st h).ans = upd st.ans h (upd (st.ans h) (st.done h) (K.tell (K.next (st.cur h) (stepOf P.n st.f (K.req (st.cur h)))))) := if_pos he
    rw [h1, upd_other _ _ e]
  · have h1 : (stepSt P st h).ans = st.ans := if_neg he
    rw [h1]
theorem ans_goes {K : Kd} (P : Par) (st : St K) {h : Nat} (he : ¬ K.ends (st.cur h) (stepOf P.n st.f (K.req (st.cur h))) = true) : (stepSt P st h).ans = st.ans := if_neg he

theorem pushes_goes {P : Par} {st : St kPile} {h : Nat} (he : ¬ kPile.ends (st.cur h) (stepOf P.n st.f (kPile.req (st.cur h))) = true) (v : Int) : pushes P (stepSt P st h) v = pushes P st v ∧ pops P (stepSt P st h) v = pops P st v := by
  unfold pushes pops isPush isPop
  rw [ans_goes P st he, done_goes P st he]
  exact ⟨rfl, rfl⟩
theorem pushes_ends {P : Par} {st : St kPile} {h : Nat} (hh : h < P.nh) (he : kPile.ends (st.cur h) (stepOf P.n st.f (kPile.req (st.cur h))) = true) (v : Int) {a : Ans} (ha : (stepSt P st h).ans h (st.done h) = a) :
    pushes P (stepSt P st h) v = pushes P st v + (if (P.jb h (st.done h)).kind = 1 ∧ a.ok = true ∧ (P.jb h (st.done h)).h = v then 1 else 0) ∧ pops P (stepSt P st h) v = pops P st v + (if (P.jb h (st.done h)).kind = 2 ∧ a.ok = true ∧ a.val = v then 1 else 0) := by
  have hd := done_ends P st he
  have hk : ∀ k, k < st.done h → (stepSt P st h).ans h k = st.ans h k := fun k hk => (step_done P st h h).2 k hk
  refine ⟨?_, ?_⟩
  · refine (ended_more (g := isPush P st v) (g' := isPush P (stepSt P st h) v) hh hd (fun j hj k => by unfold isPush; rw [ans_other P st hj]) (fun k hk' => by unfold isPush; rw [hk k hk'])).trans ?_
    unfold isPush
    rw [ha]
    simp only [decide_eq_true_eq]
    rfl
  · refine (ended_more (g := isPop P st v) (g' := isPop P (stepSt P st h) v) hh hd (fun j hj k => by unfold isPop; rw [ans_other P st hj]) (fun k hk' => by unfold isPop; rw [hk k hk'])).trans ?_
    unfold isPop
    rw [ha]
    simp only [decide_eq_true_eq]
    rfl

theorem under_one {P : Par} {st : St kPile} {pv pv' : Nat → Int} {h : Nat} (hh : h < P.nh) (hp : ∀ j, j ≠ h → pv' j = pv j) (v : Int) : under P (stepSt P st h).cur pv' v + hasN (st.cur h) v (pv h) = under P st.cur pv v + hasN ((stepSt P st h).cur h) v (pv' h) := by
  refine sumC_one (a := fun j => hasN (st.cur j) v (pv j)) (b := fun j => hasN ((stepSt P st h).cur j) v (pv' j)) (h := h) (fun j hj => ?_) P.nh hh
  show hasN ((stepSt P st h).cur j) v (pv' j) = hasN (st.cur j) v (pv j)
  rw [cur_other P st hj, hp j hj]

theorem hasN_no {s : PiS} (h : ¬ has s) (v p : Int) : hasN s v p = 0 := if_neg (fun hh => h hh.1)
theorem hasN_is {s : PiS} (h : has s) (v p : Int) : hasN s v p = if p = v then 1 else 0 := by
  unfold hasN
  by_cases e : p = v
  · rw [if_pos ⟨h, e⟩, if_pos e]
  · rw [if_neg (fun hh => e hh.2), if_neg e]

/-- Which state a step of a kind belongs to. -/
theorem st_of_act {n : Nat} {f : Nat → Int} {s : PiS} (hs : 0 ≤ s.st ∧ s.st ≤ 6) (h5 : (stepOf n f (preq s)).act = 5) : s.st = 2 ∨ s.st = 6 := by
  have e : (stepOf n f (preq s)).act = actOf (preq s).act := by unfold stepOf; split <;> rfl
  rw [e] at h5
  have : s.st = 0 ∨ s.st = 1 ∨ s.st = 2 ∨ s.st = 3 ∨ s.st = 4 ∨ s.st = 5 ∨ s.st = 6 := by omega
  rcases this with e | e | e | e | e | e | e
  · exfalso; unfold preq at h5; rw [if_pos e] at h5; first | exact absurd (show actOf 1 = 5 from h5) (by decide) | exact absurd (show actOf 2 = 5 from h5) (by decide)
  · exfalso; unfold preq at h5; rw [if_neg (by omega), if_pos e] at h5; first | exact absurd (show actOf 1 = 5 from h5) (by decide) | exact absurd (show actOf 2 = 5 from h5) (by decide)
  · exact .inl e
  · exfalso; unfold preq at h5; rw [if_neg (by omega), if_neg (by omega), if_neg (by omega), if_pos e] at h5
    split at h5
    · first | exact absurd (show actOf 1 = 5 from h5) (by decide) | exact absurd (show actOf 2 = 5 from h5) (by decide)
    · first | exact absurd (show actOf 1 = 5 from h5) (by decide) | exact absurd (show actOf 2 = 5 from h5) (by decide)
  · exfalso; unfold preq at h5; rw [if_neg (by omega), if_neg (by omega), if_neg (by omega), if_neg (by omega), if_pos e] at h5; first | exact absurd (show actOf 1 = 5 from h5) (by decide) | exact absurd (show actOf 2 = 5 from h5) (by decide)
  · exfalso; unfold preq at h5; rw [if_neg (by omega), if_neg (by omega), if_neg (by omega), if_neg (by omega), if_neg (by omega), if_pos e] at h5; first | exact absurd (show actOf 1 = 5 from h5) (by decide) | exact absurd (show actOf 2 = 5 from h5) (by decide)
  · exact .inr e
theorem stepOf_at (n : Nat) (f : Nat → Int) (q : Stp) : (stepOf n f q).at_ = q.at_ := by unfold stepOf; split <;> rfl
theorem at_2 {s : PiS} (h : s.st = 2) : (preq s).at_ = frm s.j.kind := by unfold preq; rw [if_neg (by omega), if_neg (by omega), if_pos h]
theorem at_6 {s : PiS} (h : s.st = 6) : (preq s).at_ = ont s.j.kind := by unfold preq; rw [if_neg (by omega), if_neg (by omega), if_neg (by omega), if_neg (by omega), if_neg (by omega), if_neg (by omega)]
theorem ends_st {s : PiS} {x : Stp} (hs : 0 ≤ s.st ∧ s.st ≤ 6) (he : pends s x = true) : s.st = 0 ∨ s.st = 6 := by
  have : s.st = 0 ∨ s.st = 1 ∨ s.st = 2 ∨ s.st = 3 ∨ s.st = 4 ∨ s.st = 5 ∨ s.st = 6 := by omega
  rcases this with e | e | e | e | e | e | e
  · exact .inl e
  · exfalso; unfold pends at he; rw [if_neg (by omega), if_pos e] at he; cases he
  · exfalso; unfold pends at he; rw [if_neg (by omega), if_neg (by omega), if_pos e] at he; cases he
  · exfalso; unfold pends at he; rw [if_neg (by omega), if_neg (by omega), if_neg (by omega), if_pos e] at he; cases he
  · exfalso; unfold pends at he; rw [if_neg (by omega), if_neg (by omega), if_neg (by omega), if_neg (by omega), if_pos e] at he; cases he
  · exfalso; unfold pends at he; rw [if_neg (by omega), if_neg (by omega), if_neg (by omega), if_neg (by omega), if_neg (by omega), if_pos e] at he; cases he
  · exact .inr e
theorem at_2_pop {n : Nat} {f : Nat → Int} {s : PiS} (h : s.st = 2) (k : s.j.kind = 2) : (stepOf n f (preq s)).at_ = 0 := by rw [stepOf_at, at_2 h, frm_eq, fromN_2 k]; rfl
theorem at_6_pop {n : Nat} {f : Nat → Int} {s : PiS} (h : s.st = 6) (k : s.j.kind = 2) : (stepOf n f (preq s)).at_ = 1 := by rw [stepOf_at, at_6 h, ont_eq, ontoN_2 k]; rfl
theorem next_3 {s : PiS} {x : Stp} (h : s.st = 2) (ho : x.ok = true) : (pnext s x).st = 3 := by unfold pnext; rw [if_neg (by omega), if_neg (by omega), if_pos h, ho]; rfl

theorem PVal.go {r : Nat} {P : Par} {st : St kPile} {l : Nat → List Nat} {ly : List Int} {pv : Nat → Int} (V : PVal r P st l ly pv) {h : Nat} (hh : h < P.nh) (hd : st.done h < P.jn h) (hn : P.n = 2 + 2 * r) (hb : st.k < 4294967295) (hr : r < 4294967296) (hok : AllOk kPile P) :
    ∃ l' ly' pv', PVal r P (stepSt P st h) l' ly' pv' := by
  have hk : (P.jb h (st.done h)).kind = 1 ∨ (P.jb h (st.done h)).kind = 2 := by
    have h2 : perr (P.jb h (st.done h)) = 0 := hok h hh _ hd
    unfold perr at h2
    split at h2
    · exact .inl (by assumption)
    · split at h2
      · exact .inr (by assumption)
      · cases h2
  have Q := V.pr
  have ej := Q.jb h hh
  have hs := Q.rng h hh
  obtain ⟨l', ly', pv', Q', S⟩ := Q.step hh hn hb hr (by rw [ej]; exact hk)
  refine ⟨l', ly', pv', Q', fun v => ?_⟩
  have V0 := V.eq v
  have U := fun (hp : ∀ j, j ≠ h → pv' j = pv j) => under_one (P := P) (st := st) (pv := pv) (pv' := pv') hh hp v
  have GO := fun he => pushes_goes (P := P) (st := st) (h := h) he v
  have EN := fun he => pushes_ends (P := P) (st := st) (h := h) hh he v rfl
  have AN := fun he => ans_ends P st (h := h) he
  have CE : pends (st.cur h) (stepOf P.n st.f (preq (st.cur h))) = true → ¬ has ((stepSt P st h).cur h) := fun he hh' => by
    have e1 := (cur_same P st h).trans (if_pos (show kPile.ends (st.cur h) (stepOf P.n st.f (kPile.req (st.cur h))) = true from he))
    rw [e1] at hh'
    exact absurd (show (3 : Int) ≤ 0 from hh'.1) (by decide)
  have CG : pends (st.cur h) (stepOf P.n st.f (preq (st.cur h))) = false → (stepSt P st h).cur h = pnext (st.cur h) (stepOf P.n st.f (preq (st.cur h))) := fun he => by
    exact (cur_same P st h).trans (if_neg (show ¬ kPile.ends (st.cur h) (stepOf P.n st.f (kPile.req (st.cur h))) = true from fun h' => by have := he.symm.trans h'; cases this))
  have NE : pends (st.cur h) (stepOf P.n st.f (preq (st.cur h))) = false → ¬ kPile.ends (st.cur h) (stepOf P.n st.f (kPile.req (st.cur h))) = true := fun he h' => by have := he.symm.trans h'; cases this
  have A5 := fun h5 => st_of_act (n := P.n) (f := st.f) hs h5
  have HN := fun he hD => has_next (n := P.n) (f := st.f) (by omega) hs he hD
  have N3 := fun h2 ho => next_3 (s := st.cur h) (x := stepOf P.n st.f (preq (st.cur h))) h2 ho
  have ES := fun he => ends_st (x := stepOf P.n st.f (preq (st.cur h))) hs he
  have A6 : PiS.st (st.cur h) = 6 → (stepOf P.n st.f (preq (st.cur h))).act = 5 := fun h6 => by
    have e : (stepOf P.n st.f (preq (st.cur h))).act = actOf (preq (st.cur h)).act := by unfold stepOf; split <;> rfl
    rw [e]
    unfold preq
    rw [if_neg (by omega), if_neg (by omega), if_neg (by omega), if_neg (by omega), if_neg (by omega), if_neg (by omega)]
    rfl
  have k1 : (PiS.j (st.cur h)).kind = 1 → ¬ has (st.cur h) := fun e hh' => by have := hh'.2; omega
  rcases S with ⟨⟨a1, a2, a3, a4⟩, he, ha, rfl, rfl⟩ | ⟨⟨a1, a2, a3, a4⟩, he, ha, rfl, rfl⟩ | ⟨⟨a1, a2, a3, a4⟩, he, ha, rfl, rfl, rfl⟩ | ⟨⟨a1, a2, a3, a4⟩, he, v0, rfl, rfl⟩ | ⟨⟨a1, a2, a3, a4⟩, he, ha, hv, rfl, rfl⟩ | ⟨n1, n2, n3, n4, n5, he, rfl, rfl⟩
  · have U' := U (fun _ _ => rfl)
    rw [hasN_no (CE he), hasN_no (k1 a1)] at U'
    obtain ⟨p1, p2⟩ := EN he
    rw [AN he] at p1 p2
    rw [p1, p2, if_neg (fun hx => by have := ha.symm.trans hx.2.1; cases this), if_neg (fun hx => by have := ha.symm.trans hx.2.1; cases this)]
    omega
  · have U' := U (fun _ _ => rfl)
    rw [hasN_no (CE he), hasN_no (k1 a1)] at U'
    obtain ⟨p1, p2⟩ := EN he
    rw [AN he] at p1 p2
    rw [ej] at a1
    rw [p1, p2, if_neg (c := _ = 2 ∧ _) (fun hx => by have := hx.1; omega), List.count_cons, ej]
    by_cases e : (P.jb h (st.done h)).h = v
    · rw [if_pos ⟨a1, ha, e⟩, if_pos (beq_iff_eq.2 e)]; omega
    · rw [if_neg (fun hx => e hx.2.2), if_neg (fun hx => e (beq_iff_eq.1 hx))]; omega
  · have h0 : PiS.st (st.cur h) = 0 := by
      rcases ES he with e | e
      · exact e
      · have := A6 e; omega
    have U' := U (fun _ _ => rfl)
    have hN0 : ¬ has (st.cur h) := fun hh' => by have := hh'.1; omega
    rw [hasN_no (CE he), hasN_no hN0] at U'
    obtain ⟨p1, p2⟩ := EN he
    rw [AN he] at p1 p2
    rw [p1, p2, if_neg (fun hx => by have := ha.symm.trans hx.2.1; cases this), if_neg (fun hx => by have := ha.symm.trans hx.2.1; cases this)]
    omega
  · have h2 : PiS.st (st.cur h) = 2 := by
      rcases A5 a3 with e | e
      · exact e
      · have := (at_6_pop (n := P.n) (f := st.f) e a1).symm.trans a2
        omega
    have U' := U (fun j hj => upd_other _ _ hj)
    have hN : has (pnext (st.cur h) (stepOf P.n st.f (preq (st.cur h)))) := ⟨by rw [N3 h2 a4]; decide, (congrArg Jb.kind (pnext_j _ _)).trans a1⟩
    have hN0 : ¬ has (st.cur h) := fun hh' => by have := hh'.1; omega
    rw [CG he, hasN_is hN, hasN_no hN0, upd_same] at U'
    obtain ⟨p1, p2⟩ := GO (NE he)
    rw [p1, p2]
    rw [List.count_cons] at V0
    by_cases e : v0 = v
    · rw [if_pos e] at U'; rw [if_pos (beq_iff_eq.2 e)] at V0; omega
    · rw [if_neg e] at U'; rw [if_neg (fun hx => e (beq_iff_eq.1 hx))] at V0; omega
  · have h6 : PiS.st (st.cur h) = 6 := by
      rcases A5 a3 with e | e
      · have := (at_2_pop (n := P.n) (f := st.f) e a1).symm.trans a2
        omega
      · exact e
    have U' := U (fun _ _ => rfl)
    have hN : has (st.cur h) := ⟨by omega, a1⟩
    rw [hasN_no (CE he), hasN_is hN] at U'
    obtain ⟨p1, p2⟩ := EN he
    rw [AN he] at p1 p2
    rw [ej] at a1
    rw [p1, p2, if_neg (c := _ = 1 ∧ _) (fun hx => by have := hx.1; omega)]
    by_cases e : pv' h = v
    · rw [if_pos ⟨a1, ha, hv.trans e⟩]; rw [if_pos e] at U'; omega
    · rw [if_neg (fun hx => e (hv.symm.trans hx.2.2))]; rw [if_neg e] at U'; omega
  · have U' := U (fun _ _ => rfl)
    have hI := HN he n4
    rw [CG he] at U'
    obtain ⟨p1, p2⟩ := GO (NE he)
    rw [p1, p2]
    by_cases hN : has (st.cur h)
    · rw [hasN_is hN, hasN_is (hI.2 hN)] at U'; omega
    · rw [hasN_no hN, hasN_no (fun hx => hN (hI.1 hx))] at U'; omega

theorem pv_run {r : Nat} {P : Par} (h1 : 1 ≤ r) (h2 : r ≤ 64) (hn : P.n = 2 + 2 * r) (hok : AllOk kPile P) : ∀ m, m < 4294967295 → ∃ l ly pv, PVal r P (runSt P (st0 kPile P (pfr r)) m) l ly pv
  | 0, _ => ⟨_, _, _, pv_start h1 h2⟩
  | m + 1, hm => by
    obtain ⟨l, ly, pv, Q⟩ := pv_run h1 h2 hn hok m (by omega)
    rcases run_succ_cases P (st0 kPile P (pfr r)) rfl m with ⟨e, _⟩ | ⟨h, ht, hh, hd, hk, e⟩
    · rw [e]; exact ⟨l, ly, pv, Q⟩
    · rw [e]
      exact Q.go hh hd hn (by omega) (by omega) hok

/-- Behind a run that has ended: all places in the two lists, each once; and value by value what was pushed is what was popped and what lies there. -/
theorem pv_whole {r : Nat} {P : Par} {m : Nat} (h1 : 1 ≤ r) (h2 : r ≤ 64) (hn : P.n = 2 + 2 * r) (hok : AllOk kPile P) (hm : m < 4294967295) (he : ∀ h, h < P.nh → P.jn h ≤ (runSt P (st0 kPile P (pfr r)) m).done h) :
    ∃ l0 l1 : List Nat, Chain (runSt P (st0 kPile P (pfr r)) m).f (idx ((runSt P (st0 kPile P (pfr r)) m).f 0)) l0 ∧ Chain (runSt P (st0 kPile P (pfr r)) m).f (idx ((runSt P (st0 kPile P (pfr r)) m).f 1)) l1 ∧ l0.length + l1.length = r ∧ (l0 ++ l1).Nodup ∧ (∀ q, q ∈ l0 ++ l1 → 1 ≤ q ∧ q ≤ r) ∧
      ∀ v, pushes P (runSt P (st0 kPile P (pfr r)) m) v = pops P (runSt P (st0 kPile P (pfr r)) m) v + (l0.map (fun q => (runSt P (st0 kPile P (pfr r)) m).f (2 * q + 1))).count v := by
  obtain ⟨l, ly, pv, V⟩ := pv_run h1 h2 hn hok m hm
  obtain ⟨w1, w2, w3⟩ := pr_whole V.pr he
  refine ⟨l 0, l 1, V.pr.pi.ch 0 (by omega), V.pr.pi.ch 1 (by omega), w1, w2, w3, fun v => ?_⟩
  have := V.eq v
  have e : under P (runSt P (st0 kPile P (pfr r)) m).cur pv v = 0 := by
    have z : ∀ n, sumC (fun _ => 0) n = 0 := fun n => by
      induction n with
      | zero => rfl
      | succ n ih => rw [sumC, ih]
    refine (sumC_congr _ (fun h hh => ?_)).trans (z P.nh)
    refine hasN_no (fun hx => ?_) _ _
    have h0 := idle_run P (pfr r) h m (he h hh)
    have h3 : 3 ≤ stOf ((runSt P (st0 kPile P (pfr r)) m).cur h) := hx.1
    omega
  rw [e, V.pr.vals] at this
  exact this
end Pile
end Go.Proofs.Ytohjlcmekkllgaa

/-
  The pile's Play from fresh words, told with the run.
-/
namespace Go.Proofs.Ytohjlcmekkllgaa
open Go.RowKit
set_option linter.unusedVariables false
set_option linter.unusedSimpArgs false
set_option maxRecDepth 20000
namespace Pile
variable {w : World} {ao aoh aos : Option Addr} {cap caph caps : Nat} {P : Par} {most : Int} {sh : Shp}

/-- What a run that is told leaves to read. -/
def Ran (r : Nat) (P : Par) (most : Int) (w' : World) (e : Ending) : Prop :=
  (∃ er, ¬ er = 0 ∧ e = .returned (errVal er)) ∨
  (AllOk kPile P ∧ P.nh ≤ 8 ∧ (∀ h, h < P.nh → P.jn h ≤ 256) ∧ most.toNat ≤ 65536 ∧ ∃ sa sc wa wc aa ac, e = .returned (.tuple #[.agg #[.slice sa (runSt P (st0 kPile P (pfr r)) most.toNat).k sc, .slice wa P.n wc, .bool (decide (cnt ((runSt P (st0 kPile P (pfr r)) most.toNat).going P) P.nh = 0))], .slice aa P.nh ac, .int .i64 0]) ∧
    SeesS w' w'.heap.size sa (runSt P (st0 kPile P (pfr r)) most.toNat).k (runSt P (st0 kPile P (pfr r)) most.toNat).s ∧ Sees w' w'.heap.size wa P.n (runSt P (st0 kPile P (pfr r)) most.toNat).f ∧ SeesA w' w'.heap.size aa P.nh (runSt P (st0 kPile P (pfr r)) most.toNat).done (runSt P (st0 kPile P (pfr r)) most.toNat).ans)

theorem play_told {r : Nat} (h1 : 1 ≤ r) (h2 : r ≤ 64) (hsh : sh.f = r) (hn : P.n = 2 + 2 * r) (S : Sees w w.heap.size ao P.n (pfr r)) (SH : SeesH w w.heap.size aoh P.nh P.jn P.jb) (hn63 : P.nh ≤ 9223372036854775807) (SI : SeesI w w.heap.size aos P.ns P.sched) (hjw : ∀ h, h < P.nh → ∀ j, j < P.jn h → (P.jb h j).wf) :
    Calls Try.prog 31 #[sh.val, .slice ao P.n cap, .slice aoh P.nh caph, .slice aos P.ns caps, .int .i64 most] w fun e w' => Below w.heap.size w w' ∧ Ran r P most w' e := by
  refine (play_all (want := 2 + 2 * r) (by omega) (by omega) (by omega) S (fun i _ => pfr_bounds h2 i) SH hn63 SI hjw).mono fun e w' h => ?_
  refine ⟨h.1, ?_⟩
  rcases h.2 with ⟨er, hle, he⟩ | ⟨hn', hF, hok, v, he, blk, c, g, sv, hv, H, G, GS, R, hg, hne⟩
  · refine .inl ⟨er, ?_, he⟩
    rcases hle with ⟨_, rfl⟩ | ⟨_, h⟩
    · decide
    · exact h.ne
  · obtain ⟨sa, sc, rfl⟩ := GS.isSlice'
    subst hv
    refine .inr ⟨hok, by rcases Nat.lt_or_ge 8 P.nh with l | l; exact absurd (.inl l) hF.2.1; exact l, fun h hh => G.jobs h hh, by have := hF.2.2.2; omega, sa, sc, _, _, _, _, he, GS.seesS H, R.sees, seesA_of G.answers H⟩
end Pile
end Go.Proofs.Ytohjlcmekkllgaa

/-
  A run's words stay words, and its tasks stay whole, for every kind of tasks. No program here.
-/
namespace Go.Proofs.Ytohjlcmekkllgaa
set_option linter.unusedVariables false
set_option linter.unusedSimpArgs false

theorem wordsOf_bounds {n : Nat} {f : Nat → Int} (hf : ∀ i, i < n → 0 ≤ f i ∧ f i ≤ 18446744073709551615) {q : Stp} (hq : 0 ≤ q.put ∧ q.put ≤ 18446744073709551615) : ∀ i, i < n → 0 ≤ wordsOf n f q i ∧ wordsOf n f q i ≤ 18446744073709551615 := by
  intro i hi
  unfold wordsOf
  split
  · rename_i h
    unfold putF
    split
    · unfold stepOf
      rw [if_pos h]
      exact putBy_bounds (hf _ (by omega)) hq
    · exact hf i hi
  · exact hf i hi

theorem stepOf_had {n : Nat} {f : Nat → Int} (hf : ∀ i, i < n → 0 ≤ f i ∧ f i ≤ 18446744073709551615) (q : Stp) : 0 ≤ (stepOf n f q).had ∧ (stepOf n f q).had ≤ 18446744073709551615 := by
  unfold stepOf
  split
  · rename_i h
    exact hf _ (by omega)
  · exact ⟨Int.le_refl 0, by show (0 : Int) ≤ 18446744073709551615; decide⟩

/-- What a run keeps: its words are words, the task under way of a hand that goes on is one of its job's. -/
structure WR {K : Kd} (P : Par) (st : St K) : Prop where
  word : ∀ i, i < P.n → 0 ≤ st.f i ∧ st.f i ≤ 18446744073709551615
  wf : ∀ h, h < P.nh → st.done h < P.jn h → K.wf (P.jb h (st.done h)) (st.cur h)

theorem WR.step {K : Kd} {P : Par} {st : St K} (ok : K.Ok) (hput : ∀ j s, K.wf j s → 0 ≤ (K.req s).put ∧ (K.req s).put ≤ 18446744073709551615) (hfine : ∀ h, h < P.nh → ∀ j, j < P.jn h → K.fine (P.jb h j)) (W : WR P st) {h : Nat} (hh : h < P.nh) (hd : st.done h < P.jn h) : WR P (stepSt P st h) := by
  have w0 := W.wf h hh hd
  refine ⟨wordsOf_bounds W.word (hput _ _ w0), fun h' hh' hd' => ?_⟩
  by_cases e : h' = h
  · subst e
    by_cases he : K.ends (st.cur h') (stepOf P.n st.f (K.req (st.cur h'))) = true
    · have ed : (stepSt P st h').done = upd st.done h' (st.done h' + 1) := if_pos he
      have ec : (stepSt P st h').cur h' = K.init h' (P.jb h' (st.done h' + 1)) := by
        show upd st.cur h' _ h' = _
        rw [upd_same, if_pos he]
      rw [ed, upd_same] at hd' ⊢
      rw [ec]
      exact ok.init _ _ (hfine h' hh _ hd')
    · have ed : (stepSt P st h').done = st.done := if_neg he
      have ec : (stepSt P st h').cur h' = K.next (st.cur h') (stepOf P.n st.f (K.req (st.cur h'))) := by
        show upd st.cur h' _ h' = _
        rw [upd_same, if_neg he]
      rw [ed, ec]
      exact ok.next _ _ _ _ W.word w0
  · have ec : (stepSt P st h).cur h' = st.cur h' := upd_other _ _ e
    have ed : (stepSt P st h).done h' = st.done h' := by
      by_cases he : K.ends (st.cur h) (stepOf P.n st.f (K.req (st.cur h))) = true
      · have ed : (stepSt P st h).done = upd st.done h (st.done h + 1) := if_pos he
        rw [ed]; exact upd_other _ _ e
      · have ed : (stepSt P st h).done = st.done := if_neg he
        rw [ed]
    rw [ed] at hd' ⊢
    rw [ec]
    exact W.wf h' hh' hd'

theorem wr_run {K : Kd} {P : Par} {f : Nat → Int} (ok : K.Ok) (hput : ∀ j s, K.wf j s → 0 ≤ (K.req s).put ∧ (K.req s).put ≤ 18446744073709551615) (hfine : ∀ h, h < P.nh → ∀ j, j < P.jn h → K.fine (P.jb h j)) (hf : ∀ i, i < P.n → 0 ≤ f i ∧ f i ≤ 18446744073709551615) : ∀ m, WR P (runSt P (st0 K P f) m)
  | 0 => ⟨hf, fun h hh hd => ok.init _ _ (hfine h hh _ hd)⟩
  | m + 1 => by
    have W := wr_run ok hput hfine hf m
    rcases run_succ_cases P (st0 K P f) rfl m with ⟨e, _⟩ | ⟨h, ht, hh, hd, hk, e⟩
    · rw [e]; exact W
    · rw [e]; exact W.step ok hput hfine hh hd

/-- An answer that a run has told is still told at its end. -/
theorem told_later {K : Kd} (P : Par) (s : St K) (h0 : s.k = 0) {i m : Nat} (him : i ≤ m) (h' : Nat) : (runSt P s i).done h' ≤ (runSt P s m).done h' ∧ ∀ j, j < (runSt P s i).done h' → (runSt P s m).ans h' j = (runSt P s i).ans h' j := by
  obtain ⟨d, rfl⟩ : ∃ d, m = i + d := ⟨m - i, by omega⟩
  exact stays P s h0 i h' d
end Go.Proofs.Ytohjlcmekkllgaa

/-
  The pile by every schedule: what the law's loop meets at each step.
-/
namespace Go.Proofs.Ytohjlcmekkllgaa
open Go.RowKit
set_option linter.unusedVariables false
set_option linter.unusedSimpArgs false
namespace Pile

theorem preq_put {s : PiS} (H : Wf s) : 0 ≤ (preq s).put ∧ (preq s).put ≤ 18446744073709551615 := by
  have b1 := bump_lo s.head (idx s.low)
  have b2 := bump_hi s.head (idx s.low)
  have b3 := bump_lo s.head s.place
  have b4 := bump_hi s.head s.place
  have i1 := idx_lo s.head
  have i2 := idx_hi s.head
  have hh : 0 ≤ s.j.h ∧ s.j.h ≤ 18446744073709551615 := H.h
  unfold preq
  repeat' split
  all_goals (simp only; omega)

/-- What the law's round meets: the hand, its job, the step, what comes of it. -/
structure OS (r : Nat) (P : Par) (M i : Nat) (ly : List Int) (pv : Nat → Int) (h : Nat) (j : Jb) (x : Stp) (l' : Nat → List Nat) (ly' : List Int) (pv' : Nat → Int) (e : Bool) (a : Ans) : Prop where
  hh : h < P.nh
  hd : (runSt P (st0 kPile P (pfr r)) i).done h < P.jn h
  ej : P.jb h ((runSt P (st0 kPile P (pfr r)) i).done h) = j
  kind : j.kind = 1 ∨ j.kind = 2
  wf : j.wf
  ex : (runSt P (st0 kPile P (pfr r)) M).s i = x
  hand : x.hand = h
  had : 0 ≤ x.had ∧ x.had ≤ 18446744073709551615
  pr : PR r P (runSt P (st0 kPile P (pfr r)) (i + 1)) l' ly' pv'
  sc : SC h j x ly ly' pv pv' e a
  e1 : e = true → (runSt P (st0 kPile P (pfr r)) (i + 1)).done = upd (runSt P (st0 kPile P (pfr r)) i).done h ((runSt P (st0 kPile P (pfr r)) i).done h + 1) ∧ (runSt P (st0 kPile P (pfr r)) i).done h < (runSt P (st0 kPile P (pfr r)) M).done h ∧ (runSt P (st0 kPile P (pfr r)) M).ans h ((runSt P (st0 kPile P (pfr r)) i).done h) = a
  e0 : e = false → (runSt P (st0 kPile P (pfr r)) (i + 1)).done = (runSt P (st0 kPile P (pfr r)) i).done

theorem order_step {r : Nat} {P : Par} (h2 : r ≤ 64) (hn : P.n = 2 + 2 * r) (hok : AllOk kPile P) (hjw : ∀ h, h < P.nh → ∀ j, j < P.jn h → (P.jb h j).wf) {M i : Nat} (hM : M ≤ 65536) (hi : i < (runSt P (st0 kPile P (pfr r)) M).k) {l : Nat → List Nat} {ly : List Int} {pv : Nat → Int} (Q : PR r P (runSt P (st0 kPile P (pfr r)) i) l ly pv) :
    ∃ h j x l' ly' pv' e a, OS r P M i ly pv h j x l' ly' pv' e a := by
  obtain ⟨hk, ⟨h, ht, hh, hd, hrun⟩, hs⟩ := hist P (st0 kPile P (pfr r)) rfl M i hi
  have hkM := (runSt_k P (st0 kPile P (pfr r)) rfl M).1
  have hfine : ∀ h, h < P.nh → ∀ j, j < P.jn h → kPile.fine (P.jb h j) := fun h hh j hj => ⟨hjw h hh j hj, _, hok h hh j hj⟩
  have W := wr_run (K := kPile) (P := P) (f := pfr r) isKind.ok (fun j s hw => preq_put hw.2) hfine (fun i _ => pfr_bounds h2 i) i
  obtain ⟨l', ly', pv', e, a, Q', S, E1, E0⟩ := Q.go hh hd hn (by rw [hk]; omega) (by omega) hok
  have hx := step_hand (P := P) (f := pfr r) (m := i) (h := h)
  rw [← hrun] at Q' S E1 E0 hx
  rw [hk] at S hx
  have ex : (runSt P (st0 kPile P (pfr r)) (i + 1)).s i = stepOf P.n (runSt P (st0 kPile P (pfr r)) i).f (kPile.req ((runSt P (st0 kPile P (pfr r)) i).cur h)) := by
    rw [hrun]
    show upd _ (runSt P (st0 kPile P (pfr r)) i).k _ i = _
    rw [hk, upd_same]
  have fc := fine_cases (hfine h hh _ hd)
  refine ⟨h, P.jb h ((runSt P (st0 kPile P (pfr r)) i).done h), (runSt P (st0 kPile P (pfr r)) (i + 1)).s i, l', ly', pv', e, a, hh, hd, rfl, fc.1, fc.2, hs, hx, by rw [ex]; exact stepOf_had W.word _, Q', S, fun he => ?_, E0⟩
  obtain ⟨d1, d2⟩ := E1 he
  obtain ⟨t1, t2⟩ := told_later P (st0 kPile P (pfr r)) rfl (i := i + 1) (m := M) (by omega) h
  have hdn : (runSt P (st0 kPile P (pfr r)) (i + 1)).done h = (runSt P (st0 kPile P (pfr r)) i).done h + 1 := by rw [d1, upd_same]
  exact ⟨d1, by omega, (t2 _ (by omega)).trans d2⟩
end Pile
end Go.Proofs.Ytohjlcmekkllgaa

/-
  PileOrder: what stands between the rounds of the law's loop, and how a round keeps it.
-/
namespace Go.Proofs.Ytohjlcmekkllgaa
open Go.RowKit
set_option linter.unusedVariables false
set_option linter.unusedSimpArgs false
set_option maxRecDepth 20000

theorem ownsRow_keep {w w' : World} {base : Nat} {e : TypeId} {size : Nat} {v : Value} {n : Nat} {xs : List Value} (h : w.ownsRow base e size v n xs) (hk : ∀ b, base ≤ b → b < w.heap.size → w'.heap[b]? = w.heap[b]?) : w'.ownsRow base e size v n xs := by
  obtain ⟨hl, h | ⟨g, cap, cur, rfl, hb, hg, hc, hm, hs, ht⟩⟩ := h
  · exact ⟨hl, .inl h⟩
  · refine ⟨hl, .inr ⟨g, cap, cur, rfl, hb, ?_, hc, hm, hs, ht⟩⟩
    rw [hk g hb ?_]
    · exact hg
    · rcases Nat.lt_or_ge g w.heap.size with l | l
      · exact l
      · rw [Array.getElem?_eq_none l] at hg
        cases hg

theorem ownsRow_block {w : World} {base : Nat} {e : TypeId} {size : Nat} {v : Value} {n : Nat} {xs : List Value} (h : w.ownsRow base e size v n xs) : ∀ g, v.ownBlock = some g → base ≤ g ∧ g < w.heap.size := by
  obtain ⟨hl, h | ⟨g, cap, cur, rfl, hb, hg, hc, hm, hs, ht⟩⟩ := h
  · intro g hg
    obtain ⟨rfl, _⟩ := h
    simp [Value.ownBlock] at hg
  · intro g' hg'
    have e : g = g' := by simpa [Value.ownBlock] using hg'
    subst e
    refine ⟨hb, ?_⟩
    rcases Nat.lt_or_ge g w.heap.size with l | l
    · exact l
    · rw [Array.getElem?_eq_none l] at hg
      cases hg

theorem ndle {d dn : Nat} (h : d < dn) : ¬ (dn : Int) ≤ (d : Int) ∧ ¬ dn ≤ d ∧ (d : Int) < (dn : Int) := by omega
theorem meas_next {K i : Nat} (h : i < K) : K - (intOf (.int .i64 ((i : Int) + 1))).toNat < K - (intOf (.int .i64 (i : Int))).toNat := by
  simp [intOf]
  omega
theorem vi_next {i : Nat} : Value.int .i64 ((i : Int) + 1) = .int .i64 ((i + 1 : Nat) : Int) := by simp
theorem thr (n : Nat) : n < n + 2 ∧ n + 1 ≠ n ∧ n ≠ n + 1 ∧ n + 1 < n + 2 ∧ n ≤ n + 1 := by omega
theorem apart {lo g n b : Nat} (h : lo ≤ g ∧ g < n) (hb : b < lo ∨ n ≤ b) : b ≠ g := by omega
theorem popped_nums {nl cap : Nat} (h : nl + 1 ≤ cap) : ¬ ((nl : Int) + 1 = 0) ∧ wrap64 ((nl : Int) + 1 - 1) = (if (nl : Int) < 9223372036854775807 then (nl : Int) else wrap64 ((nl : Int) + 1 - 1)) ∧ (nl : Int) < (nl : Int) + 1 ∧ (nl : Int) ≤ (cap : Int) ∧ nl ≤ cap ∧ nl < cap := by
  refine ⟨by omega, ?_, by omega, by omega, by omega, by omega⟩
  split
  · unfold wrap64; omega
  · rfl

namespace Pile

theorem pr_len {r : Nat} {P : Par} {st : St kPile} {l : Nat → List Nat} {ly : List Int} {pv : Nat → Int} (Q : PR r P st l ly pv) : ly.length ≤ r := by
  have h1 := Q.vals
  have h2 := Q.pi.all
  have h3 : ly.length = (l 0).length := by rw [h1, List.length_map]
  omega

/-- What lies there, the last pushed last, as cells. -/
def lyC (ly : List Int) : List Value := ly.reverse.map (fun v => .int .u64 v)
theorem lyC_cons (v : Int) (ly : List Int) : lyC (v :: ly) = lyC ly ++ [.int .u64 v] := by simp [lyC]
theorem lt_small {nl r : Nat} (h : nl + 1 ≤ r) (hr : (r : Int) ≤ 64) : (nl : Int) < 9223372036854775807 := by omega
theorem lyC_len (ly : List Int) : (lyC ly).length = ly.length := by simp [lyC]

theorem lyC_last (v : Int) (ly : List Int) : (lyC (v :: ly))[ly.length]? = some (.int .u64 v) := by
  rw [lyC_cons, List.getElem?_append_right (by rw [lyC_len]; exact Nat.le_refl _), lyC_len, Nat.sub_self]
  rfl

/-- What stands between the rounds. -/
def LI (r : Nat) (P : Par) (K gd gp lo B : Nat) (W : World) (vl vi : Value) (wr : World) : Prop :=
  ∃ (i : Nat) (l : Nat → List Nat) (ly : List Int) (pv : Nat → Int), i ≤ K ∧ vi = .int .i64 i ∧ PR r P (runSt P (st0 kPile P (pfr r)) i) l ly pv ∧ wr.rowIs gd 3 P.nh (fun h => .int .i64 ((runSt P (st0 kPile P (pfr r)) i).done h)) ∧ wr.rowIs gp 42 P.nh (fun h => .int .u64 (pv h)) ∧ wr.ownsRow lo 42 1 vl ly.length (lyC ly) ∧ Below B W wr

section
variable {r : Nat} {P : Par} {M K i gd gp lo B : Nat} {W wq : World} {vl vi : Value} {ly : List Int} {pv : Nat → Int} {h : Nat} {j : Jb} {x : Stp} {l' : Nat → List Nat} {ly' : List Int} {pv' : Nat → Int} {e : Bool} {a : Ans}

theorem li_goes (O : OS r P M i ly pv h j x l' ly' pv' e a) (he : e = false) (hl : ly' = ly) (hp : pv' = pv) (hi : i < K) (hvi : vi = .int .i64 ((i + 1 : Nat) : Int)) (hD : wq.rowIs gd 3 P.nh (fun h => .int .i64 ((runSt P (st0 kPile P (pfr r)) i).done h))) (hP : wq.rowIs gp 42 P.nh (fun h => .int .u64 (pv h))) (hL : wq.ownsRow lo 42 1 vl ly.length (lyC ly)) (hB : Below B W wq) : LI r P K gd gp lo B W vl vi wq := by
  subst hl hp
  refine ⟨i + 1, l', ly', pv', hi, hvi, O.pr, ?_, hP, hL, hB⟩
  rw [O.e0 he]
  exact hD

theorem li_fin (O : OS r P M i ly pv h j x l' ly' pv' e a) (he : e = false) (hi : i < K) (hvi : vi = .int .i64 ((i + 1 : Nat) : Int)) (hD : wq.rowIs gd 3 P.nh (fun h => .int .i64 ((runSt P (st0 kPile P (pfr r)) i).done h))) (hP : wq.rowIs gp 42 P.nh (fun h => .int .u64 (pv' h))) (hL : wq.ownsRow lo 42 1 vl ly'.length (lyC ly')) (hB : Below B W wq) : LI r P K gd gp lo B W vl vi wq := by
  refine ⟨i + 1, l', ly', pv', hi, hvi, O.pr, ?_, hP, hL, hB⟩
  rw [O.e0 he]
  exact hD

theorem li_over (O : OS r P M i ly pv h j x l' ly' pv' e a) (he : e = true) (hp : pv' = pv) (hi : i < K) (hvi : vi = .int .i64 ((i + 1 : Nat) : Int)) {d : Nat} (hd : (runSt P (st0 kPile P (pfr r)) i).done h = d) (hD : wq.rowIs gd 3 P.nh (fun h => .int .i64 ((runSt P (st0 kPile P (pfr r)) i).done h))) (hP : wq.rowIs gp 42 P.nh (fun h => .int .u64 (pv h))) (hL : wq.ownsRow lo 42 1 vl ly'.length (lyC ly')) (hB : Below B W wq) (h1 : gd < lo) (h2 : gp ≠ gd) (h3 : B ≤ gd) : LI r P K gd gp lo B W vl vi (wq.setCell ⟨gd, h, none⟩ (.int .i64 ((d : Int) + 1))) := by
  subst hp
  refine ⟨i + 1, l', ly', pv', hi, hvi, O.pr, ?_, hP.setOther (by exact h2) _, ownsRow_setCell_below hL (by exact h1) _, hB.setCell (by exact h3) _⟩
  refine World.rowIs.congr (hD.set h _) (fun q hq => ?_)
  rw [(O.e1 he).1]
  show (if q = h then _ else _) = _
  by_cases e : q = h
  · subst e
    rw [if_pos rfl, upd_same, hd]
    simp
  · rw [if_neg e, upd_other _ _ e]

theorem li_done (O : OS r P M i ly pv h j x l' ly' pv' e a) (he : e = true) (hi : i < K) (hvi : vi = .int .i64 ((i + 1 : Nat) : Int)) {d : Nat} (hd : (runSt P (st0 kPile P (pfr r)) i).done h = d) (hD : wq.rowIs gd 3 P.nh (fun h => .int .i64 ((runSt P (st0 kPile P (pfr r)) i).done h))) (hP : wq.rowIs gp 42 P.nh (fun h => .int .u64 (pv' h))) (hL : wq.ownsRow lo 42 1 vl ly'.length (lyC ly')) (hB : Below B W wq) (h1 : gd < lo) (h2 : gp ≠ gd) (h3 : B ≤ gd) : LI r P K gd gp lo B W vl vi (wq.setCell ⟨gd, h, none⟩ (.int .i64 ((d : Int) + 1))) := by
  refine ⟨i + 1, l', ly', pv', hi, hvi, O.pr, ?_, hP.setOther (by exact h2) _, ownsRow_setCell_below hL (by exact h1) _, hB.setCell (by exact h3) _⟩
  refine World.rowIs.congr (hD.set h _) (fun q hq => ?_)
  rw [(O.e1 he).1]
  show (if q = h then _ else _) = _
  by_cases e : q = h
  · subst e
    rw [if_pos rfl, upd_same, hd]
    simp
  · rw [if_neg e, upd_other _ _ e]

theorem li_pop (O : OS r P M i ly pv h j x l' ly' pv' e a) (he : e = false) {v : Int} (hp : pv' = upd pv h v) (hi : i < K) (hvi : vi = .int .i64 ((i + 1 : Nat) : Int)) (hD : wq.rowIs gd 3 P.nh (fun h => .int .i64 ((runSt P (st0 kPile P (pfr r)) i).done h))) (hP : wq.rowIs gp 42 P.nh (fun h => .int .u64 (pv h))) (hL : wq.ownsRow lo 42 1 vl ly'.length (lyC ly')) (hB : Below B W wq) (h1 : gp < lo) (h2 : gd ≠ gp) (h3 : B ≤ gp) : LI r P K gd gp lo B W vl vi (wq.setCell ⟨gp, h, none⟩ (.int .u64 v)) := by
  subst hp
  refine ⟨i + 1, l', ly', upd pv h v, hi, hvi, O.pr, ?_, ?_, ownsRow_setCell_below hL (by exact h1) _, hB.setCell (by exact h3) _⟩
  · rw [O.e0 he]
    exact hD.setOther (by exact h2) _
  · refine World.rowIs.congr (hP.set h _) (fun q hq => ?_)
    show (if q = h then _ else _) = _
    by_cases e : q = h
    · subst e
      rw [if_pos rfl, upd_same]
    · rw [if_neg e, upd_other _ _ e]
end
end Pile
end Go.Proofs.Ytohjlcmekkllgaa
