/-
  Lemmas: PileH.
-/
import Derived.Test.YtbjlpmahomjgjaaTx10
set_option linter.unusedVariables false
set_option linter.unusedSimpArgs false
namespace Go.Proofs.Ytbjlpmahomjgjaa
open Go.RowKit
namespace Pile

/-- The state of a run, with what lies there. -/
def PR (r : Nat) (P : Par) (st : St kPile) (l : Nat → List Nat) (ly : List Int) (pv : Nat → Int) : Prop := PQ r P st.f st.cur st.done st.k l ly pv

theorem pr_start {r : Nat} {P : Par} (h1 : 1 ≤ r) (h2 : r ≤ 64) : PR r P (st0 kPile P (pfr r)) (fun w => if w = 0 then [] else List.range' 1 r) [] (fun _ => 0) := by
  have p0 : pfr r 0 = 0 := by unfold pfr; rw [if_neg (by omega), if_neg (by omega)]
  have p1 : pfr r 1 = 1 := by unfold pfr; rw [if_pos rfl]
  refine ⟨⟨fun w hw => ?_, fun w hw q hq => ?_, fun w hw => ?_, fun q h0 _ => ?_, fun w hw => (pfr_bounds h2 w).1, fun w hw => ?_, fun h _ => Own.idle rfl, fun h h' _ _ _ h3 _ => ?_, ?_⟩, rfl, fun _ _ => rfl, fun _ _ => ⟨Int.le_refl 0, show (0 : Int) ≤ 6 by decide⟩, fun _ _ _ h4 => ?_, fun _ _ _ h3 => ?_, fun _ _ _ h4 => ?_, fun _ _ => rfl⟩
  · have : w = 0 ∨ w = 1 := by omega
    rcases this with rfl | rfl
    · exact fresh_top r
    · exact fresh_spare h1 h2
  · have : w = 0 ∨ w = 1 := by omega
    rcases this with rfl | rfl
    · cases hq
    · have hq' : q ∈ List.range' 1 r := hq
      rw [List.mem_range'_1] at hq'
      omega
  · have : w = 0 ∨ w = 1 := by omega
    rcases this with rfl | rfl
    · exact List.nodup_nil
    · exact List.nodup_range'
  · cases h0
  · have : w = 0 ∨ w = 1 := by omega
    rcases this with rfl | rfl
    · show tag (pfr r 0) ≤ 0
      rw [p0]; decide
    · show tag (pfr r 1) ≤ 0
      rw [p1]; decide
  · exact absurd (show (3 : Int) ≤ 0 from h3) (by decide)
  · have e : cnt (holds (st0 kPile P (pfr r)).cur) P.nh = 0 := cnt_none (fun i _ => rfl)
    rw [e]
    show 0 + (List.range' 1 r).length + 0 = r
    rw [List.length_range']
    omega
  · exact absurd (show (4 : Int) ≤ 0 from h4) (by decide)
  · exact absurd (show (0 : Int) = 3 from h3) (by decide)
  · exact absurd (show (4 : Int) ≤ 0 from h4) (by decide)

theorem cur_same {K : Kd} (P : Par) (st : St K) (h : Nat) : (stepSt P st h).cur h = (if K.ends (st.cur h) (stepOf P.n st.f (K.req (st.cur h))) = true then K.init h (P.jb h (st.done h + 1)) else K.next (st.cur h) (stepOf P.n st.f (K.req (st.cur h)))) := upd_same _ _ _
theorem cur_other {K : Kd} (P : Par) (st : St K) {h h' : Nat} (e : h' ≠ h) : (stepSt P st h).cur h' = st.cur h' := upd_other _ _ e
theorem done_goes {K : Kd} (P : Par) (st : St K) {h : Nat} (e : ¬ K.ends (st.cur h) (stepOf P.n st.f (K.req (st.cur h))) = true) : (stepSt P st h).done = st.done := if_neg e
theorem done_ends {K : Kd} (P : Par) (st : St K) {h : Nat} (e : K.ends (st.cur h) (stepOf P.n st.f (K.req (st.cur h))) = true) : (stepSt P st h).done = upd st.done h (st.done h + 1) := if_pos e
theorem done_other {K : Kd} (P : Par) (st : St K) {h h' : Nat} (e : h' ≠ h) : (stepSt P st h).done h' = st.done h' := by
  by_cases he : K.ends (st.cur h) (stepOf P.n st.f (K.req (st.cur h))) = true
  · rw [done_ends P st he]; exact upd_other _ _ e
  · rw [done_goes P st he]
theorem ans_ends {K : Kd} (P : Par) (st : St K) {h : Nat} (e : K.ends (st.cur h) (stepOf P.n st.f (K.req (st.cur h))) = true) : (stepSt P st h).ans h (st.done h) = K.tell (K.next (st.cur h) (stepOf P.n st.f (K.req (st.cur h)))) := by
  have h1 : (stepSt P st h).ans = upd st.ans h (upd (st.ans h) (st.done h) (K.tell (K.next (st.cur h) (stepOf P.n st.f (K.req (st.cur h)))))) := if_pos e
  rw [h1, upd_same, upd_same]
/-- One step of a run. -/
theorem PR.go {r : Nat} {P : Par} {st : St kPile} {l : Nat → List Nat} {ly : List Int} {pv : Nat → Int} (Q : PR r P st l ly pv) {h : Nat} (hh : h < P.nh) (hd : st.done h < P.jn h) (hn : P.n = 2 + 2 * r) (hb : st.k < 4294967295) (hr : r < 4294967296) (hok : AllOk kPile P) :
    ∃ l' ly' pv' e a, PR r P (stepSt P st h) l' ly' pv' ∧ SC h (P.jb h (st.done h)) ((stepSt P st h).s st.k) ly ly' pv pv' e a ∧ (e = true → (stepSt P st h).done = upd st.done h (st.done h + 1) ∧ (stepSt P st h).ans h (st.done h) = a) ∧ (e = false → (stepSt P st h).done = st.done) := by
  have hk : (P.jb h (st.done h)).kind = 1 ∨ (P.jb h (st.done h)).kind = 2 := by
    have h2 : perr (P.jb h (st.done h)) = 0 := hok h hh _ hd
    unfold perr at h2
    split at h2
    · exact .inl (by assumption)
    · split at h2
      · exact .inr (by assumption)
      · cases h2
  have ej := Q.jb h hh
  obtain ⟨l', ly', pv', Q', S⟩ := Q.step hh hn hb hr (by rw [ej]; exact hk)
  rw [ej] at S
  refine ⟨l', ly', pv', pends (st.cur h) (stepOf P.n st.f (preq (st.cur h))), (pnext (st.cur h) (stepOf P.n st.f (preq (st.cur h)))).told, Q', ?_, fun he => ?_, fun he => ?_⟩
  · show SC _ _ (upd st.s st.k _ st.k) _ _ _ _ _ _
    rw [upd_same]
    exact S
  · have he' : kPile.ends (st.cur h) (stepOf P.n st.f (kPile.req (st.cur h))) = true := he
    exact ⟨done_ends P st he', ans_ends P st he'⟩
  · have he' : ¬ kPile.ends (st.cur h) (stepOf P.n st.f (kPile.req (st.cur h))) = true := by
      intro h'
      have := he.symm.trans h'
      cases this
    exact done_goes P st he'

theorem pr_run {r : Nat} {P : Par} (h1 : 1 ≤ r) (h2 : r ≤ 64) (hn : P.n = 2 + 2 * r) (hok : AllOk kPile P) : ∀ m, m < 4294967295 → ∃ l ly pv, PR r P (runSt P (st0 kPile P (pfr r)) m) l ly pv
  | 0, _ => ⟨_, _, _, pr_start h1 h2⟩
  | m + 1, hm => by
    obtain ⟨l, ly, pv, Q⟩ := pr_run h1 h2 hn hok m (by omega)
    rcases run_succ_cases P (st0 kPile P (pfr r)) rfl m with ⟨e, _⟩ | ⟨h, ht, hh, hd, hk, e⟩
    · rw [e]; exact ⟨l, ly, pv, Q⟩
    · rw [e]
      obtain ⟨l', ly', pv', _, _, Q', _⟩ := Q.go hh hd hn (by omega) (by omega) hok
      exact ⟨l', ly', pv', Q'⟩

/-- The hand of a step. -/
theorem pnext_hand (s : PiS) (x : Stp) : (pnext s x).hand = s.hand := by
  unfold pnext
  repeat' split
  all_goals rfl
theorem preq_hand (s : PiS) : (preq s).hand = s.hand := by
  unfold preq
  repeat' split
  all_goals rfl
theorem stepOf_hand (n : Nat) (f : Nat → Int) (q : Stp) : (stepOf n f q).hand = q.hand := by
  unfold stepOf
  split <;> rfl
def handOf (s : kPile.σ) : Int := PiS.hand s
def stOf (s : kPile.σ) : Int := PiS.st s
theorem hand_run (P : Par) (f : Nat → Int) (h : Nat) : ∀ m, handOf ((runSt P (st0 kPile P f) m).cur h) = h
  | 0 => rfl
  | m + 1 => by
    have ih := hand_run P f h m
    rcases run_succ_cases P (st0 kPile P f) rfl m with ⟨e, _⟩ | ⟨h', ht, hh, hd, hk, e⟩
    · rw [e]; exact ih
    · rw [e]
      by_cases eh : h = h'
      · subst eh
        rw [cur_same]
        split
        · rfl
        · exact (pnext_hand _ _).trans ih
      · rw [cur_other _ _ eh]; exact ih
/-- A hand whose jobs have ended holds nothing. -/
theorem idle_run (P : Par) (f : Nat → Int) (h : Nat) : ∀ m, P.jn h ≤ (runSt P (st0 kPile P f) m).done h → stOf ((runSt P (st0 kPile P f) m).cur h) = 0
  | 0, _ => rfl
  | m + 1, hm => by
    rcases run_succ_cases P (st0 kPile P f) rfl m with ⟨e, _⟩ | ⟨h', ht, hh, hd, hk, e⟩
    · rw [e] at hm ⊢; exact idle_run P f h m hm
    · rw [e] at hm ⊢
      by_cases eh : h = h'
      · subst eh
        rw [cur_same]
        split
        · rfl
        · rename_i he
          rw [done_goes P _ he] at hm
          omega
      · rw [cur_other _ _ eh]
        rw [done_other _ _ eh] at hm
        exact idle_run P f h m hm
theorem step_hand {P : Par} {f : Nat → Int} {m h : Nat} : ((stepSt P (runSt P (st0 kPile P f) m) h).s (runSt P (st0 kPile P f) m).k).hand = h := by
  have e : (stepSt P (runSt P (st0 kPile P f) m) h).s (runSt P (st0 kPile P f) m).k = stepOf P.n (runSt P (st0 kPile P f) m).f (kPile.req ((runSt P (st0 kPile P f) m).cur h)) := upd_same _ _ _
  rw [e, stepOf_hand]
  exact (preq_hand _).trans (hand_run P f h m)

/-- Behind a run that has ended all places lie in the two lists, each once. -/
theorem pr_whole {r : Nat} {P : Par} {m : Nat} {l : Nat → List Nat} {ly : List Int} {pv : Nat → Int} (Q : PR r P (runSt P (st0 kPile P (pfr r)) m) l ly pv) (he : ∀ h, h < P.nh → P.jn h ≤ (runSt P (st0 kPile P (pfr r)) m).done h) : (l 0).length + (l 1).length = r ∧ (l 0 ++ l 1).Nodup ∧ ∀ q, q ∈ l 0 ++ l 1 → 1 ≤ q ∧ q ≤ r := by
  have I := Q.pi
  refine ⟨?_, ?_, fun q hq => ?_⟩
  · have := I.all
    have e : cnt (holds (runSt P (st0 kPile P (pfr r)) m).cur) P.nh = 0 := cnt_none (fun h hh => by
      have := idle_run P (pfr r) h m (he h hh)
      exact decide_eq_false (fun h3 => by have h4 : 3 ≤ stOf ((runSt P (st0 kPile P (pfr r)) m).cur h) := h3; omega))
    rw [e] at this
    exact this
  · refine List.nodup_append.2 ⟨I.nd 0 (by omega), I.nd 1 (by omega), fun a ha b hb e => ?_⟩
    subst e
    exact I.dis a ha hb
  · rcases List.mem_append.1 hq with hq | hq
    · exact ⟨(I.ch 0 (by omega)).low q hq, I.rng 0 (by omega) q hq⟩
    · exact ⟨(I.ch 1 (by omega)).low q hq, I.rng 1 (by omega) q hq⟩
end Pile
end Go.Proofs.Ytbjlpmahomjgjaa
