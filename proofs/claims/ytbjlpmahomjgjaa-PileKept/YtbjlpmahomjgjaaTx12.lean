/-
  Lemmas: PileV.
-/
import Derived.Test.YtbjlpmahomjgjaaTx11
set_option linter.unusedVariables false
set_option linter.unusedSimpArgs false
namespace Go.Proofs.Ytbjlpmahomjgjaa
open Go.RowKit
namespace Pile

def sumC (a : Nat → Nat) : Nat → Nat
  | 0 => 0
  | n + 1 => sumC a n + a n
theorem sumC_congr {a b : Nat → Nat} : ∀ n, (∀ i, i < n → a i = b i) → sumC a n = sumC b n
  | 0, _ => rfl
  | n + 1, h => by rw [sumC, sumC, sumC_congr n (fun i hi => h i (by omega)), h n (by omega)]
theorem sumC_one {a b : Nat → Nat} {h : Nat} (he : ∀ j, j ≠ h → b j = a j) : ∀ n, h < n → sumC b n + a h = sumC a n + b h
  | 0, hn => absurd hn (Nat.not_lt_zero _)
  | n + 1, hn => by
    by_cases e : h = n
    · subst e
      rw [sumC, sumC, sumC_congr h (fun i hi => he i (by omega))]
      omega
    · have := sumC_one he n (by omega)
      rw [sumC, sumC, he n (Ne.symm e)]
      omega

def isPush (P : Par) (st : St kPile) (v : Int) (h k : Nat) : Bool := decide ((P.jb h k).kind = 1 ∧ (st.ans h k).ok = true ∧ (P.jb h k).h = v)
def isPop (P : Par) (st : St kPile) (v : Int) (h k : Nat) : Bool := decide ((P.jb h k).kind = 2 ∧ (st.ans h k).ok = true ∧ (st.ans h k).val = v)
def pushes (P : Par) (st : St kPile) (v : Int) : Nat := sumC (fun h => cnt (isPush P st v h) (st.done h)) P.nh
def pops (P : Par) (st : St kPile) (v : Int) : Nat := sumC (fun h => cnt (isPop P st v h) (st.done h)) P.nh
def has (s : PiS) : Prop := 3 ≤ s.st ∧ s.j.kind = 2
instance (s : PiS) : Decidable (has s) := by unfold has; exact inferInstance
def hasN (s : PiS) (v p : Int) : Nat := if has s ∧ p = v then 1 else 0
def under (P : Par) (c : Nat → PiS) (pv : Nat → Int) (v : Int) : Nat := sumC (fun h => hasN (c h) v (pv h)) P.nh

structure PVal (r : Nat) (P : Par) (st : St kPile) (l : Nat → List Nat) (ly : List Int) (pv : Nat → Int) : Prop where
  pr : PR r P st l ly pv
  eq : ∀ v, pushes P st v = pops P st v + ly.count v + under P st.cur pv v

theorem pv_start {r : Nat} {P : Par} (h1 : 1 ≤ r) (h2 : r ≤ 64) : PVal r P (st0 kPile P (pfr r)) (fun w => if w = 0 then [] else List.range' 1 r) [] (fun _ => 0) := by
  refine ⟨pr_start h1 h2, fun v => ?_⟩
  have z : ∀ n, sumC (fun _ => 0) n = 0 := fun n => by
    induction n with
    | zero => rfl
    | succ n ih => rw [sumC, ih]
  have e1 : pushes P (st0 kPile P (pfr r)) v = 0 := (sumC_congr _ (fun _ _ => rfl)).trans (z P.nh)
  have e2 : pops P (st0 kPile P (pfr r)) v = 0 := (sumC_congr _ (fun _ _ => rfl)).trans (z P.nh)
  have e3 : under P (st0 kPile P (pfr r)).cur (fun _ => 0) v = 0 := (sumC_congr _ (fun h _ => by
    show hasN _ _ _ = 0
    unfold hasN
    exact if_neg (fun hh => absurd (show (3 : Int) ≤ 0 from hh.1.1) (by decide)))).trans (z P.nh)
  rw [e1, e2, e3]
  rfl

/-- Whether a pop under way holds a place, behind a step that ends nothing and takes nothing off the top. -/
theorem has_next {n : Nat} {f : Nat → Int} {s : PiS} (hn : 2 ≤ n) (hs : 0 ≤ s.st ∧ s.st ≤ 6) (he : pends s (stepOf n f (preq s)) = false) (hD : ¬ LD s.j (stepOf n f (preq s))) : has (pnext s (stepOf n f (preq s))) ↔ has s := by
  have ej : (pnext s (stepOf n f (preq s))).j = s.j := pnext_j _ _
  unfold has
  rw [ej]
  by_cases k2 : s.j.kind = 2
  · have h01 : (3 ≤ (pnext s (stepOf n f (preq s))).st ↔ 3 ≤ s.st) := by
      have : s.st = 0 ∨ s.st = 1 ∨ s.st = 2 ∨ s.st = 3 ∨ s.st = 4 ∨ s.st = 5 ∨ s.st = 6 := by omega
      rcases this with e | e | e | e | e | e | e
      · generalize stepOf n f (preq s) = x
        unfold pnext
        rw [if_pos e]
        show 3 ≤ (if idx x.had = 0 then (0 : Int) else 1) ↔ _
        split <;> omega
      · generalize stepOf n f (preq s) = x
        unfold pnext
        rw [if_neg (by omega), if_pos e]
        show (3 : Int) ≤ 2 ↔ _
        omega
      · have eq : preq s = ⟨s.hand, 5, frm s.j.kind, s.head, bump s.head (idx s.low), true⟩ := by unfold preq; rw [if_neg (by omega), if_neg (by omega), if_pos e]
        have hi := frm_in s hn
        have ho : (stepOf n f (preq s)).ok = false := by
          cases ho : (stepOf n f (preq s)).ok with
          | false => rfl
          | true =>
            refine absurd ⟨k2, ?_, ?_, ho⟩ hD
            · rw [eq]
              unfold stepOf
              rw [if_pos hi]
              show frm s.j.kind = 0
              rw [frm_eq, fromN_2 k2]; rfl
            · rw [eq]
              unfold stepOf
              rw [if_pos hi]
              rfl
        generalize stepOf n f (preq s) = x at *
        unfold pnext
        rw [if_neg (by omega), if_neg (by omega), if_pos e, ho]
        show (3 : Int) ≤ 0 ↔ _
        omega
      · generalize stepOf n f (preq s) = x
        unfold pnext
        rw [if_neg (by omega), if_neg (by omega), if_neg (by omega), if_pos e, if_neg (by omega)]
        show (3 : Int) ≤ 4 ↔ _
        omega
      · generalize stepOf n f (preq s) = x
        unfold pnext
        rw [if_neg (by omega), if_neg (by omega), if_neg (by omega), if_neg (by omega), if_pos e]
        show (3 : Int) ≤ 5 ↔ _
        omega
      · generalize stepOf n f (preq s) = x
        unfold pnext
        rw [if_neg (by omega), if_neg (by omega), if_neg (by omega), if_neg (by omega), if_neg (by omega), if_pos e]
        show (3 : Int) ≤ 6 ↔ _
        omega
      · have ho : (stepOf n f (preq s)).ok = false := by
          unfold pends at he
          rw [if_neg (by omega), if_neg (by omega), if_neg (by omega), if_neg (by omega), if_neg (by omega), if_neg (by omega)] at he
          exact he
        generalize stepOf n f (preq s) = x at *
        unfold pnext
        rw [if_neg (by omega), if_neg (by omega), if_neg (by omega), if_neg (by omega), if_neg (by omega), if_neg (by omega), ho]
        show (3 : Int) ≤ 4 ↔ _
        omega
    rw [h01]
  · exact ⟨fun h => absurd h.2 k2, fun h => absurd h.2 k2⟩
theorem cnt_more {g g' : Nat → Bool} {n : Nat} (hg : ∀ i, i < n → g' i = g i) : cnt g' (n + 1) = cnt g n + (if g' n = true then 1 else 0) := by
  cases h : g' n with
  | true => rw [cnt_true h, cnt_congr hg]; rfl
  | false => rw [cnt_false h, cnt_congr hg]; rfl

/-- A count over the jobs that have ended, one job more. -/
theorem ended_more {P : Par} {d d' : Nat → Nat} {g g' : Nat → Nat → Bool} {h : Nat} (hh : h < P.nh) (hd : d' = upd d h (d h + 1)) (ho : ∀ j, j ≠ h → ∀ k, g' j k = g j k) (hs : ∀ k, k < d h → g' h k = g h k) :
    sumC (fun j => cnt (g' j) (d' j)) P.nh = sumC (fun j => cnt (g j) (d j)) P.nh + (if g' h (d h) = true then 1 else 0) := by
  have e1 := sumC_one (a := fun j => cnt (g j) (d j)) (b := fun j => cnt (g' j) (d' j)) (h := h) (fun j hj => by
    show cnt (g' j) (d' j) = cnt (g j) (d j)
    rw [hd, upd_other _ _ hj]
    exact cnt_congr (fun k _ => ho j hj k)) P.nh hh
  have e2 : cnt (g' h) (d' h) = cnt (g h) (d h) + (if g' h (d h) = true then 1 else 0) := by
    rw [hd, upd_same]
    exact cnt_more hs
  rw [e2] at e1
  omega

theorem ans_other {K : Kd} (P : Par) (st : St K) {h h' : Nat} (e : h' ≠ h) : (stepSt P st h).ans h' = st.ans h' := by
  by_cases he : K.ends (st.cur h) (stepOf P.n st.f (K.req (st.cur h))) = true
  · have h1 : (stepSt P st h).ans = upd st.ans h (upd (st.ans h) (st.done h) (K.tell (K.next (st.cur h) (stepOf P.n st.f (K.req (st.cur h)))))) := if_pos he
    rw [h1, upd_other _ _ e]
  · have h1 : (stepSt P st h).ans = st.ans := if_neg he
    rw [h1]
theorem ans_goes {K : Kd} (P : Par) (st : St K) {h : Nat} (he : ¬ K.ends (st.cur h) (stepOf P.n st.f (K.req (st.cur h))) = true) : (stepSt P st h).ans = st.ans := if_neg he

theorem pushes_goes {P : Par} {st : St kPile} {h : Nat} (he : ¬ kPile.ends (st.cur h) (stepOf P.n st.f (kPile.req (st.cur h))) = true) (v : Int) : pushes P (stepSt P st h) v = pushes P st v ∧ pops P (stepSt P st h) v = pops P st v := by
  unfold pushes pops isPush isPop
  rw [ans_goes P st he, done_goes P st he]
  exact ⟨rfl, rfl⟩
theorem pushes_ends {P : Par} {st : St kPile} {h : Nat} (hh : h < P.nh) (he : kPile.ends (st.cur h) (stepOf P.n st.f (kPile.req (st.cur h))) = true) (v : Int) {a : Ans} (ha : (stepSt P st h).ans h (st.done h) = a) :
    pushes P (stepSt P st h) v = pushes P st v + (if (P.jb h (st.done h)).kind = 1 ∧ a.ok = true ∧ (P.jb h (st.done h)).h = v then 1 else 0) ∧ pops P (stepSt P st h) v = pops P st v + (if (P.jb h (st.done h)).kind = 2 ∧ a.ok = true ∧ a.val = v then 1 else 0) := by
  have hd := done_ends P st he
  have hk : ∀ k, k < st.done h → (stepSt P st h).ans h k = st.ans h k := fun k hk => (step_done P st h h).2 k hk
  refine ⟨?_, ?_⟩
  · refine (ended_more (g := isPush P st v) (g' := isPush P (stepSt P st h) v) hh hd (fun j hj k => by unfold isPush; rw [ans_other P st hj]) (fun k hk' => by unfold isPush; rw [hk k hk'])).trans ?_
    unfold isPush
    rw [ha]
    simp only [decide_eq_true_eq]
    rfl
  · refine (ended_more (g := isPop P st v) (g' := isPop P (stepSt P st h) v) hh hd (fun j hj k => by unfold isPop; rw [ans_other P st hj]) (fun k hk' => by unfold isPop; rw [hk k hk'])).trans ?_
    unfold isPop
    rw [ha]
    simp only [decide_eq_true_eq]
    rfl

theorem under_one {P : Par} {st : St kPile} {pv pv' : Nat → Int} {h : Nat} (hh : h < P.nh) (hp : ∀ j, j ≠ h → pv' j = pv j) (v : Int) : under P (stepSt P st h).cur pv' v + hasN (st.cur h) v (pv h) = under P st.cur pv v + hasN ((stepSt P st h).cur h) v (pv' h) := by
  refine sumC_one (a := fun j => hasN (st.cur j) v (pv j)) (b := fun j => hasN ((stepSt P st h).cur j) v (pv' j)) (h := h) (fun j hj => ?_) P.nh hh
  show hasN ((stepSt P st h).cur j) v (pv' j) = hasN (st.cur j) v (pv j)
  rw [cur_other P st hj, hp j hj]

theorem hasN_no {s : PiS} (h : ¬ has s) (v p : Int) : hasN s v p = 0 := if_neg (fun hh => h hh.1)
theorem hasN_is {s : PiS} (h : has s) (v p : Int) : hasN s v p = if p = v then 1 else 0 := by
  unfold hasN
  by_cases e : p = v
  · rw [if_pos ⟨h, e⟩, if_pos e]
  · rw [if_neg (fun hh => e hh.2), if_neg e]

/-- Which state a step of a kind belongs to. -/
theorem st_of_act {n : Nat} {f : Nat → Int} {s : PiS} (hs : 0 ≤ s.st ∧ s.st ≤ 6) (h5 : (stepOf n f (preq s)).act = 5) : s.st = 2 ∨ s.st = 6 := by
  have e : (stepOf n f (preq s)).act = actOf (preq s).act := by unfold stepOf; split <;> rfl
  rw [e] at h5
  have : s.st = 0 ∨ s.st = 1 ∨ s.st = 2 ∨ s.st = 3 ∨ s.st = 4 ∨ s.st = 5 ∨ s.st = 6 := by omega
  rcases this with e | e | e | e | e | e | e
  · exfalso; unfold preq at h5; rw [if_pos e] at h5; first | exact absurd (show actOf 1 = 5 from h5) (by decide) | exact absurd (show actOf 2 = 5 from h5) (by decide)
  · exfalso; unfold preq at h5; rw [if_neg (by omega), if_pos e] at h5; first | exact absurd (show actOf 1 = 5 from h5) (by decide) | exact absurd (show actOf 2 = 5 from h5) (by decide)
  · exact .inl e
  · exfalso; unfold preq at h5; rw [if_neg (by omega), if_neg (by omega), if_neg (by omega), if_pos e] at h5
    split at h5
    · first | exact absurd (show actOf 1 = 5 from h5) (by decide) | exact absurd (show actOf 2 = 5 from h5) (by decide)
    · first | exact absurd (show actOf 1 = 5 from h5) (by decide) | exact absurd (show actOf 2 = 5 from h5) (by decide)
  · exfalso; unfold preq at h5; rw [if_neg (by omega), if_neg (by omega), if_neg (by omega), if_neg (by omega), if_pos e] at h5; first | exact absurd (show actOf 1 = 5 from h5) (by decide) | exact absurd (show actOf 2 = 5 from h5) (by decide)
  · exfalso; unfold preq at h5; rw [if_neg (by omega), if_neg (by omega), if_neg (by omega), if_neg (by omega), if_neg (by omega), if_pos e] at h5; first | exact absurd (show actOf 1 = 5 from h5) (by decide) | exact absurd (show actOf 2 = 5 from h5) (by decide)
  · exact .inr e
theorem stepOf_at (n : Nat) (f : Nat → Int) (q : Stp) : (stepOf n f q).at_ = q.at_ := by unfold stepOf; split <;> rfl
theorem at_2 {s : PiS} (h : s.st = 2) : (preq s).at_ = frm s.j.kind := by unfold preq; rw [if_neg (by omega), if_neg (by omega), if_pos h]
theorem at_6 {s : PiS} (h : s.st = 6) : (preq s).at_ = ont s.j.kind := by unfold preq; rw [if_neg (by omega), if_neg (by omega), if_neg (by omega), if_neg (by omega), if_neg (by omega), if_neg (by omega)]
theorem ends_st {s : PiS} {x : Stp} (hs : 0 ≤ s.st ∧ s.st ≤ 6) (he : pends s x = true) : s.st = 0 ∨ s.st = 6 := by
  have : s.st = 0 ∨ s.st = 1 ∨ s.st = 2 ∨ s.st = 3 ∨ s.st = 4 ∨ s.st = 5 ∨ s.st = 6 := by omega
  rcases this with e | e | e | e | e | e | e
  · exact .inl e
  · exfalso; unfold pends at he; rw [if_neg (by omega), if_pos e] at he; cases he
  · exfalso; unfold pends at he; rw [if_neg (by omega), if_neg (by omega), if_pos e] at he; cases he
  · exfalso; unfold pends at he; rw [if_neg (by omega), if_neg (by omega), if_neg (by omega), if_pos e] at he; cases he
  · exfalso; unfold pends at he; rw [if_neg (by omega), if_neg (by omega), if_neg (by omega), if_neg (by omega), if_pos e] at he; cases he
  · exfalso; unfold pends at he; rw [if_neg (by omega), if_neg (by omega), if_neg (by omega), if_neg (by omega), if_neg (by omega), if_pos e] at he; cases he
  · exact .inr e
theorem at_2_pop {n : Nat} {f : Nat → Int} {s : PiS} (h : s.st = 2) (k : s.j.kind = 2) : (stepOf n f (preq s)).at_ = 0 := by rw [stepOf_at, at_2 h, frm_eq, fromN_2 k]; rfl
theorem at_6_pop {n : Nat} {f : Nat → Int} {s : PiS} (h : s.st = 6) (k : s.j.kind = 2) : (stepOf n f (preq s)).at_ = 1 := by rw [stepOf_at, at_6 h, ont_eq, ontoN_2 k]; rfl
theorem next_3 {s : PiS} {x : Stp} (h : s.st = 2) (ho : x.ok = true) : (pnext s x).st = 3 := by unfold pnext; rw [if_neg (by omega), if_neg (by omega), if_pos h, ho]; rfl

theorem PVal.go {r : Nat} {P : Par} {st : St kPile} {l : Nat → List Nat} {ly : List Int} {pv : Nat → Int} (V : PVal r P st l ly pv) {h : Nat} (hh : h < P.nh) (hd : st.done h < P.jn h) (hn : P.n = 2 + 2 * r) (hb : st.k < 4294967295) (hr : r < 4294967296) (hok : AllOk kPile P) :
    ∃ l' ly' pv', PVal r P (stepSt P st h) l' ly' pv' := by
  have hk : (P.jb h (st.done h)).kind = 1 ∨ (P.jb h (st.done h)).kind = 2 := by
    have h2 : perr (P.jb h (st.done h)) = 0 := hok h hh _ hd
    unfold perr at h2
    split at h2
    · exact .inl (by assumption)
    · split at h2
      · exact .inr (by assumption)
      · cases h2
  have Q := V.pr
  have ej := Q.jb h hh
  have hs := Q.rng h hh
  obtain ⟨l', ly', pv', Q', S⟩ := Q.step hh hn hb hr (by rw [ej]; exact hk)
  refine ⟨l', ly', pv', Q', fun v => ?_⟩
  have V0 := V.eq v
  have U := fun (hp : ∀ j, j ≠ h → pv' j = pv j) => under_one (P := P) (st := st) (pv := pv) (pv' := pv') hh hp v
  have GO := fun he => pushes_goes (P := P) (st := st) (h := h) he v
  have EN := fun he => pushes_ends (P := P) (st := st) (h := h) hh he v rfl
  have AN := fun he => ans_ends P st (h := h) he
  have CE : pends (st.cur h) (stepOf P.n st.f (preq (st.cur h))) = true → ¬ has ((stepSt P st h).cur h) := fun he hh' => by
    have e1 := (cur_same P st h).trans (if_pos (show kPile.ends (st.cur h) (stepOf P.n st.f (kPile.req (st.cur h))) = true from he))
    rw [e1] at hh'
    exact absurd (show (3 : Int) ≤ 0 from hh'.1) (by decide)
  have CG : pends (st.cur h) (stepOf P.n st.f (preq (st.cur h))) = false → (stepSt P st h).cur h = pnext (st.cur h) (stepOf P.n st.f (preq (st.cur h))) := fun he => by
    exact (cur_same P st h).trans (if_neg (show ¬ kPile.ends (st.cur h) (stepOf P.n st.f (kPile.req (st.cur h))) = true from fun h' => by have := he.symm.trans h'; cases this))
  have NE : pends (st.cur h) (stepOf P.n st.f (preq (st.cur h))) = false → ¬ kPile.ends (st.cur h) (stepOf P.n st.f (kPile.req (st.cur h))) = true := fun he h' => by have := he.symm.trans h'; cases this
  have A5 := fun h5 => st_of_act (n := P.n) (f := st.f) hs h5
  have HN := fun he hD => has_next (n := P.n) (f := st.f) (by omega) hs he hD
  have N3 := fun h2 ho => next_3 (s := st.cur h) (x := stepOf P.n st.f (preq (st.cur h))) h2 ho
  have ES := fun he => ends_st (x := stepOf P.n st.f (preq (st.cur h))) hs he
  have A6 : PiS.st (st.cur h) = 6 → (stepOf P.n st.f (preq (st.cur h))).act = 5 := fun h6 => by
    have e : (stepOf P.n st.f (preq (st.cur h))).act = actOf (preq (st.cur h)).act := by unfold stepOf; split <;> rfl
    rw [e]
    unfold preq
    rw [if_neg (by omega), if_neg (by omega), if_neg (by omega), if_neg (by omega), if_neg (by omega), if_neg (by omega)]
    rfl
  have k1 : (PiS.j (st.cur h)).kind = 1 → ¬ has (st.cur h) := fun e hh' => by have := hh'.2; omega
  rcases S with ⟨⟨a1, a2, a3, a4⟩, he, ha, rfl, rfl⟩ | ⟨⟨a1, a2, a3, a4⟩, he, ha, rfl, rfl⟩ | ⟨⟨a1, a2, a3, a4⟩, he, ha, rfl, rfl, rfl⟩ | ⟨⟨a1, a2, a3, a4⟩, he, v0, rfl, rfl⟩ | ⟨⟨a1, a2, a3, a4⟩, he, ha, hv, rfl, rfl⟩ | ⟨n1, n2, n3, n4, n5, he, rfl, rfl⟩
  · have U' := U (fun _ _ => rfl)
    rw [hasN_no (CE he), hasN_no (k1 a1)] at U'
    obtain ⟨p1, p2⟩ := EN he
    rw [AN he] at p1 p2
    rw [p1, p2, if_neg (fun hx => by have := ha.symm.trans hx.2.1; cases this), if_neg (fun hx => by have := ha.symm.trans hx.2.1; cases this)]
    omega
  · have U' := U (fun _ _ => rfl)
    rw [hasN_no (CE he), hasN_no (k1 a1)] at U'
    obtain ⟨p1, p2⟩ := EN he
    rw [AN he] at p1 p2
    rw [ej] at a1
    rw [p1, p2, if_neg (c := _ = 2 ∧ _) (fun hx => by have := hx.1; omega), List.count_cons, ej]
    by_cases e : (P.jb h (st.done h)).h = v
    · rw [if_pos ⟨a1, ha, e⟩, if_pos (beq_iff_eq.2 e)]; omega
    · rw [if_neg (fun hx => e hx.2.2), if_neg (fun hx => e (beq_iff_eq.1 hx))]; omega
  · have h0 : PiS.st (st.cur h) = 0 := by
      rcases ES he with e | e
      · exact e
      · have := A6 e; omega
    have U' := U (fun _ _ => rfl)
    have hN0 : ¬ has (st.cur h) := fun hh' => by have := hh'.1; omega
    rw [hasN_no (CE he), hasN_no hN0] at U'
    obtain ⟨p1, p2⟩ := EN he
    rw [AN he] at p1 p2
    rw [p1, p2, if_neg (fun hx => by have := ha.symm.trans hx.2.1; cases this), if_neg (fun hx => by have := ha.symm.trans hx.2.1; cases this)]
    omega
  · have h2 : PiS.st (st.cur h) = 2 := by
      rcases A5 a3 with e | e
      · exact e
      · have := (at_6_pop (n := P.n) (f := st.f) e a1).symm.trans a2
        omega
    have U' := U (fun j hj => upd_other _ _ hj)
    have hN : has (pnext (st.cur h) (stepOf P.n st.f (preq (st.cur h)))) := ⟨by rw [N3 h2 a4]; decide, (congrArg Jb.kind (pnext_j _ _)).trans a1⟩
    have hN0 : ¬ has (st.cur h) := fun hh' => by have := hh'.1; omega
    rw [CG he, hasN_is hN, hasN_no hN0, upd_same] at U'
    obtain ⟨p1, p2⟩ := GO (NE he)
    rw [p1, p2]
    rw [List.count_cons] at V0
    by_cases e : v0 = v
    · rw [if_pos e] at U'; rw [if_pos (beq_iff_eq.2 e)] at V0; omega
    · rw [if_neg e] at U'; rw [if_neg (fun hx => e (beq_iff_eq.1 hx))] at V0; omega
  · have h6 : PiS.st (st.cur h) = 6 := by
      rcases A5 a3 with e | e
      · have := (at_2_pop (n := P.n) (f := st.f) e a1).symm.trans a2
        omega
      · exact e
    have U' := U (fun _ _ => rfl)
    have hN : has (st.cur h) := ⟨by omega, a1⟩
    rw [hasN_no (CE he), hasN_is hN] at U'
    obtain ⟨p1, p2⟩ := EN he
    rw [AN he] at p1 p2
    rw [ej] at a1
    rw [p1, p2, if_neg (c := _ = 1 ∧ _) (fun hx => by have := hx.1; omega)]
    by_cases e : pv' h = v
    · rw [if_pos ⟨a1, ha, hv.trans e⟩]; rw [if_pos e] at U'; omega
    · rw [if_neg (fun hx => e (hv.symm.trans hx.2.2))]; rw [if_neg e] at U'; omega
  · have U' := U (fun _ _ => rfl)
    have hI := HN he n4
    rw [CG he] at U'
    obtain ⟨p1, p2⟩ := GO (NE he)
    rw [p1, p2]
    by_cases hN : has (st.cur h)
    · rw [hasN_is hN, hasN_is (hI.2 hN)] at U'; omega
    · rw [hasN_no hN, hasN_no (fun hx => hN (hI.1 hx))] at U'; omega

theorem pv_run {r : Nat} {P : Par} (h1 : 1 ≤ r) (h2 : r ≤ 64) (hn : P.n = 2 + 2 * r) (hok : AllOk kPile P) : ∀ m, m < 4294967295 → ∃ l ly pv, PVal r P (runSt P (st0 kPile P (pfr r)) m) l ly pv
  | 0, _ => ⟨_, _, _, pv_start h1 h2⟩
  | m + 1, hm => by
    obtain ⟨l, ly, pv, Q⟩ := pv_run h1 h2 hn hok m (by omega)
    rcases run_succ_cases P (st0 kPile P (pfr r)) rfl m with ⟨e, _⟩ | ⟨h, ht, hh, hd, hk, e⟩
    · rw [e]; exact ⟨l, ly, pv, Q⟩
    · rw [e]
      exact Q.go hh hd hn (by omega) (by omega) hok

/-- Behind a run that has ended: all places in the two lists, each once; and value by value what was pushed is what was popped and what lies there. -/
theorem pv_whole {r : Nat} {P : Par} {m : Nat} (h1 : 1 ≤ r) (h2 : r ≤ 64) (hn : P.n = 2 + 2 * r) (hok : AllOk kPile P) (hm : m < 4294967295) (he : ∀ h, h < P.nh → P.jn h ≤ (runSt P (st0 kPile P (pfr r)) m).done h) :
    ∃ l0 l1 : List Nat, Chain (runSt P (st0 kPile P (pfr r)) m).f (idx ((runSt P (st0 kPile P (pfr r)) m).f 0)) l0 ∧ Chain (runSt P (st0 kPile P (pfr r)) m).f (idx ((runSt P (st0 kPile P (pfr r)) m).f 1)) l1 ∧ l0.length + l1.length = r ∧ (l0 ++ l1).Nodup ∧ (∀ q, q ∈ l0 ++ l1 → 1 ≤ q ∧ q ≤ r) ∧
      ∀ v, pushes P (runSt P (st0 kPile P (pfr r)) m) v = pops P (runSt P (st0 kPile P (pfr r)) m) v + (l0.map (fun q => (runSt P (st0 kPile P (pfr r)) m).f (2 * q + 1))).count v := by
  obtain ⟨l, ly, pv, V⟩ := pv_run h1 h2 hn hok m hm
  obtain ⟨w1, w2, w3⟩ := pr_whole V.pr he
  refine ⟨l 0, l 1, V.pr.pi.ch 0 (by omega), V.pr.pi.ch 1 (by omega), w1, w2, w3, fun v => ?_⟩
  have := V.eq v
  have e : under P (runSt P (st0 kPile P (pfr r)) m).cur pv v = 0 := by
    have z : ∀ n, sumC (fun _ => 0) n = 0 := fun n => by
      induction n with
      | zero => rfl
      | succ n ih => rw [sumC, ih]
    refine (sumC_congr _ (fun h hh => ?_)).trans (z P.nh)
    refine hasN_no (fun hx => ?_) _ _
    have h0 := idle_run P (pfr r) h m (he h hh)
    have h3 : 3 ≤ stOf ((runSt P (st0 kPile P (pfr r)) m).cur h) := hx.1
    omega
  rw [e, V.pr.vals] at this
  exact this
end Pile
end Go.Proofs.Ytbjlpmahomjgjaa
