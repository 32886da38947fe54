/-
  Lemmas: BellU.
-/
import Derived.Test.YtbjlpmahomjgjaaTw01
import Derived.Test.YtbjlpmahomjgjaaTp13
set_option linter.unusedVariables false
set_option linter.unusedSimpArgs false
namespace Go.Proofs.Ytbjlpmahomjgjaa
open Go.RowKit
namespace Bell

/-- How far a Ring is. -/
def stg (c : BeS) : Nat := if c.st = 0 then 0 else if c.st = 1 then 1 else if c.st = 2 then 2 else 3
theorem stg_le (c : BeS) : stg c ≤ 3 := by
  unfold stg
  repeat' split
  all_goals omega
def sumP (g : Nat → Nat) : Nat → Nat
  | 0 => 0
  | n + 1 => sumP g n + g n
theorem sumP_congr {g g' : Nat → Nat} : ∀ n, (∀ i, i < n → g i = g' i) → sumP g n = sumP g' n
  | 0, _ => rfl
  | n + 1, h => by simp only [sumP]; rw [sumP_congr n (fun i hi => h i (by omega)), h n (by omega)]
theorem sumP_lt {g g' : Nat → Nat} {h : Nat} (hl : g' h < g h) (he : ∀ q, q ≠ h → g' q = g q) : ∀ n, h < n → sumP g' n < sumP g n
  | 0, hh => absurd hh (Nat.not_lt_zero h)
  | n + 1, hh => by
    simp only [sumP]
    by_cases e : h = n
    · subst e
      rw [sumP_congr (g' := g) h (fun i hi => he i (by omega))]
      omega
    · have := sumP_lt hl he n (by omega)
      rw [he n (fun x => e x.symm)]
      omega
theorem sumP_le {g : Nat → Nat} {b : Nat} (hb : ∀ q, g q ≤ b) : ∀ n, sumP g n ≤ n * b
  | 0 => by simp [sumP]
  | n + 1 => by
    simp only [sumP]
    have := sumP_le hb n
    have := hb n
    rw [Nat.add_mul]
    omega

section
variable {n : Nat} {f : Nat → Int} {cur : Nat → BeS} {d : Nat → Nat} {R h : Nat}
/-- A step ends a Ring, or brings it further, or only waits. -/
theorem step_go (H : BI n (f 1) (f 0) cur d R) (hh : h < n) (hhand : (cur h).hand = h) :
    bends n (cur h) (stepOf 2 f (breq n (cur h))) = true ∨ (bends n (cur h) (stepOf 2 f (breq n (cur h))) = false ∧ stg (bnext n (cur h) (stepOf 2 f (breq n (cur h)))) = stg (cur h) + 1) ∨
      (bends n (cur h) (stepOf 2 f (breq n (cur h))) = false ∧ (cur h).st = 5 ∧ d h = R ∧ bnext n (cur h) (stepOf 2 f (breq n (cur h))) = cur h ∧ wordsOf 2 f (breq n (cur h)) = f) := by
  have hw : (cur h).st = 5 ∨ ((cur h).st = 2 ∧ ¬ (cur h).rung = n) → breq n (cur h) = ⟨h, 1, 1, 0, 0, true⟩ := fun s => by rcases s with s | s <;> simp [breq, s, hhand]
  obtain ⟨x1, x2, x3, x4, x5⟩ := step2 (f := f) (hand := h) (act := 1) (at_ := 1) (had := 0) (put := 0) (ok := true) (by decide) (by decide)
  replace x4 : (stepOf 2 f ⟨h, 1, 1, 0, 0, true⟩).had = f 1 := x4
  rcases H.ok h hh with ⟨s, _⟩ | ⟨s, _⟩ | ⟨s, m, q, e⟩ | ⟨s, m, q, e⟩ | ⟨s, m, e⟩ | ⟨s, m, e⟩
  · exact .inr (.inl ⟨by simp [bends, s], by simp [bnext, stg, s]⟩)
  · exact .inr (.inl ⟨by simp [bends, s], by simp [bnext, stg, s]⟩)
  · rw [hw (.inr ⟨s, q⟩)]
    by_cases g : f 1 = (cur h).mine
    · exact .inr (.inl ⟨by simp [bends, s, q, x4, g], by simp [bnext, stg, s, q, x4, g]⟩)
    · exact .inl (by simp [bends, s, q, x4, g])
  · exact .inr (.inl ⟨by simp [bends, s, q], by simp [bnext, stg, s, q]⟩)
  · exact .inl (by simp [bends, s])
  · rw [hw (.inl s)]
    by_cases g : f 1 = (cur h).mine
    · refine .inr (.inr ⟨by simp [bends, s, x4, g], s, ?_, by simp [bnext, s, x4, g], x5.trans (put_load _ _ _ _)⟩)
      have := H.rnd
      rw [g, m] at this
      omega
    · exact .inl (by simp [bends, s, x4, g])

/-- Somebody goes on. -/
theorem BI.works (H : BI n (f 1) (f 0) cur d R) (hn : 1 ≤ n) {jn : Nat} (hle : ∀ q, q < n → d q ≤ jn) (hg : ∃ q, q < n ∧ d q < jn) : ∃ q, q < n ∧ d q < jn ∧ ¬ ((cur q).st = 5 ∧ d q = R) := by
  by_cases hex : ∃ q, q < n ∧ d q < jn ∧ ¬ ((cur q).st = 5 ∧ d q = R)
  · exact hex
  · exfalso
    have hall : ∀ q, q < n → d q < jn → (cur q).st = 5 ∧ d q = R := fun q hq hl => by
      by_cases e : (cur q).st = 5 ∧ d q = R
      · exact e
      · exact absurd ⟨q, hq, hl, e⟩ hex
    obtain ⟨q0, h0, l0⟩ := hg
    have hR : R < jn := by have := (hall q0 h0 l0).2; omega
    have all5 : ∀ q, q < n → (cur q).st = 5 ∧ d q = R := fun q hq => by
      by_cases e : d q < jn
      · exact hall q hq e
      · have := (H.adds_of hq).2.2.1
        omega
    have hin : ∀ q, q < n → inR cur d R q = true := fun q hq => by have := all5 q hq; simp [inR, this]
    rcases H.ph with ⟨_, _, l⟩ | ⟨l, hl, s, _⟩ | ⟨l, hl, s, _⟩
    · have : cnt (inR cur d R) n = n := by
        have e : ∀ m, m ≤ n → cnt (inR cur d R) m = m := fun m => by
          induction m with
          | zero => intro _; rfl
          | succ m ih => intro hm; simp only [cnt]; rw [ih (by omega), hin m (by omega)]; simp
        exact e n (Nat.le_refl _)
      omega
    · rw [(all5 l hl).1] at s; exact absurd s (by decide)
    · rw [(all5 l hl).1] at s; exact absurd s (by decide)
end

/-- What is left to do. -/
def phi (P : Par) (st : St (kBell P.nh)) : Nat := sumP (fun q => 5 * (P.jn q - st.done q) - stg (st.cur q)) P.nh

section
variable {P : Par} {st : St (kBell P.nh)} {R h : Nat}
theorem phi_step (hn : P.n = 2) (H : RunI P st R) (hh : h < P.nh) (hg : st.done h < P.jn h) :
    phi P (stepSt P st h) < phi P st ∨ (BeS.st (st.cur h) = 5 ∧ st.done h = R ∧ (stepSt P st h).cur = st.cur ∧ (stepSt P st h).done = st.done) := by
  have G := step_go H.bi hh (H.own h hh)
  rw [← hn] at G
  have oth : ∀ c' : BeS, ∀ q, q ≠ h → upd (α := BeS) st.cur h c' q = st.cur q := fun c' q e => upd_other (α := BeS) st.cur c' e
  have le := stg_le (st.cur h)
  rcases G with he | ⟨he, hs⟩ | ⟨he, s5, dR, hc, _⟩
  · refine .inl ?_
    have ed : (stepSt P st h).done = upd st.done h (st.done h + 1) := if_pos he
    have ec : (stepSt P st h).cur = upd (α := BeS) st.cur h (binit h (P.jb h (st.done h + 1))) := congrArg (upd (α := BeS) st.cur h) (if_pos he)
    unfold phi
    rw [ed, ec]
    refine sumP_lt (h := h) ?_ (fun q e => ?_) P.nh hh
    · show 5 * (P.jn h - upd st.done h (st.done h + 1) h) - stg (upd (α := BeS) st.cur h (binit h (P.jb h (st.done h + 1))) h) < _
      rw [upd_same st.done, upd_same (α := BeS) st.cur]
      have : stg (binit h (P.jb h (st.done h + 1))) = 0 := rfl
      omega
    · show 5 * (P.jn q - upd st.done h (st.done h + 1) q) - stg (upd (α := BeS) st.cur h (binit h (P.jb h (st.done h + 1))) q) = _
      rw [upd_other st.done _ e, oth _ q e]
  · refine .inl ?_
    have hf : ¬ bends P.nh (st.cur h) (stepOf P.n st.f (breq P.nh (st.cur h))) = true := by rw [he]; decide
    have ed : (stepSt P st h).done = st.done := if_neg hf
    have ec : (stepSt P st h).cur = upd (α := BeS) st.cur h (bnext P.nh (st.cur h) (stepOf P.n st.f (breq P.nh (st.cur h)))) := congrArg (upd (α := BeS) st.cur h) (if_neg hf)
    unfold phi
    rw [ed, ec]
    refine sumP_lt (h := h) ?_ (fun q e => ?_) P.nh hh
    · show 5 * (P.jn h - st.done h) - stg (upd (α := BeS) st.cur h (bnext P.nh (st.cur h) (stepOf P.n st.f (breq P.nh (st.cur h)))) h) < _
      rw [upd_same (α := BeS) st.cur, hs]
      omega
    · show 5 * (P.jn q - st.done q) - stg (upd (α := BeS) st.cur h (bnext P.nh (st.cur h) (stepOf P.n st.f (breq P.nh (st.cur h)))) q) = _
      rw [oth _ q e]
  · refine .inr ⟨s5, dR, ?_, ?_⟩
    · have hf : ¬ bends P.nh (st.cur h) (stepOf P.n st.f (breq P.nh (st.cur h))) = true := by rw [he]; decide
      have ec : (stepSt P st h).cur = upd (α := BeS) st.cur h (bnext P.nh (st.cur h) (stepOf P.n st.f (breq P.nh (st.cur h)))) := congrArg (upd (α := BeS) st.cur h) (if_neg hf)
      rw [ec, hc]
      funext q
      by_cases e : q = h
      · subst e; exact upd_same (α := BeS) st.cur q _
      · exact oth _ q e
    · have hf : ¬ bends P.nh (st.cur h) (stepOf P.n st.f (breq P.nh (st.cur h))) = true := by rw [he]; decide
      exact if_neg hf
end

theorem least {p : Nat → Bool} : ∀ i, p i = true → ∃ k, k ≤ i ∧ p k = true ∧ ∀ j, j < k → p j = false := fun i => by
  induction i using Nat.strongRecOn with
  | ind i ih =>
    intro hp
    by_cases hex : ∃ j, j < i ∧ p j = true
    · obtain ⟨j, hj, hpj⟩ := hex
      obtain ⟨k, h1, h2, h3⟩ := ih j hj hpj
      exact ⟨k, by omega, h2, h3⟩
    · exact ⟨i, Nat.le_refl _, hp, fun j hj => by
        cases e : p j with
        | false => rfl
        | true => exact absurd ⟨j, hj, e⟩ hex⟩

section
variable {P : Par} {k : Nat}

/-- Behind the schedule: somebody goes on within as many steps as there are hands. -/
theorem prog (hn : P.n = 2) (h1 : 1 ≤ P.nh) (h8 : P.nh ≤ 8) (hj : ∀ h, h < P.nh → P.jn h ≤ 256) : ∀ i m q, i < P.nh → P.ns ≤ (runSt P (st0 (kBell P.nh) P (fun _ => 0)) m).k → q < P.nh → (runSt P (st0 (kBell P.nh) P (fun _ => 0)) m).done q < P.jn q →
    ((((runSt P (st0 (kBell P.nh) P (fun _ => 0)) m).last + 1).toNat + i) % P.nh = q) → (∀ R, RunI P (runSt P (st0 (kBell P.nh) P (fun _ => 0)) m) R → ¬ (BeS.st ((runSt P (st0 (kBell P.nh) P (fun _ => 0)) m).cur q) = 5 ∧ (runSt P (st0 (kBell P.nh) P (fun _ => 0)) m).done q = R)) →
    ∃ t, t ≤ i + 1 ∧ P.ns ≤ (runSt P (st0 (kBell P.nh) P (fun _ => 0)) (m + t)).k ∧ phi P (runSt P (st0 (kBell P.nh) P (fun _ => 0)) (m + t)) < phi P (runSt P (st0 (kBell P.nh) P (fun _ => 0)) m) := fun i => by
  induction i using Nat.strongRecOn with
  | ind i ih =>
    intro m q hi hk hq hg ho hw
    obtain ⟨R, H⟩ := run_i P hn h1 h8 hj m
    obtain ⟨st, hst⟩ : ∃ st, runSt P (st0 (kBell P.nh) P (fun _ => 0)) m = st := ⟨_, rfl⟩
    rw [hst] at hk hg ho hw H ⊢
    obtain ⟨i', hi', hp, hmin⟩ := least (p := fun j => st.going P (((st.last + 1).toNat + j) % P.nh)) i (by simp only [ho, St.going]; simpa using hg)
    obtain ⟨h, hh⟩ : ∃ h, ((st.last + 1).toNat + i') % P.nh = h := ⟨_, rfl⟩
    have hb : behindOf P.nh (st.going P) st.last = (h : Int) := by rw [← hh]; exact behindOf_some (by omega) hp hmin
    have ht : st.turn P = (h : Int) := by unfold St.turn; rw [if_neg (by omega)]; exact hb
    have hlt : h < P.nh := by rw [← hh]; exact Nat.mod_lt _ (by omega)
    have hgh : st.done h < P.jn h := by have := hp; simp only [hh, St.going] at this; simpa using this
    have hrun : runSt P (st0 (kBell P.nh) P (fun _ => 0)) (m + 1) = stepSt P st h := by rw [← hst]; exact runSt_step (by rw [hst]; exact ht)
    rcases phi_step hn H hlt hgh with hd | ⟨s5, dR, ec, ed⟩
    · exact ⟨1, by omega, by rw [hrun]; show P.ns ≤ st.k + 1; omega, by rw [hrun]; exact hd⟩
    · have hne : h ≠ q := fun e => hw R H (by subst e; exact ⟨s5, dR⟩)
      have hii : i' < i := by
        rcases Nat.lt_or_ge i' i with l | l
        · exact l
        · exact absurd (by rw [← hh, ← ho, Nat.le_antisymm hi' l]) hne
      have hphi : phi P (stepSt P st h) = phi P st := by unfold phi; rw [ec, ed]
      obtain ⟨t, t1, t2, t3⟩ := ih (i - i' - 1) (by omega) (m + 1) q (by omega) (by rw [hrun]; show P.ns ≤ st.k + 1; omega) hq (by rw [hrun, ed]; exact hg) (by
        rw [hrun]
        show (((h : Int) + 1).toNat + (i - i' - 1)) % P.nh = q
        have e1 : ((h : Int) + 1).toNat + (i - i' - 1) = h + (i - i') := by omega
        rw [e1, ← hh, Nat.mod_add_mod, ← ho]
        congr 1
        omega) (fun R' H' => by
        rw [hrun] at H' ⊢
        rw [ec, ed]
        have e1 := H'.bi.adds_of hlt
        intro hc
        refine hw R H ⟨hc.1, ?_⟩
        have e2 := H'.bi.rnd
        have e3 := H.bi.rnd
        have hfw : (stepSt P st h).f 1 = st.f 1 := by
          have G := step_go H.bi hlt (H.own h hlt)
          rw [← hn] at G
          rcases G with he | ⟨he, hs⟩ | ⟨_, _, _, _, hf⟩
          · have : (stepSt P st h).done = upd st.done h (st.done h + 1) := if_pos he
            rw [ed] at this
            have := congrFun this h
            rw [upd_same] at this
            omega
          · have hf : ¬ bends P.nh (st.cur h) (stepOf P.n st.f (breq P.nh (st.cur h))) = true := by rw [he]; decide
            have e4 : (stepSt P st h).cur = upd (α := BeS) st.cur h (bnext P.nh (st.cur h) (stepOf P.n st.f (breq P.nh (st.cur h)))) := congrArg (upd (α := BeS) st.cur h) (if_neg hf)
            rw [ec] at e4
            have e5 := congrFun e4 h
            have e6 : st.cur h = bnext P.nh (st.cur h) (stepOf P.n st.f (breq P.nh (st.cur h))) := e5.trans (upd_same (α := BeS) st.cur h _)
            rw [← e6] at hs
            omega
          · exact congrFun hf 1
        rw [hfw, e3] at e2
        have e7 : R = R' := by omega
        rw [e7]; exact hc.2)
      rw [hrun, hphi] at t3
      exact ⟨t + 1, by omega, by rw [show m + (t + 1) = m + 1 + t from by omega]; exact t2, by rw [show m + (t + 1) = m + 1 + t from by omega]; exact t3⟩

/-- Behind the schedule a run ends. -/
theorem run_ends (hn : P.n = 2) (h1 : 1 ≤ P.nh) (h8 : P.nh ≤ 8) (hj : ∀ h, h < P.nh → P.jn h = k) (hk : k ≤ 256) : ∀ b m, phi P (runSt P (st0 (kBell P.nh) P (fun _ => 0)) m) ≤ b → P.ns ≤ (runSt P (st0 (kBell P.nh) P (fun _ => 0)) m).k →
    ∃ t, t ≤ 8 * b ∧ (runSt P (st0 (kBell P.nh) P (fun _ => 0)) (m + t)).turn P < 0 := fun b => by
  have hj' : ∀ h, h < P.nh → P.jn h ≤ 256 := fun h hh => by rw [hj h hh]; exact hk
  induction b with
  | zero =>
    intro m hb hs
    rcases turn_ok P (runSt P (st0 (kBell P.nh) P (fun _ => 0)) m) with ⟨e, _⟩ | ⟨h, e, hh, hg⟩
    · exact ⟨0, by omega, by rw [Nat.add_zero, e]; decide⟩
    · exfalso
      obtain ⟨R, H⟩ := run_i P hn h1 h8 hj' m
      have : ∀ n, h < n → 5 * (P.jn h - (runSt P (st0 (kBell P.nh) P (fun _ => 0)) m).done h) - stg ((runSt P (st0 (kBell P.nh) P (fun _ => 0)) m).cur h) ≤ sumP (fun q => 5 * (P.jn q - (runSt P (st0 (kBell P.nh) P (fun _ => 0)) m).done q) - stg ((runSt P (st0 (kBell P.nh) P (fun _ => 0)) m).cur q)) n := fun n => by
        induction n with
        | zero => intro h; omega
        | succ n ih =>
          intro hl
          simp only [sumP]
          by_cases e : h = n
          · subst e; omega
          · have := ih (by omega); omega
      have h2 := this P.nh hh
      have h3 := stg_le ((runSt P (st0 (kBell P.nh) P (fun _ => 0)) m).cur h)
      have h4 : sumP (fun q => 5 * (P.jn q - (runSt P (st0 (kBell P.nh) P (fun _ => 0)) m).done q) - stg ((runSt P (st0 (kBell P.nh) P (fun _ => 0)) m).cur q)) P.nh ≤ 0 := hb
      omega
  | succ b ih =>
    intro m hb hs
    rcases turn_ok P (runSt P (st0 (kBell P.nh) P (fun _ => 0)) m) with ⟨e, _⟩ | ⟨h, e, hh, hg⟩
    · exact ⟨0, by omega, by rw [Nat.add_zero, e]; decide⟩
    · obtain ⟨R, H⟩ := run_i P hn h1 h8 hj' m
      obtain ⟨q, hq, hl, hw⟩ := H.bi.works h1 (jn := k) (fun q hq => by rw [← hj q hq]; exact H.le q hq) ⟨h, hh, by rw [← hj h hh]; exact hg⟩
      obtain ⟨i, hi, ho⟩ : ∃ i, i < P.nh ∧ (((runSt P (st0 (kBell P.nh) P (fun _ => 0)) m).last + 1).toNat + i) % P.nh = q := by
        refine ⟨(q + (P.nh - ((runSt P (st0 (kBell P.nh) P (fun _ => 0)) m).last + 1).toNat % P.nh)) % P.nh, Nat.mod_lt _ (by omega), ?_⟩
        have hm := Nat.mod_lt ((runSt P (st0 (kBell P.nh) P (fun _ => 0)) m).last + 1).toNat (show 0 < P.nh by omega)
        rw [Nat.add_mod_mod, ← Nat.mod_add_mod]
        have : ((runSt P (st0 (kBell P.nh) P (fun _ => 0)) m).last + 1).toNat % P.nh + (q + (P.nh - ((runSt P (st0 (kBell P.nh) P (fun _ => 0)) m).last + 1).toNat % P.nh)) = q + P.nh := by omega
        rw [this, Nat.add_mod_right, Nat.mod_eq_of_lt hq]
      obtain ⟨t, t1, t2, t3⟩ := prog hn h1 h8 hj' i m q hi hs hq (by rw [hj q hq]; exact hl) ho (fun R' H' hc => hw ⟨hc.1, by
        have e2 := H'.bi.rnd
        have e3 := H.bi.rnd
        rw [e3] at e2
        have : R = R' := by omega
        rw [this]; exact hc.2⟩)
      obtain ⟨t', u1, u2⟩ := ih (m + t) (by omega) t2
      exact ⟨t + t', by omega, by rw [← Nat.add_assoc]; exact u2⟩

/-- A schedule of 2000 at most: ended behind 65536 steps. -/
theorem ended (hn : P.n = 2) (h1 : 1 ≤ P.nh) (h8 : P.nh ≤ 8) (hj : ∀ h, h < P.nh → P.jn h = k) (hk : k ≤ 20) (hs : P.ns ≤ 2000) : (runSt P (st0 (kBell P.nh) P (fun _ => 0)) 65536).turn P < 0 := by
  have stuck : ∀ m, m ≤ 65536 → (runSt P (st0 (kBell P.nh) P (fun _ => 0)) m).turn P < 0 → (runSt P (st0 (kBell P.nh) P (fun _ => 0)) 65536).turn P < 0 := fun m hm ht => by
    have := runSt_stuck ht (65536 - m)
    rw [show m + (65536 - m) = 65536 from by omega] at this
    rw [this]; exact ht
  have hkk := runSt_k P (st0 (kBell P.nh) P (fun _ => 0)) rfl P.ns
  rcases Nat.lt_or_ge (runSt P (st0 (kBell P.nh) P (fun _ => 0)) P.ns).k P.ns with l | l
  · exact stuck P.ns (by omega) (hkk.2 l)
  · have hphi : phi P (runSt P (st0 (kBell P.nh) P (fun _ => 0)) P.ns) ≤ 800 := by
      unfold phi
      have : ∀ m, m ≤ P.nh → sumP (fun q => 5 * (P.jn q - (runSt P (st0 (kBell P.nh) P (fun _ => 0)) P.ns).done q) - stg ((runSt P (st0 (kBell P.nh) P (fun _ => 0)) P.ns).cur q)) m ≤ m * 100 := fun m => by
        induction m with
        | zero => intro _; simp [sumP]
        | succ m ih =>
          intro hm
          simp only [sumP]
          have := ih (by omega)
          have e := hj m (by omega)
          omega
      have := this P.nh (Nat.le_refl _)
      omega
    obtain ⟨t, t1, t2⟩ := run_ends hn h1 h8 hj (by omega) 800 P.ns hphi l
    exact stuck (P.ns + t) (by omega) t2
end
end Bell
end Go.Proofs.Ytbjlpmahomjgjaa
