/-
  TurnTrace, told without a program: what each step of a run of acts says of the state ahead of it.
-/
import Derived.Test.YtmajooheeeoccaaHist
namespace Go.Proofs.Ytmajooheeeoccaa
set_option linter.unusedVariables false
set_option linter.unusedSimpArgs false
variable {P : Par} {f : Nat → Int}

structure StepFact (P : Par) (f : Nat → Int) (m i h d : Nat) (x : Stp) : Prop where
  hh : h < P.nh
  hd : (runSt P (st0 kAct P f) i).done h = d
  dl : d < P.jn h
  xs : (runSt P (st0 kAct P f) m).s i = x
  hand : x.hand = h
  act : x.act = (P.jb h d).kind
  at_ : x.at_ = (P.jb h d).a
  ansOk : ((runSt P (st0 kAct P f) m).ans h d).ok = x.ok
  ansVal : ((runSt P (st0 kAct P f) m).ans h d).val = x.had
  told : d < (runSt P (st0 kAct P f) m).done h
  done' : (runSt P (st0 kAct P f) (i + 1)).done = upd (runSt P (st0 kAct P f) i).done h (d + 1)
  inside : 0 ≤ x.at_ ∧ x.at_ < P.n → x.had = (runSt P (st0 kAct P f) i).f x.at_.toNat ∧ (runSt P (st0 kAct P f) (i + 1)).f = putF (runSt P (st0 kAct P f) i).f x.at_.toNat x.put
  outside : ¬ (0 ≤ x.at_ ∧ x.at_ < P.n) → x.had = 0 ∧ x.put = 0 ∧ (runSt P (st0 kAct P f) (i + 1)).f = (runSt P (st0 kAct P f) i).f
  notOk : x.ok = false → x.act = 5 ∧ x.put = x.had
  putB : 0 ≤ x.at_ ∧ x.at_ < P.n → (0 ≤ (runSt P (st0 kAct P f) i).f x.at_.toNat ∧ (runSt P (st0 kAct P f) i).f x.at_.toNat ≤ 18446744073709551615) → (P.jb h d).wf → 0 ≤ x.put ∧ x.put ≤ 18446744073709551615

theorem stepFact (hok : AllOk kAct P) (m i : Nat) (hi : i < (runSt P (st0 kAct P f) m).k) : ∃ h d x, StepFact P f m i h d x := by
  obtain ⟨hk, ⟨h, ht, hh, hd, e⟩, hs⟩ := hist P (st0 kAct P f) rfl m i hi
  have him : i + 1 ≤ m := by have := (runSt_k P (st0 kAct P f) rfl m).1; omega
  have hkind : ¬ ((P.jb h ((runSt P (st0 kAct P f) i).done h)).kind < 1 ∨ 5 < (P.jb h ((runSt P (st0 kAct P f) i).done h)).kind) := by
    have h1 := hok h hh _ hd
    generalize P.jb h ((runSt P (st0 kAct P f) i).done h) = y at h1
    intro hc
    have h2 : kAct.err y = 200 := by show (if _ then _ else _) = _; rw [if_pos hc]
    rw [h2] at h1
    cases h1
  have hact : actOf (P.jb h ((runSt P (st0 kAct P f) i).done h)).kind = (P.jb h ((runSt P (st0 kAct P f) i).done h)).kind := by unfold actOf; rw [if_neg hkind]
  have hcur := act_cur P f i h
  have hends : ∀ a b, kAct.ends a b = true := fun _ _ => rfl
  have hx : (runSt P (st0 kAct P f) m).s i = stepOf P.n (runSt P (st0 kAct P f) i).f (kAct.req (kAct.init h (P.jb h ((runSt P (st0 kAct P f) i).done h)))) := by
    rw [hs, e]
    simp only [stepSt, hcur]
    rw [hk, upd_same]
  have hdone : (runSt P (st0 kAct P f) (i + 1)).done = upd (runSt P (st0 kAct P f) i).done h ((runSt P (st0 kAct P f) i).done h + 1) := by
    rw [e]; simp only [stepSt, hends, if_true]
  have hf : (runSt P (st0 kAct P f) (i + 1)).f = wordsOf P.n (runSt P (st0 kAct P f) i).f (kAct.req (kAct.init h (P.jb h ((runSt P (st0 kAct P f) i).done h)))) := by
    rw [e]; simp only [stepSt, hcur]
  have hst := stays P (st0 kAct P f) rfl (i + 1) h (m - (i + 1))
  rw [show i + 1 + (m - (i + 1)) = m by omega] at hst
  have hd1 : (runSt P (st0 kAct P f) (i + 1)).done h = (runSt P (st0 kAct P f) i).done h + 1 := by rw [hdone, upd_same]
  have hans : (runSt P (st0 kAct P f) m).ans h ((runSt P (st0 kAct P f) i).done h) = ⟨((runSt P (st0 kAct P f) m).s i).ok, ((runSt P (st0 kAct P f) m).s i).had⟩ := by
    rw [hst.2 _ (by omega), hx, e]
    simp only [stepSt, hends, if_true, upd_same, hcur]
    rfl
  refine ⟨h, _, _, hh, rfl, hd, rfl, ?_, ?_, ?_, by rw [hans], by rw [hans], by omega, hdone, ?_, ?_, ?_, ?_⟩
  · rw [hx]; unfold stepOf; split <;> rfl
  · rw [hx]; unfold stepOf; split <;> exact hact
  · rw [hx]; unfold stepOf; split <;> rfl
  · intro hin
    have hat : ((runSt P (st0 kAct P f) m).s i).at_ = (P.jb h ((runSt P (st0 kAct P f) i).done h)).a := by rw [hx]; unfold stepOf; split <;> rfl
    have hin' : 0 ≤ (kAct.req (kAct.init h (P.jb h ((runSt P (st0 kAct P f) i).done h)))).at_ ∧ (kAct.req (kAct.init h (P.jb h ((runSt P (st0 kAct P f) i).done h)))).at_ < P.n := by rw [hat] at hin; exact hin
    refine ⟨?_, ?_⟩
    · rw [hx]; unfold stepOf; rw [if_pos hin']
    · rw [hf, hx]; unfold wordsOf; rw [if_pos hin']; unfold stepOf; rw [if_pos hin']
  · intro hout
    have hat : ((runSt P (st0 kAct P f) m).s i).at_ = (P.jb h ((runSt P (st0 kAct P f) i).done h)).a := by rw [hx]; unfold stepOf; split <;> rfl
    have hout' : ¬ (0 ≤ (kAct.req (kAct.init h (P.jb h ((runSt P (st0 kAct P f) i).done h)))).at_ ∧ (kAct.req (kAct.init h (P.jb h ((runSt P (st0 kAct P f) i).done h)))).at_ < P.n) := by rw [hat] at hout; exact hout
    refine ⟨?_, ?_, ?_⟩
    · rw [hx]; unfold stepOf; rw [if_neg hout']
    · rw [hx]; unfold stepOf; rw [if_neg hout']
    · rw [hf]; unfold wordsOf; rw [if_neg hout']
  · intro hno
    rw [hx] at hno ⊢
    unfold stepOf at hno ⊢
    split at hno
    · rename_i hin
      rw [if_pos hin]
      simp only [Bool.not_eq_false', Bool.and_eq_true, decide_eq_true_eq] at hno
      refine ⟨hno.1, ?_⟩
      show putBy _ _ _ _ = _
      unfold putBy
      rw [hno.1, if_neg (by decide), if_neg (by decide), if_pos rfl, if_neg hno.2]
    · rename_i hin
      rw [if_neg hin]
      simp only [decide_eq_false_iff_not, Decidable.not_not] at hno
      exact ⟨hno, rfl⟩
  · intro hin hb hwf
    have hat : ((runSt P (st0 kAct P f) m).s i).at_ = (P.jb h ((runSt P (st0 kAct P f) i).done h)).a := by rw [hx]; unfold stepOf; split <;> rfl
    rw [hat] at hb
    have hin' : 0 ≤ (kAct.req (kAct.init h (P.jb h ((runSt P (st0 kAct P f) i).done h)))).at_ ∧ (kAct.req (kAct.init h (P.jb h ((runSt P (st0 kAct P f) i).done h)))).at_ < P.n := by rw [hat] at hin; exact hin
    rw [hx]
    unfold stepOf
    rw [if_pos hin']
    exact putBy_bounds hb hwf

/-- Where a run did not end all its tasks it made as many steps as it might. -/
theorem run_full (P : Par) (f : Nat → Int) (m : Nat) (h : ¬ cnt ((runSt P (st0 kAct P f) m).going P) P.nh = 0) : (runSt P (st0 kAct P f) m).k = m := by
  obtain ⟨h1, h2⟩ := runSt_k P (st0 kAct P f) rfl m
  rcases Nat.lt_or_ge (runSt P (st0 kAct P f) m).k m with l | l
  · have ht := h2 l
    rcases turn_ok P (runSt P (st0 kAct P f) m) with ⟨_, h0⟩ | ⟨i, hi, _⟩
    · exact absurd h0 h
    · rw [hi] at ht; omega
  · omega
end Go.Proofs.Ytmajooheeeoccaa
