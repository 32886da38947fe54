/-
  Lemmas: PileKX.
-/
import Derived.Test.YtbjlpmahomjgjaaTx13
import Derived.Test.YtbjlpmahomjgjaaTx15
set_option linter.unusedVariables false
set_option linter.unusedSimpArgs false
set_option maxRecDepth 20000
namespace Go.Proofs.Ytbjlpmahomjgjaa
open Go.RowKit
namespace PKept
open Pile

theorem ln_of {f : Nat → Int} : ∀ {l : List Nat} {p : Int}, Chain f p l → Ln f p l
  | [], _, h => h
  | q :: l, _, ⟨h1, h2, h3⟩ => ⟨h1, h2, ln_of h3⟩
theorem sel_count (g : Nat → Bool) (x : Nat → Int) (v : Int) {g' : Nat → Bool} (hg : ∀ i, g' i = (g i && decide (x i = v))) : ∀ k, (sel g x k).count v = cnt g' k
  | 0 => rfl
  | k + 1 => by
    rw [sel, cnt, ← sel_count g x v hg k, hg]
    by_cases e1 : g k = true
    · rw [if_pos e1, List.count_append, e1]
      by_cases e2 : x k = v
      · simp [e2]
      · simp [e2]
    · rw [if_neg e1]
      simp [e1]
theorem sel2_count (g : Nat → Nat → Bool) (x : Nat → Nat → Int) (jn : Nat → Nat) (v : Int) {g' : Nat → Nat → Bool} (hg : ∀ h i, g' h i = (g h i && decide (x h i = v))) {d : Nat → Nat} : ∀ h, (∀ i, i < h → d i = jn i) → (sel2 g x jn h).count v = sumC (fun h => cnt (g' h) (d h)) h
  | 0, _ => rfl
  | h + 1, hd => by
    rw [sel2, List.count_append, sel2_count g x jn v hg h (fun i hi => hd i (by omega)), sel_count (g h) (x h) v (hg h) (jn h), ← hd h (by omega)]
    rfl
theorem ended_all {P : Par} {st : St kPile} (h : cnt (st.going P) P.nh = 0) : ∀ i, i < P.nh → P.jn i ≤ st.done i := by
  have z : ∀ n, cnt (st.going P) n = 0 → ∀ i, i < n → st.going P i = false := fun n => by
    induction n with
    | zero => intro _ i hi; omega
    | succ n ih =>
      intro h i hi
      rw [cnt] at h
      by_cases e : i = n
      · subst e
        cases hg : st.going P i with
        | false => rfl
        | true => rw [hg] at h; simp at h
      · exact ih (by omega) i (by omega)
  intro i hi
  have := z P.nh h i hi
  simp [St.going] at this
  exact this
theorem done_le' {K : Kd} (P : Par) (f : Nat → Int) : ∀ m i, i < P.nh → (runSt P (st0 K P f) m).done i ≤ P.jn i
  | 0, i, _ => Nat.zero_le _
  | m + 1, i, hi => by
    have ih := done_le' (K := K) P f m i hi
    rcases run_succ_cases P (st0 K P f) rfl m with ⟨e, _⟩ | ⟨h, ht, hh, hd, hk, e⟩
    · rw [e]; exact ih
    · rw [e]
      by_cases he : K.ends ((runSt P (st0 K P f) m).cur h) (stepOf P.n (runSt P (st0 K P f) m).f (K.req ((runSt P (st0 K P f) m).cur h))) = true
      · rw [done_ends P _ he]
        by_cases ei : i = h
        · subst ei; rw [upd_same]; omega
        · rw [upd_other _ _ ei]; exact ih
      · rw [done_goes P _ he]; exact ih
theorem seesA_jn {w : World} {B : Nat} {ao : Option Addr} {nh : Nat} {d d' : Nat → Nat} {an : Nat → Nat → Ans} (S : SeesA w B ao nh d an) (h : ∀ i, i < nh → d i = d' i) : SeesA w B ao nh d' an := fun i hi => by
  obtain ⟨b, off, av, cap, e, hl, hc, hj⟩ := S i hi
  exact ⟨b, off, av, cap, e, hl, by rw [← h i hi]; exact hc, fun j hj' => hj j (by rw [h i hi]; exact hj')⟩

/-- Behind a run that has ended, all that whole asks for. -/
theorem whole_told {r : Nat} {P : Par} {m : Nat} (h1 : 1 ≤ r) (h2 : r ≤ 64) (hn : P.n = 2 + 2 * r) (hok : AllOk kPile P) (hjw : ∀ h, h < P.nh → ∀ j, j < P.jn h → (P.jb h j).wf) (hm : m ≤ 65536) (he : cnt ((runSt P (st0 kPile P (pfr r)) m).going P) P.nh = 0) :
    ∃ l0 l1 : List Nat, (∀ i, i < P.n → 0 ≤ (runSt P (st0 kPile P (pfr r)) m).f i ∧ (runSt P (st0 kPile P (pfr r)) m).f i ≤ 18446744073709551615) ∧ Ln (runSt P (st0 kPile P (pfr r)) m).f ((runSt P (st0 kPile P (pfr r)) m).f 0 % 4294967296) l0 ∧ Ln (runSt P (st0 kPile P (pfr r)) m).f ((runSt P (st0 kPile P (pfr r)) m).f 1 % 4294967296) l1 ∧ l0.length + l1.length = r ∧ (l0 ++ l1).Nodup ∧ (∀ q, q ∈ l0 ++ l1 → 1 ≤ q ∧ q ≤ r) ∧ (∀ i, i < P.nh → (runSt P (st0 kPile P (pfr r)) m).done i = P.jn i) ∧
      ∀ v, (sel2 (gp P.jb (runSt P (st0 kPile P (pfr r)) m).ans) (xp P.jb) P.jn P.nh).count v = (sel2 (gq P.jb (runSt P (st0 kPile P (pfr r)) m).ans) (xq (runSt P (st0 kPile P (pfr r)) m).ans) P.jn P.nh).count v + (l0.map fun q => (runSt P (st0 kPile P (pfr r)) m).f (2 * q + 1)).count v := by
  have hd := ended_all he
  have hfine : ∀ h, h < P.nh → ∀ j, j < P.jn h → kPile.fine (P.jb h j) := fun h hh j hj => ⟨hjw h hh j hj, _, hok h hh j hj⟩
  have W := wr_run (K := kPile) (P := P) (f := pfr r) isKind.ok (fun j s hw => preq_put hw.2) hfine (fun i _ => pfr_bounds h2 i) m
  obtain ⟨l0, l1, C0, C1, hl, hnd, hq, hc⟩ := pv_whole h1 h2 hn hok (by omega) hd
  have hdn : ∀ i, i < P.nh → (runSt P (st0 kPile P (pfr r)) m).done i = P.jn i := fun i hi => Nat.le_antisymm (done_le' P (pfr r) m i hi) (hd i hi)
  refine ⟨l0, l1, W.word, ln_of C0, ln_of C1, hl, hnd, hq, hdn, fun v => ?_⟩
  have h3 := hc v
  unfold pushes pops at h3
  rw [sel2_count (gp P.jb (runSt P (st0 kPile P (pfr r)) m).ans) (xp P.jb) P.jn v (g' := isPush P (runSt P (st0 kPile P (pfr r)) m) v) (fun h i => ?_) P.nh hdn, sel2_count (gq P.jb (runSt P (st0 kPile P (pfr r)) m).ans) (xq (runSt P (st0 kPile P (pfr r)) m).ans) P.jn v (g' := isPop P (runSt P (st0 kPile P (pfr r)) m) v) (fun h i => ?_) P.nh hdn]
  · exact h3
  · unfold isPop gq xq
    by_cases a : (P.jb h i).kind = 2 <;> by_cases b : ((runSt P (st0 kPile P (pfr r)) m).ans h i).ok = true <;> by_cases c : ((runSt P (st0 kPile P (pfr r)) m).ans h i).val = v <;> simp [a, b, c]
  · unfold isPush gp xp
    by_cases a : (P.jb h i).kind = 1 <;> by_cases b : ((runSt P (st0 kPile P (pfr r)) m).ans h i).ok = true <;> by_cases c : (P.jb h i).h = v <;> simp [a, b, c]
end PKept
end Go.Proofs.Ytbjlpmahomjgjaa
