/-
  Hue, pure: the document's Weak: rounds until nothing grows.
-/
import Derived.Test.YtcjlbecmghaalaaHuK
namespace Go.Proofs.Ytcjlbecmghaalaa
set_option linter.unusedVariables false
set_option linter.unusedSimpArgs false
namespace Hu
open Gr
def st (S : Nat → Bool) (q : Nat) : Nat → Bool := fun j => if j = q then true else S j
/-- A round under way: what was sheltered at its beginning, what is, what a black one shows, what has been looked at. -/
structure Wi (os : List Ob) (ws : List Int) (S0 S T : Nat → Bool) (pr : Nat → Int → Prop) (gv : Bool) : Prop where
  snd : ∀ j, S j = true → Sh os ws j
  tnd : ∀ j, T j = true → Sb os ws j
  mono : ∀ j, S0 j = true → S j = true
  eqf : gv = false → ∀ j, S j = S0 j
  grw : gv = true → ∃ j, j < os.length ∧ S j = true ∧ S0 j = false
  pt : ∀ i x q, pr i x → wh os ws x = q + 1 → col os ws i = 3 → T q = true
  ps : ∀ i x q, pr i x → wh os ws x = q + 1 → (col os ws i = 2 ∨ S0 i = true) → S q = true
theorem Sh.col {os : List Ob} {ws : List Int} {j : Nat} (h : Sh os ws j) : col os ws j = 1 := by
  have := (lw_col (k := j + 1) h).2
  simpa using this
theorem Sh.lt {os : List Ob} {ws : List Int} {j : Nat} (h : Sh os ws j) : j < os.length := col_pos (by rw [h.col]; omega)
theorem sh_next {os : List Ob} {ws : List Int} {i q : Nat} {x : Int} (hx : x ∈ sls os i) (hw : wh os ws x = q + 1) (h : col os ws i = 2 ∨ Sh os ws i) : Sh os ws q := by
  have hg : gd (lw os ws) x = q + 1 := by rw [gd_lw]; exact hw
  rcases h with h | h
  · have := Rc.root (os := lw os ws) (fr := so os ws 2 os.length) (h := x) (so_mem.2 ⟨i, col_pos (by rw [h]; omega), h, hx⟩) (by rw [hg]; omega)
    rw [hg] at this
    exact this
  · obtain ⟨o, ho⟩ : ∃ o, os[i]? = some o := ⟨os[i]'h.lt, by simp [h.lt]⟩
    rw [sls_at ho] at hx
    have := Rc.step (os := lw os ws) (fr := so os ws 2 os.length) (k := i + 1) (o := { o with us := decide (col os ws i = 1) }) h (lw_get (ws := ws) ho) hx (by rw [hg]; omega)
    rw [hg] at this
    exact this
theorem Wi.skip {os : List Ob} {ws : List Int} {S0 S T : Nat → Bool} {pr pr' : Nat → Int → Prop} {gv : Bool} (h : Wi os ws S0 S T pr gv) {i0 : Nat} {x0 : Int} (hw : wh os ws x0 = 0) (hp : ∀ i x, pr' i x → pr i x ∨ (i = i0 ∧ x = x0)) : Wi os ws S0 S T pr' gv := by
  refine ⟨h.snd, h.tnd, h.mono, h.eqf, h.grw, ?_, ?_⟩
  · intro i x q hpr hx hc
    rcases hp i x hpr with h1 | ⟨_, rfl⟩
    · exact h.pt i x q h1 hx hc
    · omega
  · intro i x q hpr hx hc
    rcases hp i x hpr with h1 | ⟨_, rfl⟩
    · exact h.ps i x q h1 hx hc
    · omega
/-- A white one is shown: black ones tell it; grey and sheltered ones shelter it. -/
theorem Wi.step {os : List Ob} {ws : List Int} {S0 S T S' T' : Nat → Bool} {pr pr' : Nat → Int → Prop} {gv gv' : Bool} (h : Wi os ws S0 S T pr gv) {i0 q : Nat} {x0 : Int} (hx0 : x0 ∈ sls os i0) (hw : wh os ws x0 = q + 1) (hp : ∀ i x, pr' i x → pr i x ∨ (i = i0 ∧ x = x0))
    (hT : (col os ws i0 = 3 ∧ T' = st T q) ∨ (col os ws i0 ≠ 3 ∧ T' = T))
    (hS : ((col os ws i0 = 2 ∨ S i0 = true) ∧ S q = false ∧ S' = st S q ∧ gv' = true) ∨ (((col os ws i0 ≠ 2 ∧ S i0 = false) ∨ S q = true) ∧ S' = S ∧ gv' = gv)) : Wi os ws S0 S' T' pr' gv' := by
  have hq : q < os.length := by have := wh_le os ws x0; omega
  have tm : ∀ j, T j = true → T' j = true := by
    intro j hj
    rcases hT with ⟨_, rfl⟩ | ⟨_, rfl⟩
    · simp only [st]; split <;> simp_all
    · exact hj
  have sm : ∀ j, S j = true → S' j = true := by
    intro j hj
    rcases hS with ⟨_, _, rfl, _⟩ | ⟨_, rfl, _⟩
    · simp only [st]; split <;> simp_all
    · exact hj
  refine ⟨?_, ?_, fun j hj => sm j (h.mono j hj), ?_, ?_, ?_, ?_⟩
  · intro j hj
    rcases hS with ⟨h1, _, rfl, _⟩ | ⟨_, rfl, _⟩
    · simp only [st] at hj
      split at hj
      · rename_i e; subst e
        exact sh_next hx0 hw (h1.imp id (h.snd i0))
      · exact h.snd j hj
    · exact h.snd j hj
  · intro j hj
    rcases hT with ⟨h3, rfl⟩ | ⟨_, rfl⟩
    · simp only [st] at hj
      split at hj
      · rename_i e; subst e
        exact ⟨x0, so_mem.2 ⟨i0, col_pos (by rw [h3]; omega), h3, hx0⟩, hw⟩
      · exact h.tnd j hj
    · exact h.tnd j hj
  · intro hg j
    rcases hS with ⟨_, _, _, h4⟩ | ⟨_, rfl, h4⟩
    · rw [h4] at hg; cases hg
    · exact h.eqf (h4 ▸ hg) j
  · intro hg
    rcases hS with ⟨_, h2, rfl, _⟩ | ⟨_, rfl, h4⟩
    · refine ⟨q, hq, by simp [st], ?_⟩
      cases hb : S0 q with
      | false => rfl
      | true => rw [h.mono q hb] at h2; cases h2
    · exact h.grw (h4 ▸ hg)
  · intro i x r hpr hx hc
    rcases hp i x hpr with h1 | ⟨rfl, rfl⟩
    · exact tm r (h.pt i x r h1 hx hc)
    · have : r = q := by omega
      subst this
      rcases hT with ⟨_, rfl⟩ | ⟨h3, _⟩
      · simp [st]
      · exact absurd hc h3
  · intro i x r hpr hx hc
    rcases hp i x hpr with h1 | ⟨rfl, rfl⟩
    · exact sm r (h.ps i x r h1 hx hc)
    · have : r = q := by omega
      subst this
      rcases hS with ⟨_, _, rfl, _⟩ | ⟨h1, rfl, _⟩
      · simp [st]
      · rcases h1 with ⟨h1, h2⟩ | h1
        · rcases hc with hc | hc
          · exact absurd hc h1
          · rw [h.mono _ hc] at h2; cases h2
        · exact h1
/-- What stands between two rounds. -/
structure Wo (os : List Ob) (ws : List Int) (S T : Nat → Bool) (gv : Bool) : Prop where
  snd : ∀ j, S j = true → Sh os ws j
  tnd : ∀ j, T j = true → Sb os ws j
  pt : gv = false → ∀ i x q, x ∈ sls os i → wh os ws x = q + 1 → col os ws i = 3 → T q = true
  ps : gv = false → ∀ i x q, x ∈ sls os i → wh os ws x = q + 1 → (col os ws i = 2 ∨ S i = true) → S q = true
theorem wo_start (os : List Ob) (ws : List Int) : Wo os ws (fun _ => false) (fun _ => false) true := ⟨(fun _ h => by cases h), (fun _ h => by cases h), (fun h => by cases h), (fun h => by cases h)⟩
def prk (os : List Ob) (k j : Nat) (i : Nat) (x : Int) : Prop := (i < k ∧ x ∈ sls os i) ∨ (i = k ∧ x ∈ (sls os k).take j)
theorem Wo.begin {os : List Ob} {ws : List Int} {S T : Nat → Bool} {gv : Bool} (h : Wo os ws S T gv) : Wi os ws S S T (prk os 0 0) false :=
  ⟨h.snd, h.tnd, fun _ h => h, fun _ _ => rfl, fun h => (by cases h), (fun i x q hp => by (rcases hp with ⟨h1, _⟩ | ⟨_, h1⟩; omega; simp at h1)), (fun i x q hp => by (rcases hp with ⟨h1, _⟩ | ⟨_, h1⟩; omega; simp at h1))⟩
theorem Wi.done {os : List Ob} {ws : List Int} {S0 S T : Nat → Bool} {gv : Bool} (h : Wi os ws S0 S T (prk os os.length 0) gv) : Wo os ws S T gv := by
  have all : ∀ i x, x ∈ sls os i → prk os os.length 0 i x := fun i x hx => .inl ⟨by
    unfold sls at hx
    split at hx
    · rename_i o ho; exact (List.getElem?_eq_some_iff.1 ho).1
    · simp at hx, hx⟩
  refine ⟨h.snd, h.tnd, fun _ i x q hx => h.pt i x q (all i x hx), fun hg i x q hx hw hc => h.ps i x q (all i x hx) hw ?_⟩
  rw [h.eqf hg i] at hc
  exact hc
theorem Wo.iff {os : List Ob} {ws : List Int} {S T : Nat → Bool} (h : Wo os ws S T false) (j : Nat) : S j = shb os ws j ∧ T j = sbb os ws j := by
  constructor
  · have key : ∀ k, Rc (lw os ws) (so os ws 2 os.length) k → S (k - 1) = true := by
      intro k hk
      induction hk with
      | @root y y1 y2 =>
        obtain ⟨i, _, h2, h3⟩ := so_mem.1 y1
        rw [gd_lw] at y2 ⊢
        exact h.ps rfl i y _ h3 (by omega) (.inl h2)
      | @step k o y hk y1 y2 y3 ih =>
        obtain ⟨k1, kc⟩ := lw_col hk
        have kl : k - 1 < os.length := col_pos (by rw [kc]; omega)
        obtain ⟨o', ho⟩ : ∃ o', os[k - 1]? = some o' := ⟨os[k - 1], by simp [kl]⟩
        rw [lw_get ho] at y1
        cases y1
        rw [gd_lw] at y3 ⊢
        exact h.ps rfl (k - 1) y _ (by rw [sls_at ho]; exact y2) (by omega) (.inr ih)
    cases hb : shb os ws j with
    | true => have := key (j + 1) ((shb_iff os ws j).1 hb); simpa using this
    | false =>
      cases hs : S j with
      | false => rfl
      | true => rw [(shb_iff os ws j).2 (h.snd j hs)] at hb; cases hb
  · cases hb : sbb os ws j with
    | true =>
      obtain ⟨x, h1, h2⟩ := (sbb_iff os ws j).1 hb
      obtain ⟨i, _, h3, h4⟩ := so_mem.1 h1
      exact h.pt rfl i x j h4 h2 h3
    | false =>
      cases ht : T j with
      | false => rfl
      | true => rw [(sbb_iff os ws j).2 (h.tnd j ht)] at hb; cases hb
theorem prk_next {os : List Ob} {k j : Nat} {x : Int} (hx : (sls os k)[j]? = some x) : ∀ i y, prk os k (j + 1) i y → prk os k j i y ∨ (i = k ∧ y = x) := by
  rintro i y (h | ⟨h1, h2⟩)
  · exact .inl (.inl h)
  · rw [List.take_add_one, hx] at h2
    rcases List.mem_append.1 h2 with h2 | h2
    · exact .inl (.inr ⟨h1, h2⟩)
    · simp at h2; exact .inr ⟨h1, h2⟩
theorem prk_row {os : List Ob} {k j : Nat} (hj : (sls os k).length ≤ j) : ∀ i y, prk os (k + 1) 0 i y → prk os k j i y := by
  rintro i y (⟨h1, h2⟩ | ⟨_, h2⟩)
  · by_cases e : i = k
    · subst e; exact .inr ⟨rfl, by rw [List.take_of_length_le hj]; exact h2⟩
    · exact .inl ⟨by omega, h2⟩
  · simp at h2
theorem Wi.pr {os : List Ob} {ws : List Int} {S0 S T : Nat → Bool} {pr pr' : Nat → Int → Prop} {gv : Bool} (h : Wi os ws S0 S T pr gv) (hp : ∀ i x, pr' i x → pr i x) : Wi os ws S0 S T pr' gv :=
  ⟨h.snd, h.tnd, h.mono, h.eqf, h.grw, fun i x q h1 => h.pt i x q (hp i x h1), fun i x q h1 => h.ps i x q (hp i x h1)⟩
/-- One out of use is passed by. -/
theorem Wi.pass {os : List Ob} {ws : List Int} {S0 S T : Nat → Bool} {gv : Bool} {k : Nat} (h : Wi os ws S0 S T (prk os k 0) gv) (hc : col os ws k = 0) : Wi os ws S0 S T (prk os (k + 1) 0) gv := by
  have key : ∀ i x, prk os (k + 1) 0 i x → prk os k 0 i x ∨ i = k := by
    rintro i x (⟨h1, h2⟩ | ⟨_, h2⟩)
    · by_cases e : i = k
      · exact .inr e
      · exact .inl (.inl ⟨by omega, h2⟩)
    · simp at h2
  refine ⟨h.snd, h.tnd, h.mono, h.eqf, h.grw, ?_, ?_⟩
  · intro i x q hp hw h3
    rcases key i x hp with h1 | rfl
    · exact h.pt i x q h1 hw h3
    · omega
  · intro i x q hp hw h3
    rcases key i x hp with h1 | rfl
    · exact h.ps i x q h1 hw h3
    · rcases h3 with h3 | h3
      · omega
      · have := (h.snd i (h.mono i h3)).col; omega
/-- How many are not yet in. -/
def cf (S : Nat → Bool) : Nat → Nat
  | 0 => 0
  | n + 1 => cf S n + (if S n then 0 else 1)
theorem cf_le {S S' : Nat → Bool} (h : ∀ j, S j = true → S' j = true) : ∀ n, cf S' n ≤ cf S n
  | 0 => Nat.le_refl _
  | n + 1 => by
    have := cf_le h n
    have h1 := h n
    simp only [cf]
    cases hs : S n <;> cases hs' : S' n <;> simp_all <;> omega
theorem cf_lt {S S' : Nat → Bool} (h : ∀ j, S j = true → S' j = true) {q : Nat} (h1 : S q = false) (h2 : S' q = true) : ∀ n, q < n → cf S' n < cf S n
  | n + 1, hq => by
    simp only [cf]
    by_cases e : q = n
    · subst e
      have := cf_le h q
      rw [h1, h2]; simp; omega
    · have := cf_lt h h1 h2 n (by omega)
      have h3 := h n
      cases hs : S n <;> cases hs' : S' n <;> simp_all <;> omega
end Hu
end Go.Proofs.Ytcjlbecmghaalaa
