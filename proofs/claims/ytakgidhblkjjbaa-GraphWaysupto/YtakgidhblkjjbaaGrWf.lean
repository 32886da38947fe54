/-
  Graph, pure: how far each object is from an end, round by round.
-/
import Derived.Test.YtakgidhblkjjbaaGrWn
namespace Go.Proofs.Ytakgidhblkjjbaa
open Go.RowKit
set_option linter.unusedVariables false
set_option linter.unusedSimpArgs false
namespace Gr
/-- So many steps lead from the object at this place to the end, and no fewer. -/
def Dn (os : List Ob) (tg : Int) (k m : Nat) : Prop := ∃ r, Pa os tg ((k : Int) + 1) r ∧ r.length = m
def Mn (os : List Ob) (tg : Int) (k m : Nat) : Prop := Dn os tg k m ∧ ∀ m', m' < m → ¬ Dn os tg k m'
theorem Dn.inv {os : List Ob} {tg : Int} {k m : Nat} (h : Dn os tg k (m + 1)) : ∃ o u, os[k]? = some o ∧ u ∈ o.sl ∧ gd os u ≠ 0 ∧ Dn os tg (gd os u - 1) m := by
  obtain ⟨r, hr, hl⟩ := h
  cases hr with
  | nil => simp at hl
  | @cons _ o u l h1 h2 h3 h4 =>
    rw [show ((k : Int) + 1).toNat - 1 = k by omega] at h1
    refine ⟨o, u, h1, h2, h3, l, ?_, by simpa using hl⟩
    rw [show (((gd os u - 1 : Nat) : Int) + 1) = (gd os u : Int) by omega]
    exact h4
theorem Dn.mk {os : List Ob} {tg : Int} {k m : Nat} {o : Ob} {u : Int} (h1 : os[k]? = some o) (h2 : u ∈ o.sl) (h3 : gd os u ≠ 0) (h : Dn os tg (gd os u - 1) m) : Dn os tg k (m + 1) := by
  obtain ⟨r, hr, hl⟩ := h
  rw [show (((gd os u - 1 : Nat) : Int) + 1) = (gd os u : Int) by omega] at hr
  exact ⟨_, .cons (by rw [show ((k : Int) + 1).toNat - 1 = k by omega]; exact h1) h2 h3 hr, by simp [hl]⟩
theorem Dn.zero {os : List Ob} {tg : Int} {k : Nat} : Dn os tg k 0 ↔ tg = (k : Int) + 1 := by
  constructor
  · rintro ⟨r, hr, hl⟩
    cases hr with
    | nil => rfl
    | cons _ _ _ _ => simp at hl
  · rintro rfl
    exact ⟨[], .nil, rfl⟩
theorem Mn.one {os : List Ob} {tg : Int} {k m m' : Nat} (h : Mn os tg k m) (h' : Mn os tg k m') : m = m' := by
  by_cases e : m < m'
  · exact absurd h.1 (h'.2 m e)
  · by_cases e' : m' < m
    · exact absurd h'.1 (h.2 m' e')
    · omega
theorem Dn.min {os : List Ob} {tg : Int} {k : Nat} : ∀ {m : Nat}, Dn os tg k m → ∃ m', m' ≤ m ∧ Mn os tg k m' := by
  intro m
  induction m using Nat.strongRecOn with
  | ind m ih =>
    intro h
    by_cases g : ∃ m', m' < m ∧ Dn os tg k m'
    · obtain ⟨m', h1, h2⟩ := g
      obtain ⟨m2, h3, h4⟩ := ih m' h1 h2
      exact ⟨m2, by omega, h4⟩
    · exact ⟨m, Nat.le_refl _, h, fun m' h1 h2 => g ⟨m', h1, h2⟩⟩
/-- Rounds up to n are made. -/
structure Fd (os : List Ob) (tg : Int) (n : Nat) (D : Nat → Int) : Prop where
  rng : ∀ k, D k = -1 ∨ (0 ≤ D k ∧ D k ≤ (n : Int))
  us : ∀ k, usA os k = false → D k = -1
  eq : ∀ k, usA os k = true → ∀ m, m ≤ n → (D k = (m : Int) ↔ Mn os tg k m)
theorem Fd.neg {os : List Ob} {tg : Int} {n : Nat} {D : Nat → Int} (F : Fd os tg n D) {k : Nat} (hu : usA os k = true) (h : D k < 0) {m : Nat} (hm : m ≤ n) : ¬ Dn os tg k m := by
  intro hd
  obtain ⟨m', h1, h2⟩ := hd.min
  have := (F.eq k hu m' (by omega)).2 h2
  omega
/-- Found in this round. -/
def hit (os : List Ob) (n : Nat) (D : Nat → Int) (u : Int) : Bool := gd os u != 0 && D (gd os u - 1) == (n : Int)
def slA (os : List Ob) (k : Nat) : List Int := match os[k]? with | some o => o.sl | none => []
def fnd (os : List Ob) (n : Nat) (D : Nat → Int) (k : Nat) : Bool := decide (D k < 0) && usA os k && (slA os k).any (hit os n D)
/-- The places looked at in this round, so many of them. -/
def upd (os : List Ob) (n : Nat) (D : Nat → Int) (i k : Nat) : Int := if k < i ∧ fnd os n D k = true then (n : Int) + 1 else D k
theorem gd_us {os : List Ob} {u : Int} (h : gd os u ≠ 0) : usA os (gd os u - 1) = true := by
  obtain ⟨o, h1, h2, _⟩ := gd_used h
  simp [usA, h1, h2]
theorem fnd_iff {os : List Ob} {tg : Int} {n : Nat} {D : Nat → Int} (F : Fd os tg n D) {k : Nat} (hu : usA os k = true) (hD : D k < 0) : fnd os n D k = true ↔ Mn os tg k (n + 1) := by
  simp only [fnd, hit, hu, hD, decide_true, Bool.and_true, Bool.true_and, List.any_eq_true, Bool.and_eq_true, bne_iff_ne, beq_iff_eq, ne_eq]
  constructor
  · rintro ⟨u, h1, h2, h3⟩
    have hm := (F.eq _ (gd_us h2) n (Nat.le_refl _)).1 h3
    unfold slA at h1
    split at h1
    · rename_i o ho
      exact ⟨Dn.mk ho h1 h2 hm.1, fun m' hm' => F.neg hu hD (by omega)⟩
    · simp at h1
  · rintro ⟨h1, h2⟩
    obtain ⟨o, u, ho, hu', h3, h4⟩ := h1.inv
    refine ⟨u, by simp [slA, ho, hu'], h3, ?_⟩
    obtain ⟨m', h5, h6⟩ := h4.min
    by_cases e : m' = n
    · subst e
      exact (F.eq _ (gd_us h3) m' (Nat.le_refl _)).2 h6
    · exact absurd (Dn.mk ho hu' h3 h6.1) (h2 (m' + 1) (by omega))
theorem usA_lt {os : List Ob} {k : Nat} (h : usA os k = true) : k < os.length := by
  unfold usA at h
  split at h
  · rename_i o ho; exact (List.getElem?_eq_some_iff.1 ho).1
  · cases h
theorem fd_start {os : List Ob} {q : Nat} (hu : usA os q = true) : Fd os ((q : Int) + 1) 0 (fun k => if k = q then 0 else -1) := by
  refine ⟨fun k => ?_, fun k hk => ?_, fun k hk m hm => ?_⟩
  · by_cases e : k = q <;> simp [e]
  · have e : ¬ k = q := fun e => by subst e; rw [hk] at hu; cases hu
    simp [e]
  · obtain rfl : m = 0 := by omega
    by_cases e : k = q
    · subst e
      simp only [if_true]
      exact ⟨fun _ => ⟨Dn.zero.2 rfl, fun m' h => absurd h (by omega)⟩, fun _ => rfl⟩
    · simp only [e, if_false]
      constructor
      · intro h; simp at h
      · intro h
        have := Dn.zero.1 h.1
        omega
theorem fd_step {os : List Ob} {tg : Int} {n : Nat} {D : Nat → Int} (F : Fd os tg n D) : Fd os tg (n + 1) (upd os n D os.length) := by
  refine ⟨fun k => ?_, fun k hk => ?_, fun k hk m hm => ?_⟩
  · unfold upd
    split
    · right; omega
    · rcases F.rng k with h | h
      · exact .inl h
      · right; omega
  · unfold upd
    rw [if_neg (by rintro ⟨_, h⟩; simp [fnd, hk] at h)]
    exact F.us k hk
  · have hlt := usA_lt hk
    by_cases hD : D k < 0
    · have hf := fnd_iff F hk hD
      unfold upd
      by_cases h : fnd os n D k = true
      · rw [if_pos ⟨hlt, h⟩]
        have h2 := hf.1 h
        constructor
        · intro e
          obtain rfl : m = n + 1 := by omega
          exact h2
        · intro g
          have := g.one h2
          omega
      · rw [if_neg (fun g => h g.2)]
        constructor
        · intro e; omega
        · intro g
          by_cases e : m ≤ n
          · exact absurd g.1 (F.neg hk hD e)
          · obtain rfl : m = n + 1 := by omega
            exact absurd (hf.2 g) h
    · have h : ¬ fnd os n D k = true := by simp [fnd, hD]
      unfold upd
      rw [if_neg (fun g => h g.2)]
      by_cases e : m ≤ n
      · exact F.eq k hk m e
      · rcases F.rng k with g | g
        · omega
        · constructor
          · intro e2; omega
          · intro g2
            have h3 := (F.eq k hk (D k).toNat (by omega)).1 (by omega)
            have := g2.one h3
            omega
/-- What the last round leaves: the distance, or that no way leads there. -/
theorem fd_end {os : List Ob} {tg : Int} {n : Nat} {D : Nat → Int} (F : Fd os tg n D) (hno : ∀ k, k < os.length → fnd os n D k = false) {k : Nat} (hu : usA os k = true) : (D k = -1 ∧ ∀ m, ¬ Dn os tg k m) ∨ ∃ m : Nat, D k = (m : Int) ∧ Mn os tg k m := by
  have key : ∀ m k, usA os k = true → Dn os tg k m → ¬ D k < 0 := by
    intro m
    induction m with
    | zero => intro k hk h hD; exact F.neg hk hD (Nat.zero_le _) h
    | succ m ih =>
      intro k hk h hD
      obtain ⟨o, u, ho, hu', h3, h4⟩ := h.inv
      have h5 := ih _ (gd_us h3) h4
      rcases F.rng (gd os u - 1) with h6 | h6
      · omega
      · have h7 := (F.eq _ (gd_us h3) (D (gd os u - 1)).toNat (by omega)).1 (by omega)
        have h8 := Dn.mk ho hu' h3 h7.1
        by_cases e : (D (gd os u - 1)).toNat = n
        · have : fnd os n D k = true := by
            simp only [fnd, hit, hk, hD, decide_true, Bool.true_and, List.any_eq_true, Bool.and_eq_true, bne_iff_ne, beq_iff_eq, ne_eq]
            exact ⟨u, by simp [slA, ho, hu'], h3, by omega⟩
          rw [hno k (usA_lt hk)] at this
          cases this
        · exact F.neg hk hD (by omega) h8
  rcases F.rng k with h | h
  · exact .inl ⟨h, fun m hm => key m k hu hm (by omega)⟩
  · exact .inr ⟨(D k).toNat, by omega, (F.eq k hu (D k).toNat (by omega)).1 (by omega)⟩
/-- How many are found. -/
def cnt (D : Nat → Int) : Nat → Nat
  | 0 => 0
  | i + 1 => cnt D i + if 0 ≤ D i then 1 else 0
theorem cnt_le (D : Nat → Int) : ∀ i, cnt D i ≤ i
  | 0 => Nat.le_refl _
  | i + 1 => by have := cnt_le D i; simp only [cnt]; split <;> omega
theorem cnt_mono {D D' : Nat → Int} (h : ∀ k, 0 ≤ D k → 0 ≤ D' k) : ∀ i, cnt D i ≤ cnt D' i
  | 0 => Nat.le_refl _
  | i + 1 => by
    have := cnt_mono h i
    have := h i
    simp only [cnt]
    split <;> split <;> omega
theorem cnt_lt {D D' : Nat → Int} (h : ∀ k, 0 ≤ D k → 0 ≤ D' k) {k : Nat} (h1 : D k < 0) (h2 : 0 ≤ D' k) : ∀ i, k < i → cnt D i < cnt D' i
  | 0, hk => by omega
  | i + 1, hk => by
    by_cases e : k = i
    · subst e
      have := cnt_mono h k
      simp only [cnt]
      rw [if_neg (by omega), if_pos h2]
      omega
    · have := cnt_lt h h1 h2 i (by omega)
      have := h i
      simp only [cnt]
      split <;> split <;> omega
theorem upd_cnt {os : List Ob} {n : Nat} {D : Nat → Int} {k : Nat} (hk : k < os.length) (h : fnd os n D k = true) : cnt D os.length < cnt (upd os n D os.length) os.length := by
  have hD : D k < 0 := by
    simp [fnd] at h
    exact h.1.1
  refine cnt_lt (fun j hj => ?_) hD ?_ _ hk
  · unfold upd; split <;> omega
  · unfold upd; rw [if_pos ⟨hk, h⟩]; omega
end Gr
end Go.Proofs.Ytakgidhblkjjbaa
