/-
  Who is picked: the number of those that go on, the place-th of them, the next one behind a hand. No program here.
-/
import Derived.Test.YtdbiphibdaghkaaMem
namespace Go.Proofs.Ytdbiphibdaghkaa
set_option linter.unusedVariables false

/-- How many of the first i go on. -/
def cnt (g : Nat → Bool) : Nat → Nat
  | 0 => 0
  | i + 1 => cnt g i + (if g i then 1 else 0)

theorem cnt_le (g : Nat → Bool) : ∀ i, cnt g i ≤ i
  | 0 => Nat.le_refl _
  | i + 1 => by have := cnt_le g i; simp only [cnt]; split <;> omega

theorem cnt_mono (g : Nat → Bool) {i j : Nat} (h : i ≤ j) : cnt g i ≤ cnt g j := by
  induction h with
  | refl => exact Nat.le_refl _
  | step _ ih => simp only [cnt]; omega

theorem cnt_true {g : Nat → Bool} {i : Nat} (h : g i = true) : cnt g (i + 1) = cnt g i + 1 := by simp [cnt, h]
theorem cnt_false {g : Nat → Bool} {i : Nat} (h : g i = false) : cnt g (i + 1) = cnt g i := by simp [cnt, h]
theorem cnt_congr {g g' : Nat → Bool} {n : Nat} (h : ∀ i, i < n → g i = g' i) : cnt g n = cnt g' n := by
  induction n with
  | zero => rfl
  | succ n ih => simp only [cnt, ih (fun i hi => h i (by omega)), h n (by omega)]

structure IsPick (n : Nat) (g : Nat → Bool) (k i : Nat) : Prop where
  lt : i < n
  on : g i = true
  rank : cnt g i = k

theorem IsPick.one {n : Nat} {g : Nat → Bool} {k i j : Nat} (h : IsPick n g k i) (h' : IsPick n g k j) : i = j := by
  rcases Nat.lt_trichotomy i j with l | e | l
  · have := cnt_mono g (show i + 1 ≤ j by omega); rw [cnt_true h.on, h.rank, h'.rank] at this; omega
  · exact e
  · have := cnt_mono g (show j + 1 ≤ i by omega); rw [cnt_true h'.on, h.rank, h'.rank] at this; omega

theorem exists_pick (g : Nat → Bool) (k : Nat) : ∀ n, k < cnt g n → ∃ i, IsPick n g k i
  | 0, h => by simp [cnt] at h
  | n + 1, h => by
    by_cases h1 : k < cnt g n
    · obtain ⟨i, hi⟩ := exists_pick g k n h1
      exact ⟨i, by have := hi.lt; omega, hi.on, hi.rank⟩
    · cases hg : g n with
      | false => rw [cnt_false hg] at h; omega
      | true => rw [cnt_true hg] at h; exact ⟨n, by omega, hg, by omega⟩

/-- The place-th, modulo how many go on, of those that go on; -1, if none does. -/
def pickOf (n : Nat) (g : Nat → Bool) (place : Int) : Int :=
  if cnt g n = 0 then -1 else
  match (List.range n).find? (fun i => g i && cnt g i == (place % (cnt g n : Int)).toNat) with
  | some i => i
  | none => -1

theorem find_range {p : Nat → Bool} {n i : Nat} (hi : i < n) (hp : p i = true) (h : ∀ j, j < i → p j = false) : (List.range n).find? p = some i := by
  rw [List.find?_range_eq_some]
  exact ⟨hp, by simpa using hi, fun j hj => by simp [h j hj]⟩
theorem find_range_none {p : Nat → Bool} {n : Nat} (h : ∀ j, j < n → p j = false) : (List.range n).find? p = none := by
  rw [List.find?_eq_none]
  intro x hx
  simp [h x (by simpa using hx)]

theorem pickOf_none {n : Nat} {g : Nat → Bool} {place : Int} (h : cnt g n = 0) : pickOf n g place = -1 := by simp [pickOf, h]
theorem pickOf_some {n : Nat} {g : Nat → Bool} {place : Int} {k i : Nat} (h0 : cnt g n ≠ 0) (hk : place % (cnt g n : Int) = k) (h : IsPick n g k i) : pickOf n g place = i := by
  have hf := find_range (p := fun i => g i && cnt g i == (place % (cnt g n : Int)).toNat) h.lt (by simp [h.on, h.rank, hk]) (fun j hj => by
    cases hg : g j with
    | false => rfl
    | true =>
      have := cnt_mono g (show j + 1 ≤ i by omega)
      rw [cnt_true hg, h.rank] at this
      simp [hk]; omega)
  simp only [pickOf, h0, if_false, hf]
theorem emod_cnt {c : Nat} (place : Int) (h0 : c ≠ 0) : ∃ k : Nat, place % (c : Int) = k ∧ k < c := by
  have h1 := Int.emod_nonneg place (show (c : Int) ≠ 0 by omega)
  have h2 := Int.emod_lt_of_pos place (show 0 < (c : Int) by omega)
  exact ⟨(place % (c : Int)).toNat, by omega, by omega⟩

/-- The first that goes on behind this one, around the end. -/
def behindOf (n : Nat) (g : Nat → Bool) (hand : Int) : Int :=
  match (List.range n).find? (fun i => g (((hand + 1).toNat + i) % n)) with
  | some i => (((hand + 1).toNat + i) % n : Nat)
  | none => -1

theorem behindOf_some {n : Nat} {g : Nat → Bool} {hand : Int} {i : Nat} (hi : i < n) (hg : g (((hand + 1).toNat + i) % n) = true) (h : ∀ j, j < i → g (((hand + 1).toNat + j) % n) = false) :
    behindOf n g hand = (((hand + 1).toNat + i) % n : Nat) := by
  simp only [behindOf, find_range (p := fun i => g (((hand + 1).toNat + i) % n)) hi hg h]
theorem behindOf_none {n : Nat} {g : Nat → Bool} {hand : Int} (h : ∀ j, j < n → g (((hand + 1).toNat + j) % n) = false) : behindOf n g hand = -1 := by
  simp only [behindOf, find_range_none (p := fun i => g (((hand + 1).toNat + i) % n)) h]

theorem behindOf_first {n : Nat} {g : Nat → Bool} {p : Nat} (h : IsPick n g 0 p) : behindOf n g (-1) = p := by
  have hp := h.lt
  have e : ∀ j, j < n → ((-1 + 1 : Int).toNat + j) % n = j := fun j hj => by simp [Nat.mod_eq_of_lt hj]
  rw [behindOf_some (i := p) hp (by rw [e p hp]; exact h.on) (fun j hj => by
    rw [e j (by omega)]
    cases hg : g j with
    | false => rfl
    | true => have := cnt_mono g (show j + 1 ≤ p by omega); rw [cnt_true hg, h.rank] at this; omega), e p hp]

theorem behindOf_next {n : Nat} {g : Nat → Bool} {j h p : Nat} (hh : IsPick n g j h) (hp : IsPick n g (j + 1) p) : behindOf n g h = p := by
  have l1 := hh.lt
  have l2 := hp.lt
  have lt : h < p := by
    rcases Nat.lt_or_ge h p with l | l
    · exact l
    · have := cnt_mono g l; rw [hh.rank, hp.rank] at this; omega
  have e : ∀ i, h + 1 + i < n → (((h : Int) + 1).toNat + i) % n = h + 1 + i := fun i hi => by
    rw [show ((h : Int) + 1).toNat = h + 1 by omega, Nat.mod_eq_of_lt hi]
  rw [behindOf_some (i := p - h - 1) (by omega) (by rw [e _ (by omega), show h + 1 + (p - h - 1) = p by omega]; exact hp.on) (fun i hi => by
    rw [e i (by omega)]
    cases hg : g (h + 1 + i) with
    | false => rfl
    | true =>
      have a := cnt_mono g (show h + 1 ≤ h + 1 + i by omega)
      have b := cnt_mono g (show h + 1 + i + 1 ≤ p by omega)
      rw [cnt_true hh.on, hh.rank] at a
      rw [cnt_true hg, hp.rank] at b
      omega), e _ (by omega), show h + 1 + (p - h - 1) = p by omega]

/-- Whoever is picked goes on. -/
theorem pickOf_ok {n : Nat} {g : Nat → Bool} (place : Int) : pickOf n g place = -1 ∧ cnt g n = 0 ∨ ∃ i : Nat, pickOf n g place = i ∧ i < n ∧ g i = true := by
  by_cases h0 : cnt g n = 0
  · exact .inl ⟨pickOf_none h0, h0⟩
  · obtain ⟨k, hk, hl⟩ := emod_cnt place h0
    obtain ⟨i, hi⟩ := exists_pick g k n hl
    exact .inr ⟨i, pickOf_some h0 hk hi, hi.lt, hi.on⟩

theorem cnt_zero {g : Nat → Bool} {n : Nat} (h : cnt g n = 0) : ∀ i, i < n → g i = false := by
  intro i hi
  cases hg : g i with
  | false => rfl
  | true => have := cnt_mono g (show i + 1 ≤ n by omega); rw [cnt_true hg] at this; omega
theorem cnt_none {g : Nat → Bool} {n : Nat} (h : ∀ i, i < n → g i = false) : cnt g n = 0 := by
  induction n with
  | zero => rfl
  | succ n ih => rw [cnt_false (h n (by omega)), ih (fun i hi => h i (by omega))]

theorem behindOf_ok {n : Nat} {g : Nat → Bool} (hand : Int) : behindOf n g hand = -1 ∧ cnt g n = 0 ∨ ∃ i : Nat, behindOf n g hand = i ∧ i < n ∧ g i = true := by
  by_cases h : ∃ j, j < n ∧ g (((hand + 1).toNat + j) % n) = true
  · right
    unfold behindOf
    cases hf : (List.range n).find? (fun i => g (((hand + 1).toNat + i) % n)) with
    | none =>
      obtain ⟨j, hj, hg⟩ := h
      rw [List.find?_eq_none] at hf
      exact absurd hg (by simpa using hf j (by simpa using hj))
    | some i =>
      have h1 := List.find?_some hf
      have h2 := List.mem_of_find?_eq_some hf
      have : 0 < n := by have := List.mem_range.1 h2; omega
      exact ⟨_, rfl, Nat.mod_lt _ this, h1⟩
  · left
    have hn : ∀ j, j < n → g (((hand + 1).toNat + j) % n) = false := fun j hj => by
      cases hg : g (((hand + 1).toNat + j) % n) with
      | false => rfl
      | true => exact absurd ⟨j, hj, hg⟩ h
    refine ⟨behindOf_none hn, cnt_none fun i hi => ?_⟩
    -- i is met at j = (i + n - s % n) % n
    have hs : (hand + 1).toNat % n < n := Nat.mod_lt _ (by omega)
    have key : ∃ j, j < n ∧ ((hand + 1).toNat + j) % n = i := by
      generalize hsd : (hand + 1).toNat % n = s at hs
      by_cases hsi : s ≤ i
      · refine ⟨i - s, by omega, ?_⟩
        rw [Nat.add_mod, hsd, Nat.mod_eq_of_lt (show i - s < n by omega), show s + (i - s) = i by omega, Nat.mod_eq_of_lt hi]
      · refine ⟨i + n - s, by omega, ?_⟩
        rw [Nat.add_mod, hsd, Nat.mod_eq_of_lt (show i + n - s < n by omega), show s + (i + n - s) = i + n by omega, Nat.add_mod_right, Nat.mod_eq_of_lt hi]
    obtain ⟨j, hj, rfl⟩ := key
    exact hn j hj
theorem cnt_pos_of {g : Nat → Bool} {n i : Nat} (hi : i < n) (hg : g i = true) : cnt g n ≠ 0 := fun h => by have := cnt_zero h i hi; rw [hg] at this; cases this
end Go.Proofs.Ytdbiphibdaghkaa
