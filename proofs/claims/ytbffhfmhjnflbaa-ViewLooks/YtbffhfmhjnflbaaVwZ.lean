/-
  View, pure: a fresh memory is sound.
-/
import Derived.Test.YtbffhfmhjnflbaaVwL
namespace Go.Proofs.Ytbffhfmhjnflbaa
open Go.RowKit
set_option linter.unusedVariables false
set_option linter.unusedSimpArgs false
set_option linter.unnecessarySimpa false
namespace Vw
open Shape

theorem F_zero {x : Sh} : ∀ {m j : Nat}, ¬ j = 1 → (∀ i, i < m → ¬ j = bO x + i * ow x + 1) → F x m j = 0
  | 0, j, h1, _ => by simp [F, putF, h1]
  | m + 1, j, h1, h2 => by
    have ih := F_zero (m := m) h1 (fun i hi => h2 i (by omega))
    simp only [F, putF]
    rw [if_neg (h2 m (by omega))]
    exact ih
def rng (k : Nat) : List Int := (List.range k).map fun (i : Nat) => (i : Int) + 1
theorem rng_more (k : Nat) : rng (k + 1) = rng k ++ [(k : Int) + 1] := by simp [rng, List.range_succ]
theorem rng_mem {k : Nat} {c : Int} : c ∈ rng k ↔ 1 ≤ c ∧ c ≤ (k : Int) := by
  simp only [rng, List.mem_map, List.mem_range]
  constructor
  · rintro ⟨i, hi, rfl⟩; omega
  · intro h; exact ⟨c.toNat - 1, by omega, by omega⟩
theorem al_rng {o : Nat} {nx : Int → Int} (hn : ∀ k, k < o → nx ((k : Int) + 1) = if k + 1 < o then (k : Int) + 2 else 0) : ∀ (d k : Nat), k + d = o → al o nx d (rng k) (if k < o then (k : Int) + 1 else 0) = (rng o, 0)
  | 0, k, h => by
    have : k = o := by omega
    subst this
    simp [al]
  | d + 1, k, h => by
    have hk : k < o := by omega
    simp only [al]
    rw [if_pos hk, if_pos ⟨by omega, by omega, fun hm => by have := rng_mem.1 hm; omega⟩, ← rng_more, hn k hk]
    have ih := al_rng hn d (k + 1) (by omega)
    rw [← ih]
    congr 1
theorem pO_link (x : Sh) (j : Nat) : pO x j + 1 = bO x + j * ow x + 1 := rfl
theorem fresh_free {x : Sh} (H : x.Ok) : lst x (F x (x.o - 1)) 1 1 = (rng x.o, 0) := by
  unfold lst
  rw [F_free (bO8 x)]
  have h1 := H.o1
  have h2 := H.o2
  have := al_rng (o := x.o) (nx := nxt x (F x (x.o - 1)) 1) (fun k hk => by
    unfold nxt
    rw [show ((k : Int) + 1).toNat - 1 = k by omega, pO_link, F_link]
    by_cases hk2 : k + 1 < x.o
    · rw [if_pos (by omega), if_pos hk2]; omega
    · rw [if_neg (by omega), if_neg hk2]; rfl) x.o 0 (by omega)
  rw [if_pos (by omega)] at this
  simpa [rng] using this
theorem fresh_low {x : Sh} (H : x.Ok) {i : Nat} (hi : ¬ i = 1) (h8 : i < bO x + 1) : F x (x.o - 1) i = 0 := F_zero hi (fun j _ h => by have := bO8 x; omega)
theorem fresh_obj {x : Sh} (H : x.Ok) {j q : Nat} (hq : ¬ q = 1) (hq2 : q < ow x) : F x (x.o - 1) (pO x j + q) = 0 := by
  refine F_zero (by have := bO8 x; unfold pO; omega) (fun i _ h => ?_)
  unfold pO at h
  have h3 := ow3 x
  rcases Nat.lt_trichotomy i j with l | l | l
  · have := at_lt (x := x) l
    have h5 : (i + 1) * ow x ≤ j * ow x := Nat.mul_le_mul_right _ l
    rw [Nat.succ_mul] at h5
    omega
  · subst l; omega
  · have h5 : (j + 1) * ow x ≤ i * ow x := Nat.mul_le_mul_right _ l
    rw [Nat.succ_mul] at h5
    omega
theorem stop0 (o : Nat) (nx : Int → Int) (k : Nat) : al o nx k [] 0 = ([], 0) := al_stop o nx k (by omega)
theorem fresh_sound {x : Sh} (H : x.Ok) : Sound x (F x (x.o - 1)) := by
  have b8 := bO8 x
  have L := lay_out x
  have f0 : F x (x.o - 1) 0 = 0 := fresh_low H (by omega) (by omega)
  have f2 : F x (x.o - 1) 2 = 0 := fresh_low H (by omega) (by omega)
  have f3 : F x (x.o - 1) 3 = 0 := fresh_low H (by omega) (by omega)
  have g2 : lst x (F x (x.o - 1)) 2 1 = ([], 0) := by unfold lst; rw [f2]; exact stop0 _ _ _
  have g3 : lst x (F x (x.o - 1)) 3 2 = ([], 0) := by unfold lst; rw [f3]; exact stop0 _ _ _
  have g1 := fresh_free H
  have hz : ∀ u, u = 0 → hOk (cv x (F x (x.o - 1))) u := fun u hu h => absurd hu h
  have h0 : ∀ j, F x (x.o - 1) (pO x j) = 0 := fun j => by have := fresh_obj H (j := j) (q := 0) (by omega) (by have := ow3 x; omega); simpa using this
  have hsl : ∀ j q, q < x.s → F x (x.o - 1) (pO x j + (3 + q)) = 0 := fun j q hq => fresh_obj H (by omega) (by omega)
  refine ⟨?_, ⟨?_, ?_, ?_⟩, ?_, ?_, ?_, ?_⟩
  · simp [cv, f0]
  · rw [g1]
  · rw [g2]
  · rw [g3]
  · simp [cv, g2]
  · intro j hj
    simp only [cv] at hj
    refine ⟨fun hu => ?_, fun _ => ⟨.inl ?_, fun q hq => ?_⟩⟩
    · simp [cv, obAt, bitB, h0] at hu
    · simp only [cv, g1]; exact rng_mem.2 ⟨by omega, by omega⟩
    · exact hsl j q hq
  · intro i hi
    simp [cv, g3] at hi
  · refine ⟨fun i hi => hz _ ?_, fun j hj i hi => hz _ ?_, fun j hj hu => ?_⟩
    · simp only [cv] at hi ⊢
      exact fresh_low H (by omega) (by omega)
    · simp only [cv] at hi hj ⊢
      have := (at_root H hj).1
      exact fresh_low H (by omega) (by omega)
    · simp [cv, obAt, bitB, h0] at hu
end Vw
end Go.Proofs.Ytbffhfmhjnflbaa
