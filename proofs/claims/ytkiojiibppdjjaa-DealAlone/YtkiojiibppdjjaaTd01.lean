/-
  Lemmas: DealC.
-/
import Derived.Test.YtkiojiibppdjjaaTp05
set_option linter.unusedVariables false
set_option linter.unusedSimpArgs false
set_option maxRecDepth 20000
namespace Go.Proofs.Ytkiojiibppdjjaa
open Go.RowKit
namespace Deal

def mvC (hand room st fst en val : Int) (t : Ans) : Nat → Value := fun i => match i with | 0 => .int .i64 hand | 1 => .int .i64 room | 2 => .int .i64 st | 3 => .int .u64 fst | 4 => .int .u64 en | 5 => .int .u64 val | 6 => .bool t.ok | _ => .int .u64 t.val

def u64 (x : Int) : Int := x % 18446744073709551616
theorem u64_lo (x : Int) : 0 ≤ u64 x := by unfold u64; omega
theorem u64_hi (x : Int) : u64 x ≤ 18446744073709551615 := by unfold u64; omega
theorem u64_id {x : Int} (h : 0 ≤ x ∧ x ≤ 18446744073709551615) : u64 x = x := by unfold u64; omega
/-- How far x is ahead of y, as a signed number. -/
def ahd (x y : Int) : Int := wrap64 (u64 (x - y))
/-- Where a number's value stands. -/
def plc (r p : Int) : Int := 2 + p % r
theorem plc_bounds {r : Int} (p : Int) (h1 : 1 ≤ r) (h2 : r ≤ 64) : 2 ≤ plc r p ∧ plc r p < 66 := by
  have a := Int.emod_nonneg p (show r ≠ 0 by omega)
  have b := Int.emod_lt_of_pos p (show 0 < r by omega)
  unfold plc
  omega

structure DeS where
  hand : Int
  j : Jb
  st : Int
  fst : Int
  en : Int
  val : Int
  told : Ans

def derr (hand : Int) (j : Jb) : Int := if j.kind < 1 ∨ 3 < j.kind then 200 else if j.kind = 3 then 0 else if hand = 0 then 0 else 2
def dreq (r : Int) (s : DeS) : Stp :=
  if s.j.kind = 1 then
    (if s.st = 0 then ⟨s.hand, 1, 1, 0, 0, true⟩ else if s.st = 2 then ⟨s.hand, 1, 0, 0, 0, true⟩ else if s.st = 3 then ⟨s.hand, 2, plc r s.en, 0, s.val, true⟩ else ⟨s.hand, 2, 1, 0, u64 (s.en + 1), true⟩)
  else if s.j.kind = 2 then
    (if s.st = 0 then ⟨s.hand, 1, 1, 0, 0, true⟩ else if s.st = 1 then ⟨s.hand, 2, 1, 0, s.en, true⟩ else if s.st = 2 then ⟨s.hand, 1, 0, 0, 0, true⟩ else if s.st = 3 then ⟨s.hand, 1, plc r s.en, 0, 0, true⟩
     else if s.st = 4 then ⟨s.hand, 5, 0, s.fst, u64 (s.fst + 1), true⟩ else ⟨s.hand, 2, 1, 0, u64 (s.en + 1), true⟩)
  else
    (if s.st = 0 then ⟨s.hand, 1, 0, 0, 0, true⟩ else if s.st = 2 then ⟨s.hand, 1, 1, 0, 0, true⟩ else if s.st = 3 then ⟨s.hand, 1, plc r s.fst, 0, 0, true⟩ else ⟨s.hand, 5, 0, s.fst, u64 (s.fst + 1), true⟩)
def dends (r : Int) (s : DeS) (x : Stp) : Bool :=
  if s.j.kind = 1 then (if s.st = 0 then false else if s.st = 2 then decide (r ≤ ahd s.en x.had) else if s.st = 3 then false else true)
  else if s.j.kind = 2 then (if s.st = 0 then false else if s.st = 1 then false else if s.st = 2 then false else if s.st = 3 then decide (0 < ahd s.en s.fst) else if s.st = 4 then false else true)
  else (if s.st = 0 then false else if s.st = 2 then decide (ahd x.had s.fst ≤ 0) else if s.st = 3 then false else x.ok)
def dnext (r : Int) (s : DeS) (x : Stp) : DeS :=
  if s.j.kind = 1 then
    (if s.st = 0 then { s with en := x.had, st := 2 } else if s.st = 2 then { s with fst := x.had, st := if r ≤ ahd s.en x.had then 2 else 3 } else if s.st = 3 then { s with st := 5 } else { s with told := ⟨true, s.val⟩ })
  else if s.j.kind = 2 then
    (if s.st = 0 then { s with en := u64 (x.had - 1), st := 1 } else if s.st = 1 then { s with st := 2 } else if s.st = 2 then { s with fst := x.had, st := if ahd s.en x.had < 0 then 5 else 3 }
     else if s.st = 3 then { s with val := x.had, st := 4, told := if 0 < ahd s.en s.fst then ⟨true, x.had⟩ else s.told } else if s.st = 4 then { s with st := 5, told := if x.ok = true then ⟨true, s.val⟩ else s.told } else s)
  else
    (if s.st = 0 then { s with fst := x.had, st := 2 } else if s.st = 2 then { s with en := x.had, st := if ahd x.had s.fst ≤ 0 then 2 else 3 } else if s.st = 3 then { s with val := x.had, st := 4 }
     else if x.ok = true then { s with told := ⟨true, s.val⟩ } else { s with st := 0 })
def dcell (r : Int) (s : DeS) : Nat → Value := mvC s.hand r s.st s.fst s.en s.val s.told
def dpick {α : Type} (j : Jb) (x y z : α) : α := if j.kind = 1 then x else if j.kind = 2 then y else z
theorem pick1 {α : Type} {j : Jb} (h : j.kind = 1) (x y z : α) : dpick j x y z = x := by simp [dpick, h]
theorem pick2 {α : Type} {j : Jb} (h : j.kind = 2) (x y z : α) : dpick j x y z = y := by simp [dpick, h]
theorem pick3 {α : Type} {j : Jb} (h1 : ¬ j.kind = 1) (h2 : ¬ j.kind = 2) (x y z : α) : dpick j x y z = z := by simp [dpick, h1, h2]

/-- What stands in a task under way. -/
structure Wf (s : DeS) : Prop where
  st : (s.j.kind = 1 ∧ (s.st = 0 ∨ s.st = 2 ∨ s.st = 3 ∨ s.st = 5)) ∨ (s.j.kind = 2 ∧ 0 ≤ s.st ∧ s.st ≤ 5) ∨ (s.j.kind = 3 ∧ (s.st = 0 ∨ s.st = 2 ∨ s.st = 3 ∨ s.st = 4))
  h : s.j.wf
  fst : 0 ≤ s.fst ∧ s.fst ≤ 18446744073709551615
  en : 0 ≤ s.en ∧ s.en ≤ 18446744073709551615
  val : 0 ≤ s.val ∧ s.val ≤ 18446744073709551615

def dinit (h : Int) (j : Jb) : DeS := ⟨h, j, 0, 0, 0, if j.kind = 1 then j.h else 0, ⟨false, 0⟩⟩
def kDeal (r : Int) : Kd where
  σ := DeS
  err := derr
  init := dinit
  req := dreq r
  next := dnext r
  ends := dends r
  tell s := s.told
  tid j := dpick j 126 129 131
  t j := dpick j 128 130 132
  n _ := 8
  fs j := dpick j 111 121 127
  fa _ := 110
  cell := dcell r
  wf j s := s.j = j ∧ Wf s

theorem had_bounds {n : Nat} {f : Nat → Int} (hf : ∀ i, i < n → 0 ≤ f i ∧ f i ≤ 18446744073709551615) (q : Stp) : 0 ≤ (stepOf n f q).had ∧ (stepOf n f q).had ≤ 18446744073709551615 := by
  unfold stepOf
  split
  · rename_i h
    exact hf _ (by omega)
  · exact ⟨Int.le_refl 0, by show (0 : Int) ≤ 18446744073709551615; decide⟩

theorem derr_cases {h : Int} {j : Jb} (e : derr h j = 0) : (j.kind = 1 ∨ j.kind = 2 ∨ j.kind = 3) ∧ (j.kind = 3 ∨ h = 0) := by
  unfold derr at e
  split at e
  · cases e
  · split at e
    · omega
    · split at e
      · omega
      · cases e
theorem fine_cases {r : Int} {j : Jb} (h : (kDeal r).fine j) : (j.kind = 1 ∨ j.kind = 2 ∨ j.kind = 3) ∧ j.wf :=
  ⟨(derr_cases h.2.choose_spec).1, h.1⟩

theorem dnext_j (r : Int) (s : DeS) (x : Stp) : (dnext r s x).j = s.j := by
  unfold dnext
  repeat' split
  all_goals rfl
theorem dnext_hand (r : Int) (s : DeS) (x : Stp) : (dnext r s x).hand = s.hand := by
  unfold dnext
  repeat' split
  all_goals rfl

theorem dnext_wf {r : Int} {s : DeS} {x : Stp} (H : Wf s) (hx : 0 ≤ x.had ∧ x.had ≤ 18446744073709551615) : Wf (dnext r s x) := by
  obtain ⟨hk, hh, hf, he, hv⟩ := H
  unfold dnext
  repeat' split
  all_goals (constructor <;> first | assumption | exact ⟨u64_lo _, u64_hi _⟩ | (dsimp only; omega))

theorem wf_init (r h : Int) {j : Jb} (hj : (kDeal r).fine j) : Wf (dinit h j) := by
  obtain ⟨hk, hw⟩ := fine_cases hj
  have hw' : 0 ≤ j.h ∧ j.h ≤ 18446744073709551615 := hw
  refine ⟨by dsimp only [dinit]; omega, hw, by simp [dinit], by simp [dinit], ?_⟩
  show 0 ≤ (if j.kind = 1 then j.h else 0) ∧ (if j.kind = 1 then j.h else 0) ≤ 18446744073709551615
  split
  · exact hw'
  · omega

theorem dreq_put {r : Int} {s : DeS} (H : Wf s) : 0 ≤ (dreq r s).put ∧ (dreq r s).put ≤ 18446744073709551615 := by
  obtain ⟨hk, hh, hf, he, hv⟩ := H
  unfold dreq
  repeat' split
  all_goals first | assumption | exact ⟨u64_lo _, u64_hi _⟩ | (simp only; omega)
end Deal
end Go.Proofs.Ytkiojiibppdjjaa
