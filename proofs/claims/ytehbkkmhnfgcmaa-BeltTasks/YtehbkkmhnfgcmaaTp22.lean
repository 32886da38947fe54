/-
  Lemmas: BeltC.
-/
import Derived.Test.YtehbkkmhnfgcmaaTp05
/-
  The tasks of a belt: how a job under way lies in memory, and what it is as a plain state.
-/
namespace Go.Proofs.Ytehbkkmhnfgcmaa
open Go.RowKit
set_option linter.unusedVariables false
set_option linter.unusedSimpArgs false
set_option maxRecDepth 20000
namespace Belt

def pasC (hand room kind count st num value : Int) (t : Ans) : Nat → Value := fun i => match i with | 0 => .int .i64 hand | 1 => .int .i64 room | 2 => .int .i64 kind | 3 => .int .i64 count | 4 => .int .i64 st | 5 => .int .u64 num | 6 => .int .u64 value | 7 => .bool t.ok | _ => .int .u64 t.val

def u64 (x : Int) : Int := x % 18446744073709551616
theorem u64_lo (x : Int) : 0 ≤ u64 x := by unfold u64; omega
theorem u64_hi (x : Int) : u64 x ≤ 18446744073709551615 := by unfold u64; omega
def cnt (k : Int) : Int := if k = 1 then 0 else 1
def mrk (r p : Int) : Int := 2 + p % r
def fre (p : Int) : Int := u64 (2 * p)
def giv (p : Int) : Int := u64 (u64 (2 * p) + 1)
def rdy (k p : Int) : Int := if k = 1 then fre p else giv p
def dne (k r p : Int) : Int := if k = 1 then giv p else fre (u64 (p + r))
/-- How far x is ahead of y, as a signed number. -/
def ahd (x y : Int) : Int := wrap64 (u64 (x - y))
theorem rdy_bounds (k p : Int) : 0 ≤ rdy k p ∧ rdy k p ≤ 18446744073709551615 := by
  unfold rdy fre giv
  split
  · exact ⟨u64_lo _, u64_hi _⟩
  · exact ⟨u64_lo _, u64_hi _⟩
theorem dne_bounds (k r p : Int) : 0 ≤ dne k r p ∧ dne k r p ≤ 18446744073709551615 := by
  unfold dne fre giv
  split
  · exact ⟨u64_lo _, u64_hi _⟩
  · exact ⟨u64_lo _, u64_hi _⟩
theorem mrk_bounds {r : Int} (p : Int) (h1 : 1 ≤ r) (h2 : r ≤ 64) : 2 ≤ mrk r p ∧ mrk r p < 66 := by
  have a := Int.emod_nonneg p (show r ≠ 0 by omega)
  have b := Int.emod_lt_of_pos p (show 0 < r by omega)
  unfold mrk
  omega

structure BeS where
  hand : Int
  j : Jb
  st : Int
  num : Int
  val : Int
  told : Ans

def berr (j : Jb) : Int := if j.kind = 1 then 0 else if j.kind = 2 then 0 else 200
def breq (r : Int) (s : BeS) : Stp :=
  if s.st = 0 then ⟨s.hand, 1, cnt s.j.kind, 0, 0, true⟩ else if s.st = 1 then ⟨s.hand, 1, mrk r s.num, 0, 0, true⟩ else if s.st = 2 then ⟨s.hand, 5, cnt s.j.kind, s.num, u64 (s.num + 1), true⟩
  else if s.st = 3 then (if s.j.kind = 1 then ⟨s.hand, 2, mrk r s.num + r, 0, s.j.h, true⟩ else ⟨s.hand, 1, mrk r s.num + r, 0, 0, true⟩)
  else ⟨s.hand, 2, mrk r s.num, 0, dne s.j.kind r s.num, true⟩
def bends (s : BeS) (x : Stp) : Bool := if s.st = 0 then false else if s.st = 1 then decide (ahd x.had (rdy s.j.kind s.num) < 0) else if s.st = 2 then false else if s.st = 3 then false else true
def bnext (s : BeS) (x : Stp) : BeS :=
  if s.st = 0 then { s with num := x.had, st := 1 }
  else if s.st = 1 then { s with st := if ahd x.had (rdy s.j.kind s.num) < 0 then 1 else if 0 < ahd x.had (rdy s.j.kind s.num) then 0 else 2 }
  else if s.st = 2 then { s with st := if x.ok = true then 3 else 0 }
  else if s.st = 3 then (if s.j.kind = 1 then { s with st := 4 } else { s with val := x.had, st := 4 })
  else { s with told := ⟨true, if s.j.kind = 1 then s.num else s.val⟩ }
def bcell (r : Int) (s : BeS) : Nat → Value := pasC s.hand r s.j.kind (cnt s.j.kind) s.st s.num (if s.j.kind = 1 then s.j.h else s.val) s.told

/-- What stands in a task under way. -/
structure Wf (s : BeS) : Prop where
  st0 : 0 ≤ s.st
  st4 : s.st ≤ 4
  kind : s.j.kind = 1 ∨ s.j.kind = 2
  h : s.j.wf
  num : 0 ≤ s.num ∧ s.num ≤ 18446744073709551615
  val : 0 ≤ s.val ∧ s.val ≤ 18446744073709551615

def kBelt (r : Int) : Kd where
  σ := BeS
  err := berr
  init h j := ⟨h, j, 0, 0, 0, ⟨false, 0⟩⟩
  req := breq r
  next := bnext
  ends := bends
  tell s := s.told
  tid _ := 92
  t _ := 94
  n _ := 9
  fs _ := 103
  fa _ := 102
  cell := bcell r
  wf j s := s.j = j ∧ Wf s

theorem had_bounds {n : Nat} {f : Nat → Int} (hf : ∀ i, i < n → 0 ≤ f i ∧ f i ≤ 18446744073709551615) (q : Stp) : 0 ≤ (stepOf n f q).had ∧ (stepOf n f q).had ≤ 18446744073709551615 := by
  unfold stepOf
  split
  · rename_i h
    exact hf _ (by omega)
  · exact ⟨Int.le_refl 0, by show (0 : Int) ≤ 18446744073709551615; decide⟩

theorem fine_cases {r : Int} {j : Jb} (h : (kBelt r).fine j) : (j.kind = 1 ∨ j.kind = 2) ∧ j.wf := by
  have h2 : berr j = 0 := h.2
  refine ⟨?_, h.1⟩
  unfold berr at h2
  split at h2
  · exact .inl (by assumption)
  · split at h2
    · exact .inr (by assumption)
    · cases h2

theorem bnext_j (s : BeS) (x : Stp) : (bnext s x).j = s.j := by
  unfold bnext
  repeat' split
  all_goals rfl

theorem bnext_wf {s : BeS} {x : Stp} (H : Wf s) (hx : 0 ≤ x.had ∧ x.had ≤ 18446744073709551615) : Wf (bnext s x) := by
  obtain ⟨h0, h4, hk, hh, hn, hv⟩ := H
  unfold bnext
  repeat' split
  all_goals (constructor <;> first | assumption | (simp only; first | omega | (split <;> omega)))

theorem wf_init (r h : Int) {j : Jb} (hj : (kBelt r).fine j) : Wf ⟨h, j, 0, 0, 0, ⟨false, 0⟩⟩ := by
  obtain ⟨hk, hw⟩ := fine_cases hj
  constructor <;> first | exact hk | exact hw | (simp only; omega)
end Belt
end Go.Proofs.Ytehbkkmhnfgcmaa
