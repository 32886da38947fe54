/-
  Lemmas: BellC.
-/
import Derived.Test.YtbjlpmahomjgjaaTp05
/-
  The tasks of a bell: how a Ring under way lies in memory, and what it is as a plain state.
-/
namespace Go.Proofs.Ytbjlpmahomjgjaa
open Go.RowKit
set_option linter.unusedVariables false
set_option linter.unusedSimpArgs false
set_option maxRecDepth 20000
namespace Bell

def rgC (hand al st mine rung : Int) (t : Ans) : Nat → Value := fun i => match i with | 0 => .int .i64 hand | 1 => .int .u64 al | 2 => .int .i64 st | 3 => .int .u64 mine | 4 => .int .u64 rung | 5 => .bool t.ok | _ => .int .u64 t.val

def u64 (x : Int) : Int := x % 18446744073709551616
theorem u64_lo (x : Int) : 0 ≤ u64 x := by unfold u64; omega
theorem u64_hi (x : Int) : u64 x ≤ 18446744073709551615 := by unfold u64; omega
theorem u64_id {x : Int} (h : 0 ≤ x ∧ x ≤ 18446744073709551615) : u64 x = x := by unfold u64; omega

structure BeS where
  hand : Int
  j : Jb
  st : Int
  mine : Int
  rung : Int
  told : Ans

def berr (j : Jb) : Int := if j.kind = 1 then 0 else 200
def breq (r : Int) (s : BeS) : Stp :=
  if s.st = 0 then ⟨s.hand, 1, 1, 0, 0, true⟩ else if s.st = 1 then ⟨s.hand, 4, 0, 0, 1, true⟩ else if s.st = 2 then (if s.rung = r then ⟨s.hand, 2, 0, 0, 0, true⟩ else ⟨s.hand, 1, 1, 0, 0, true⟩)
  else if s.st = 4 then ⟨s.hand, 2, 1, 0, u64 (s.mine + 1), true⟩ else ⟨s.hand, 1, 1, 0, 0, true⟩
def bends (r : Int) (s : BeS) (x : Stp) : Bool :=
  if s.st = 0 then false else if s.st = 1 then false else if s.st = 2 then (if s.rung = r then false else !(x.had == s.mine)) else if s.st = 4 then true else !(x.had == s.mine)
def bnext (r : Int) (s : BeS) (x : Stp) : BeS :=
  if s.st = 0 then { s with mine := x.had, st := 1 } else if s.st = 1 then { s with rung := u64 (x.had + 1), st := 2 }
  else if s.st = 2 then (if s.rung = r then { s with st := 4 } else if x.had = s.mine then { s with st := 5 } else { s with st := 5, told := ⟨false, s.mine⟩ })
  else if s.st = 4 then { s with told := ⟨true, s.mine⟩ } else if x.had = s.mine then s else { s with told := ⟨false, s.mine⟩ }
def bcell (r : Int) (s : BeS) : Nat → Value := rgC s.hand r s.st s.mine s.rung s.told

/-- What stands in a Ring under way. -/
structure Wf (s : BeS) : Prop where
  st : s.st = 0 ∨ s.st = 1 ∨ s.st = 2 ∨ s.st = 4 ∨ s.st = 5
  kind : s.j.kind = 1
  mine : 0 ≤ s.mine ∧ s.mine ≤ 18446744073709551615
  rung : 0 ≤ s.rung ∧ s.rung ≤ 18446744073709551615

def binit (h : Int) (j : Jb) : BeS := ⟨h, j, 0, 0, 0, ⟨false, 0⟩⟩
def kBell (r : Int) : Kd where
  σ := BeS
  err _ := berr
  init := binit
  req := breq r
  next := bnext r
  ends := bends r
  tell s := s.told
  tid _ := 107
  t _ := 109
  n _ := 7
  fs _ := 117
  fa _ := 116
  cell := bcell r
  wf j s := s.j = j ∧ Wf s

theorem had_bounds {n : Nat} {f : Nat → Int} (hf : ∀ i, i < n → 0 ≤ f i ∧ f i ≤ 18446744073709551615) (q : Stp) : 0 ≤ (stepOf n f q).had ∧ (stepOf n f q).had ≤ 18446744073709551615 := by
  unfold stepOf
  split
  · rename_i h
    exact hf _ (by omega)
  · exact ⟨Int.le_refl 0, by show (0 : Int) ≤ 18446744073709551615; decide⟩

theorem berr_kind {j : Jb} (h : berr j = 0) : j.kind = 1 := by
  unfold berr at h
  split at h
  · assumption
  · cases h
theorem fine_kind {r : Int} {j : Jb} (h : (kBell r).fine j) : j.kind = 1 := berr_kind h.2.choose_spec

theorem bnext_j (r : Int) (s : BeS) (x : Stp) : (bnext r s x).j = s.j := by
  unfold bnext
  repeat' split
  all_goals rfl
theorem bnext_hand (r : Int) (s : BeS) (x : Stp) : (bnext r s x).hand = s.hand := by
  unfold bnext
  repeat' split
  all_goals rfl

theorem bnext_wf {r : Int} {s : BeS} {x : Stp} (H : Wf s) (hx : 0 ≤ x.had ∧ x.had ≤ 18446744073709551615) : Wf (bnext r s x) := by
  obtain ⟨h0, hk, hm, hr⟩ := H
  unfold bnext
  repeat' split
  all_goals (constructor <;> first | assumption | exact ⟨u64_lo _, u64_hi _⟩ | (dsimp only; omega))

theorem wf_init (r h : Int) {j : Jb} (hj : (kBell r).fine j) : Wf (binit h j) :=
  ⟨.inl rfl, fine_kind hj, by simp [binit], by simp [binit]⟩

theorem breq_put {r : Int} {s : BeS} : 0 ≤ (breq r s).put ∧ (breq r s).put ≤ 18446744073709551615 := by
  unfold breq
  repeat' split
  all_goals first | exact ⟨u64_lo _, u64_hi _⟩ | (simp only; omega)
end Bell
end Go.Proofs.Ytbjlpmahomjgjaa
