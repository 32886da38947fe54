/-
  Lemmas: SeqC.
-/
import Derived.Test.YtkiojiibppdjjaaTp05
/-
  The tasks of a record with a version: how a job under way lies in memory, and what it is as a plain state.
-/
namespace Go.Proofs.Ytkiojiibppdjjaa
open Go.RowKit
set_option linter.unusedVariables false
set_option linter.unusedSimpArgs false
set_option maxRecDepth 20000
namespace Seq

/-- A Write's cells. -/
def wrC (last st at_ was value : Int) (t : Ans) : Nat → Value := fun i => match i with | 0 => .int .i64 last | 1 => .int .i64 st | 2 => .int .i64 at_ | 3 => .int .u64 was | 4 => .int .u64 value | 5 => .bool t.ok | _ => .int .u64 t.val
/-- A Read's cells. -/
def rdC (hand last st at_ seen : Int) (fo t : Ans) : Nat → Value := fun i => match i with | 0 => .int .i64 hand | 1 => .int .i64 last | 2 => .int .i64 st | 3 => .int .i64 at_ | 4 => .int .u64 seen | 5 => .bool fo.ok | 6 => .int .u64 fo.val | 7 => .bool t.ok | _ => .int .u64 t.val

def u64 (x : Int) : Int := x % 18446744073709551616
theorem u64_lo (x : Int) : 0 ≤ u64 x := by unfold u64; omega
theorem u64_hi (x : Int) : u64 x ≤ 18446744073709551615 := by unfold u64; omega
theorem u64_id {x : Int} (h : 0 ≤ x ∧ x ≤ 18446744073709551615) : u64 x = x := by unfold u64; omega

structure SeS where
  hand : Int
  j : Jb
  st : Int
  at_ : Int
  ver : Int
  fnd : Ans
  told : Ans

/-- What the words so far tell, when the word at_ is h. -/
def fnx (at_ h : Int) (f : Ans) : Ans := if at_ = 1 then ⟨true, h⟩ else if h = f.val then f else ⟨false, f.val⟩

def serr (hand : Int) (j : Jb) : Int := if j.kind = 1 then (if hand = 0 then 0 else 2) else if j.kind = 2 then 0 else 200
def sreq (s : SeS) : Stp :=
  if s.j.kind = 1 then
    (if s.st = 0 then ⟨s.hand, 1, 0, 0, 0, true⟩ else if s.st = 1 then ⟨s.hand, 2, 0, 0, u64 (s.ver + 1), true⟩ else if s.st = 2 then ⟨s.hand, 2, s.at_, 0, s.j.h, true⟩ else ⟨s.hand, 2, 0, 0, u64 (s.ver + 2), true⟩)
  else (if s.st = 2 then ⟨s.hand, 1, s.at_, 0, 0, true⟩ else ⟨s.hand, 1, 0, 0, 0, true⟩)
def sends (s : SeS) (x : Stp) : Bool :=
  if s.j.kind = 1 then (if s.st = 3 then true else false)
  else (if s.st = 3 then decide (x.had = s.ver) else false)
def snext (r : Int) (s : SeS) (x : Stp) : SeS :=
  if s.j.kind = 1 then
    (if s.st = 0 then { s with ver := x.had, st := 1 } else if s.st = 1 then { s with at_ := 1, st := 2 }
     else if s.st = 2 then { s with at_ := s.at_ + 1, st := if r < s.at_ + 1 then 3 else 2 } else { s with told := ⟨true, u64 (s.ver + 2)⟩ })
  else
    (if s.st = 0 then (if x.had % 2 = 0 then { s with ver := x.had, at_ := 1, st := 2 } else s)
     else if s.st = 2 then { s with fnd := fnx s.at_ x.had s.fnd, at_ := s.at_ + 1, st := if r < s.at_ + 1 then 3 else 2 }
     else if x.had = s.ver then { s with told := s.fnd } else { s with st := 0 })
def scell (r : Int) (s : SeS) : Nat → Value := if s.j.kind = 1 then wrC r s.st s.at_ s.ver s.j.h s.told else rdC s.hand r s.st s.at_ s.ver s.fnd s.told
def spick {α : Type} (j : Jb) (x y : α) : α := if j.kind = 1 then x else y
theorem pick1 {α : Type} {j : Jb} (h : j.kind = 1) (x y : α) : spick j x y = x := by simp [spick, h]
theorem pick2 {α : Type} {j : Jb} (h : ¬ j.kind = 1) (x y : α) : spick j x y = y := by simp [spick, h]

/-- What stands in a task under way. -/
structure Wf (r : Int) (s : SeS) : Prop where
  st : (s.j.kind = 1 ∧ s.hand = 0 ∧ (s.st = 0 ∨ s.st = 1 ∨ s.st = 2 ∨ s.st = 3)) ∨ (s.j.kind = 2 ∧ (s.st = 0 ∨ s.st = 2 ∨ s.st = 3))
  h : s.j.wf
  at_ : s.st = 2 → 1 ≤ s.at_ ∧ s.at_ ≤ r
  at3 : s.st = 3 → s.at_ = r + 1
  ver : 0 ≤ s.ver ∧ s.ver ≤ 18446744073709551615

def sinit (h : Int) (j : Jb) : SeS := ⟨if j.kind = 1 then 0 else h, j, 0, 0, 0, ⟨false, 0⟩, ⟨false, 0⟩⟩
def kSeq (r : Int) : Kd where
  σ := SeS
  err := serr
  init := sinit
  req := sreq
  next := snext r
  ends := sends
  tell s := s.told
  tid j := spick j 98 101
  t j := spick j 100 103
  n j := spick j 7 9
  fs j := spick j 92 105
  fa j := spick j 91 104
  cell := scell r
  wf j s := s.j = j ∧ Wf r s

theorem had_bounds {n : Nat} {f : Nat → Int} (hf : ∀ i, i < n → 0 ≤ f i ∧ f i ≤ 18446744073709551615) (q : Stp) : 0 ≤ (stepOf n f q).had ∧ (stepOf n f q).had ≤ 18446744073709551615 := by
  unfold stepOf
  split
  · rename_i h
    exact hf _ (by omega)
  · exact ⟨Int.le_refl 0, by show (0 : Int) ≤ 18446744073709551615; decide⟩

theorem serr_cases {h : Int} {j : Jb} (e : serr h j = 0) : (j.kind = 1 ∧ h = 0) ∨ j.kind = 2 := by
  unfold serr at e
  split at e
  · split at e
    · exact .inl ⟨by assumption, by assumption⟩
    · cases e
  · split at e
    · exact .inr (by assumption)
    · cases e
theorem fine_cases {r : Int} {j : Jb} (h : (kSeq r).fine j) : (j.kind = 1 ∨ j.kind = 2) ∧ j.wf :=
  ⟨(serr_cases h.2.choose_spec).elim (fun h => .inl h.1) .inr, h.1⟩

theorem snext_j (r : Int) (s : SeS) (x : Stp) : (snext r s x).j = s.j := by
  unfold snext
  repeat' split
  all_goals rfl
theorem snext_hand (r : Int) (s : SeS) (x : Stp) : (snext r s x).hand = s.hand := by
  unfold snext
  repeat' split
  all_goals rfl

theorem snext_wf {r : Int} (hr : 1 ≤ r) {s : SeS} {x : Stp} (H : Wf r s) (hx : 0 ≤ x.had ∧ x.had ≤ 18446744073709551615) : Wf r (snext r s x) := by
  obtain ⟨hk, hh, ha, h3, hv⟩ := H
  unfold snext
  repeat' split
  all_goals (constructor <;> first | assumption | (dsimp only; omega) | (dsimp only; split <;> omega))

theorem wf_init (r h : Int) {j : Jb} (hj : (kSeq r).fine j) : Wf r (sinit h j) := by
  obtain ⟨hk, hw⟩ := fine_cases hj
  refine ⟨?_, hw, fun h => absurd h (by simp [sinit]), fun h => absurd h (by simp [sinit]), by simp [sinit]⟩
  rcases hk with hk | hk
  · exact .inl ⟨hk, by simp [sinit, hk], .inl rfl⟩
  · exact .inr ⟨hk, .inl rfl⟩

theorem sreq_put {r : Int} {s : SeS} (H : Wf r s) : 0 ≤ (sreq s).put ∧ (sreq s).put ≤ 18446744073709551615 := by
  obtain ⟨hk, hh, ha, h3, hv⟩ := H
  unfold sreq
  repeat' split
  all_goals first | assumption | exact ⟨u64_lo _, u64_hi _⟩ | (simp only; omega)
end Seq
end Go.Proofs.Ytkiojiibppdjjaa
