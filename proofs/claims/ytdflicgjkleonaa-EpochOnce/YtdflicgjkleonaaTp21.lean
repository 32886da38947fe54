/-
  Lemmas: EpochC.
-/
import Derived.Test.YtdflicgjkleonaaTp05
/-
  The tasks of an epoch: how a job under way lies in memory, and what it is as a plain state.
-/
namespace Go.Proofs.Ytdflicgjkleonaa
open Go.RowKit
set_option linter.unusedVariables false
set_option linter.unusedSimpArgs false
set_option maxRecDepth 20000
namespace Epoch

/-- An Enter's cells. -/
def enC (hand seen : Int) (ld : Bool) (t : Ans) : Nat → Value := fun i => match i with | 0 => .int .i64 hand | 1 => .bool t.ok | 2 => .int .u64 t.val | 3 => .int .u64 seen | _ => .bool ld
/-- A Leave's cells. -/
def lvC (hand : Int) (t : Ans) : Nat → Value := fun i => match i with | 0 => .int .i64 hand | 1 => .bool t.ok | _ => .int .u64 t.val
/-- A Retire's cells. -/
def rtC (hand place seen : Int) (ld : Bool) (t : Ans) : Nat → Value := fun i => match i with | 0 => .int .i64 hand | 1 => .bool t.ok | 2 => .int .u64 t.val | 3 => .int .i64 place | 4 => .int .u64 seen | _ => .bool ld
/-- A Reap's cells. -/
def rpC (hand room st nx seen given mask : Int) (t : Ans) : Nat → Value := fun i => match i with | 0 => .int .i64 hand | 1 => .bool t.ok | 2 => .int .u64 t.val | 3 => .int .i64 room | 4 => .int .i64 st | 5 => .int .i64 nx | 6 => .int .u64 seen | 7 => .int .u64 given | _ => .int .u64 mask

def u64 (x : Int) : Int := x % 18446744073709551616
theorem u64_lo (x : Int) : 0 ≤ u64 x := by unfold u64; omega
theorem u64_hi (x : Int) : u64 x ≤ 18446744073709551615 := by unfold u64; omega
theorem u64_id {x : Int} (h : 0 ≤ x ∧ x ≤ 18446744073709551615) : u64 x = x := by unfold u64; omega

/-- A mask with one more bit. -/
def mput (m nx : Int) : Int := ((m.toNat ||| 2 ^ nx.toNat : Nat) : Int)
theorem mput_bounds {m nx : Int} (hm : 0 ≤ m ∧ m ≤ 18446744073709551615) (hn : 0 ≤ nx ∧ nx < 64) : 0 ≤ mput m nx ∧ mput m nx ≤ 18446744073709551615 := by
  unfold mput
  have h1 : m.toNat < 2 ^ 64 := by omega
  have h2 : 2 ^ nx.toNat < 2 ^ 64 := Nat.pow_lt_pow_right (by omega) (by omega)
  have h3 := Nat.or_lt_two_pow h1 h2
  omega

structure EpS where
  hand : Int
  j : Jb
  st : Int
  nx : Int
  e : Int
  f : Int
  w : Int
  given : Int
  mask : Int
  told : Ans

def eerr (r : Int) (hand : Int) (j : Jb) : Int := if j.kind < 1 ∨ 4 < j.kind then 200 else if j.kind = 3 ∧ (j.a < 0 ∨ r ≤ j.a) then 2 else if hand < 0 ∨ 8 ≤ hand then 2 else 0
def ereq (s : EpS) : Stp :=
  if s.j.kind = 1 then (if s.st = 0 then ⟨s.hand, 1, 0, 0, 0, true⟩ else ⟨s.hand, 2, 1 + s.hand, 0, u64 (s.e + 1), true⟩)
  else if s.j.kind = 2 then ⟨s.hand, 2, 1 + s.hand, 0, 0, true⟩
  else if s.j.kind = 3 then (if s.st = 0 then ⟨s.hand, 1, 0, 0, 0, true⟩ else ⟨s.hand, 5, 9 + s.j.a, 0, u64 (s.e + 1), true⟩)
  else (if s.st = 0 then ⟨s.hand, 1, 0, 0, 0, true⟩ else if s.st = 1 then ⟨s.hand, 1, 1 + s.nx, 0, 0, true⟩ else if s.st = 2 then ⟨s.hand, 5, 0, s.e, u64 (s.e + 1), true⟩
    else if s.st = 3 then ⟨s.hand, 1, 0, 0, 0, true⟩ else if s.st = 4 then ⟨s.hand, 1, 9 + s.nx, 0, 0, true⟩ else ⟨s.hand, 5, 9 + s.nx, s.given, 0, true⟩)
/-- A place's word that a Reap gives back. -/
def due (h f : Int) : Prop := ¬ h = 0 ∧ u64 (h + 1) ≤ f
instance (h f : Int) : Decidable (due h f) := by unfold due; infer_instance
/-- A hand's word that keeps the epoch. -/
def bars (h e : Int) : Prop := ¬ h = 0 ∧ ¬ h = u64 (e + 1)
instance (h e : Int) : Decidable (bars h e) := by unfold bars; infer_instance
def eends (r : Int) (s : EpS) (x : Stp) : Bool :=
  if s.j.kind = 1 then (if s.st = 0 then false else true)
  else if s.j.kind = 2 then true
  else if s.j.kind = 3 then (if s.st = 0 then false else true)
  else (if s.st = 4 then (if due x.had s.f then false else decide (¬ s.nx + 1 < r)) else if s.st = 5 then decide (¬ s.nx + 1 < r) else false)
def enext (r : Int) (s : EpS) (x : Stp) : EpS :=
  if s.j.kind = 1 then (if s.st = 0 then { s with e := x.had, st := 1 } else { s with told := ⟨true, s.e⟩ })
  else if s.j.kind = 2 then { s with told := ⟨true, 0⟩ }
  else if s.j.kind = 3 then (if s.st = 0 then { s with e := x.had, st := 1 } else { s with told := ⟨x.ok, 0⟩ })
  else
    (if s.st = 0 then { s with e := x.had, nx := 0, st := 1 }
     else if s.st = 1 then { s with nx := s.nx + 1, st := if bars x.had s.e then 3 else if s.nx + 1 = 8 then 2 else 1 }
     else if s.st = 2 then { s with st := 3 }
     else if s.st = 3 then { s with f := x.had, nx := 0, st := 4 }
     else if s.st = 4 then (if due x.had s.f then { s with w := x.had, given := x.had, st := 5 } else { s with w := x.had, nx := s.nx + 1, told := if s.nx + 1 < r then s.told else ⟨true, s.mask⟩ })
     else { s with mask := if x.ok = true then mput s.mask s.nx else s.mask, nx := s.nx + 1, st := 4, told := if s.nx + 1 < r then s.told else ⟨true, if x.ok = true then mput s.mask s.nx else s.mask⟩ })
def ecell (r : Int) (s : EpS) : Nat → Value :=
  if s.j.kind = 1 then enC s.hand s.e (decide (s.st = 1)) s.told
  else if s.j.kind = 2 then lvC s.hand s.told
  else if s.j.kind = 3 then rtC s.hand s.j.a s.e (decide (s.st = 1)) s.told
  else rpC s.hand r s.st s.nx (if s.st < 4 then s.e else s.f) s.given s.mask s.told
def epick {α : Type} (j : Jb) (x y z u : α) : α := if j.kind = 1 then x else if j.kind = 2 then y else if j.kind = 3 then z else u

/-- What stands in a task under way. -/
structure Wf (r : Int) (s : EpS) : Prop where
  st : (s.j.kind = 1 ∧ (s.st = 0 ∨ s.st = 1)) ∨ (s.j.kind = 2 ∧ s.st = 0) ∨ (s.j.kind = 3 ∧ (0 ≤ s.j.a ∧ s.j.a < r) ∧ (s.st = 0 ∨ s.st = 1)) ∨ (s.j.kind = 4 ∧ 0 ≤ s.st ∧ s.st ≤ 5)
  h : s.j.wf
  hand : 0 ≤ s.hand ∧ s.hand < 8
  nx : 0 ≤ s.nx ∧ s.nx ≤ 64
  nx0 : s.st = 0 → s.nx = 0
  nx1 : s.st = 1 → s.nx < 8
  nx4 : 4 ≤ s.st → s.nx < r
  gw : s.st = 5 → s.given = s.w
  e : 0 ≤ s.e ∧ s.e ≤ 18446744073709551615
  f : 0 ≤ s.f ∧ s.f ≤ 18446744073709551615
  w : 0 ≤ s.w ∧ s.w ≤ 18446744073709551615
  given : 0 ≤ s.given ∧ s.given ≤ 18446744073709551615
  mask : 0 ≤ s.mask ∧ s.mask ≤ 18446744073709551615

def einit (h : Int) (j : Jb) : EpS := ⟨if 0 ≤ h ∧ h < 8 then h else 0, j, 0, 0, 0, 0, 0, 0, 0, ⟨false, 0⟩⟩
def kEpoch (r : Int) : Kd where
  σ := EpS
  err := eerr r
  init := einit
  req := ereq
  next := enext r
  ends := eends r
  tell s := s.told
  tid j := epick j 98 101 104 107
  t j := epick j 100 103 106 109
  n j := epick j 5 3 6 9
  fs j := epick j 92 104 105 107
  fa _ := 91
  cell := ecell r
  wf j s := s.j = j ∧ Wf r s

theorem had_bounds {n : Nat} {f : Nat → Int} (hf : ∀ i, i < n → 0 ≤ f i ∧ f i ≤ 18446744073709551615) (q : Stp) : 0 ≤ (stepOf n f q).had ∧ (stepOf n f q).had ≤ 18446744073709551615 := by
  unfold stepOf
  split
  · rename_i h
    exact hf _ (by omega)
  · exact ⟨Int.le_refl 0, by show (0 : Int) ≤ 18446744073709551615; decide⟩

theorem eerr_cases {r h : Int} {j : Jb} (e : eerr r h j = 0) : (j.kind = 1 ∨ j.kind = 2 ∨ (j.kind = 3 ∧ 0 ≤ j.a ∧ j.a < r) ∨ j.kind = 4) ∧ 0 ≤ h ∧ h < 8 := by
  unfold eerr at e
  split at e
  · cases e
  · split at e
    · cases e
    · split at e
      · cases e
      · omega
theorem fine_cases {r : Int} {j : Jb} (h : (kEpoch r).fine j) : (j.kind = 1 ∨ j.kind = 2 ∨ (j.kind = 3 ∧ 0 ≤ j.a ∧ j.a < r) ∨ j.kind = 4) ∧ j.wf :=
  ⟨(eerr_cases h.2.choose_spec).1, h.1⟩

theorem enext_j (r : Int) (s : EpS) (x : Stp) : (enext r s x).j = s.j := by
  unfold enext
  repeat' split
  all_goals rfl
theorem enext_hand (r : Int) (s : EpS) (x : Stp) : (enext r s x).hand = s.hand := by
  unfold enext
  repeat' split
  all_goals rfl

theorem enext_wf {r : Int} (hr : 1 ≤ r ∧ r ≤ 64) {s : EpS} {x : Stp} (H : Wf r s) (hx : 0 ≤ x.had ∧ x.had ≤ 18446744073709551615) (he : ¬ eends r s x = true) : Wf r (enext r s x) := by
  obtain ⟨hk, hh, hha, hn, hn0, hn1, hn4, hgw, h1, h2, h3, h4, h5⟩ := H
  unfold enext
  unfold eends at he
  by_cases k1 : s.j.kind = 1
  · rw [if_pos k1] at he ⊢
    split
    · exact ⟨by dsimp only; omega, hh, hha, hn, by dsimp only; omega, by dsimp only; omega, by dsimp only; omega, by dsimp only; omega, hx, h2, h3, h4, h5⟩
    · rename_i c; rw [if_neg c] at he; exact absurd rfl he
  rw [if_neg k1] at he ⊢
  by_cases k2 : s.j.kind = 2
  · rw [if_pos k2] at he; exact absurd rfl he
  rw [if_neg k2] at he ⊢
  by_cases k3 : s.j.kind = 3
  · rw [if_pos k3] at he ⊢
    split
    · exact ⟨by dsimp only; omega, hh, hha, hn, by dsimp only; omega, by dsimp only; omega, by dsimp only; omega, by dsimp only; omega, hx, h2, h3, h4, h5⟩
    · rename_i c; rw [if_neg c] at he; exact absurd rfl he
  rw [if_neg k3] at he ⊢
  have hk4 : s.j.kind = 4 ∧ 0 ≤ s.st ∧ s.st ≤ 5 := by omega
  by_cases s0 : s.st = 0
  · rw [if_pos s0]
    exact ⟨by dsimp only; omega, hh, hha, by dsimp only; omega, by dsimp only; omega, by dsimp only; omega, by dsimp only; omega, by dsimp only; omega, hx, h2, h3, h4, h5⟩
  rw [if_neg s0]
  by_cases s1 : s.st = 1
  · rw [if_pos s1]
    have b1 := hn1 s1
    obtain ⟨v, hv, hv2⟩ : ∃ v : Int, (if bars x.had s.e then 3 else if s.nx + 1 = 8 then 2 else 1) = v ∧ (v = 3 ∨ v = 2 ∨ (v = 1 ∧ s.nx + 1 < 8)) := ⟨_, rfl, by
      split
      · exact .inl rfl
      · split
        · exact .inr (.inl rfl)
        · exact .inr (.inr ⟨rfl, by omega⟩)⟩
    rw [hv]
    exact ⟨by dsimp only; omega, hh, hha, by dsimp only; omega, by dsimp only; omega, by dsimp only; omega, by dsimp only; omega, by dsimp only; omega, h1, h2, h3, h4, h5⟩
  rw [if_neg s1]
  by_cases s2 : s.st = 2
  · rw [if_pos s2]
    exact ⟨by dsimp only; omega, hh, hha, hn, by dsimp only; omega, by dsimp only; omega, by dsimp only; omega, by dsimp only; omega, h1, h2, h3, h4, h5⟩
  rw [if_neg s2]
  by_cases s3 : s.st = 3
  · rw [if_pos s3]
    exact ⟨by dsimp only; omega, hh, hha, by dsimp only; omega, by dsimp only; omega, by dsimp only; omega, by dsimp only; omega, by dsimp only; omega, h1, hx, h3, h4, h5⟩
  rw [if_neg s3]
  by_cases s4 : s.st = 4
  · rw [if_pos s4] at he ⊢
    by_cases d : due x.had s.f
    · rw [if_pos d]
      exact ⟨by dsimp only; omega, hh, hha, hn, by dsimp only; omega, by dsimp only; omega, by dsimp only; omega, fun _ => rfl, h1, h2, hx, hx, h5⟩
    · rw [if_neg d] at he ⊢
      have he' : s.nx + 1 < r := by simpa using he
      exact ⟨by dsimp only; omega, hh, hha, by dsimp only; omega, by dsimp only; omega, by dsimp only; omega, by dsimp only; omega, by dsimp only; omega, h1, h2, hx, h4, h5⟩
  rw [if_neg s4] at he ⊢
  rw [if_pos (show s.st = 5 by omega)] at he
  have he' : s.nx + 1 < r := by simpa using he
  have b4 := hn4 (by omega)
  refine ⟨by dsimp only; omega, hh, hha, by dsimp only; omega, by dsimp only; omega, by dsimp only; omega, by dsimp only; omega, by dsimp only; omega, h1, h2, h3, h4, ?_⟩
  dsimp only
  split
  · exact mput_bounds h5 ⟨hn.1, by omega⟩
  · exact h5

theorem wf_init {r : Int} (hr : 1 ≤ r) (h : Int) {j : Jb} (hj : (kEpoch r).fine j) : Wf r (einit h j) := by
  obtain ⟨hk, hw⟩ := fine_cases hj
  refine ⟨by dsimp only [einit]; omega, hw, ?_, by dsimp only [einit]; omega, fun _ => rfl, by dsimp only [einit]; omega, by dsimp only [einit]; omega, by dsimp only [einit]; omega, by dsimp only [einit]; omega, by dsimp only [einit]; omega, by dsimp only [einit]; omega, by dsimp only [einit]; omega, by dsimp only [einit]; omega⟩
  dsimp only [einit]
  split
  · assumption
  · omega

theorem ereq_put {r : Int} {s : EpS} (H : Wf r s) : 0 ≤ (ereq s).put ∧ (ereq s).put ≤ 18446744073709551615 := by
  unfold ereq
  repeat' split
  all_goals first | exact ⟨u64_lo _, u64_hi _⟩ | (simp only; omega)
end Epoch
end Go.Proofs.Ytdflicgjkleonaa
