/-
  Lemmas: WordL, PileC.
-/
import Derived.Test.YtbjlpmahomjgjaaRows
import Derived.WalkKit
import Derived.WalkSpells
import Derived.WalkLawsBesides
import Derived.Test.YtbjlpmahomjgjaaTp05
set_option linter.unusedVariables false
set_option linter.unusedSimpArgs false
set_option maxRecDepth 20000
namespace Go.Proofs.Ytbjlpmahomjgjaa
open Go.RowKit
theorem wrapU (n : Int) : IntKind.u64.wrap n = n % 18446744073709551616 := IntKind.wrap_u64 n

theorem and_low (x : Int) (h0 : 0 ≤ x) (h1 : x < 18446744073709551616) : bits .and .u64 x 4294967295 = x % 4294967296 := by
  rw [u64_and x 4294967295 h0 h1 (by omega) (by omega)]
  have e : x.toNat &&& (4294967295 : Int).toNat = x.toNat % 4294967296 := Nat.and_two_pow_sub_one_eq_mod x.toNat 32
  rw [e]; omega








theorem or_join (i : Nat) (a b : Int) (ha0 : 0 ≤ a) (ha1 : a.toNat < 2 ^ i) (ha2 : a < 18446744073709551616) (hb0 : 0 ≤ b) (hb1 : b.toNat % 2 ^ i = 0) (hb2 : b < 18446744073709551616) : bits .or .u64 a b = a + b := by
  rw [u64_or a b ha0 ha2 hb0 hb2, Nat.or_comm, nat_join i b.toNat a.toNat hb1 ha1]
  omega

theorem or32 (a b : Int) (ha0 : 0 ≤ a) (ha1 : a < 4294967296) (hb0 : 0 ≤ b) (hb1 : b % 4294967296 = 0) (hb2 : b < 18446744073709551616) : bits .or .u64 a b = a + b :=
  or_join 32 a b ha0 (by omega) (by omega) hb0 (by omega) hb2




/-- The word whose lower half is i and whose upper half is g, both modulo 2^32. -/
def hd (i g : Int) : Int := i % 4294967296 + g % 4294967296 * 4294967296

theorem hd_lo (i g : Int) : 0 ≤ hd i g := by unfold hd; omega
theorem hd_hi (i g : Int) : hd i g < 18446744073709551616 := by unfold hd; omega

theorem join_eq (i g : Int) : bits .or .u64 (bits .and .u64 (IntKind.u64.wrap i) 4294967295) (IntKind.u64.wrap (g * 4294967296)) = hd i g := by
  rw [wrapU, wrapU, and_low _ (by omega) (by omega), or32 _ _ (by omega) (by omega) (by omega) (by omega) (by omega)]
  unfold hd; omega

theorem ref_eq (i g : Int) : IntKind.u64.wrap ((IntKind.u64.wrap i).tmod 4294967296 + g % 4294967296 * 4294967296) = hd i g := by
  rw [wrapU, wrapU, Int.tmod_eq_emod_of_nonneg (by omega)]
  unfold hd; omega

theorem ret_int {k : IntKind} {a b : Int} (h : a = b) : Ending.returned (.int k a) = .returned (.int k b) := by rw [h]
theorem ret_bool {a b : Bool} (h : a = b) : Ending.returned (.bool a) = .returned (.bool b) := by rw [h]

set_option maxHeartbeats 400000 in
theorem join_any (i g : Int) (w : World) :
    Calls Try.prog 69 #[.int .i64 i, .int .u64 g] w fun e w' => e = .returned (.int .u64 (hd i g)) ∧ w' = w := by
  go_enter Try.func69, Try.ntmps69
  go_wp2
  go_ret
  exact ⟨ret_int (join_eq i g), rfl⟩

set_option maxHeartbeats 400000 in
theorem tagged_any (i g : Int) (w : World) :
    Calls Try.prog 45 #[.int .i64 i, .int .u64 g] w fun e w' => e = .returned (.int .u64 (hd i g)) ∧ w' = w := by
  go_enter Try.func45, Try.ntmps45
  go_wp2_with (go_at_call 69; refine (join_any _ _ _).mono ?_; rintro e w' ⟨rfl, rfl⟩)
  go_ret
  exact ⟨rfl, rfl⟩

set_option maxHeartbeats 400000 in
theorem wrap64_low (h : Int) (h0 : 0 ≤ h) (h1 : h < 18446744073709551616) : wrap64 (bits .and .u64 h 4294967295) = h % 4294967296 := by
  rw [and_low h h0 h1]; unfold wrap64; omega

set_option maxHeartbeats 400000 in
theorem index_any (h : Int) (h0 : 0 ≤ h) (h1 : h < 18446744073709551616) (w : World) :
    Calls Try.prog 70 #[.int .u64 h] w fun e w' => e = .returned (.int .i64 (h % 4294967296)) ∧ w' = w := by
  go_enter Try.func70, Try.ntmps70
  go_wp2
  go_ret
  exact ⟨ret_int (wrap64_low h h0 h1), rfl⟩

set_option maxHeartbeats 400000 in
theorem gen_any (h : Int) (h0 : 0 ≤ h) (h1 : h < 18446744073709551616) (w : World) :
    Calls Try.prog 169 #[.int .u64 h] w fun e w' => e = .returned (.int .u64 (h / 4294967296)) ∧ w' = w := by
  go_enter Try.func169, Try.ntmps169
  go_wp2
  go_ret
  exact ⟨rfl, rfl⟩

set_option maxHeartbeats 400000 in
theorem bump_any (t i : Int) (h0 : 0 ≤ t) (h1 : t < 18446744073709551616) (w : World) :
    Calls Try.prog 167 #[.int .u64 t, .int .i64 i] w fun e w' => e = .returned (.int .u64 (hd i (t / 4294967296 + 1))) ∧ w' = w := by
  go_enter Try.func167, Try.ntmps167
  go_wp2_with (first | (go_at_call 169; refine (gen_any _ h0 h1 _).mono ?_; rintro e w' ⟨rfl, rfl⟩) | (go_at_call 45; refine (tagged_any _ _ _).mono ?_; rintro e w' ⟨rfl, rfl⟩))
  go_ret
  exact ⟨rfl, rfl⟩

end Go.Proofs.Ytbjlpmahomjgjaa

namespace Go.Proofs.Ytbjlpmahomjgjaa
open Go.RowKit
namespace Pile

def carC (hand kind fr on st head place below value : Int) (t : Ans) : Nat → Value := fun i => match i with | 0 => .int .i64 hand | 1 => .int .i64 kind | 2 => .int .i64 fr | 3 => .int .i64 on | 4 => .int .i64 st | 5 => .int .u64 head | 6 => .int .i64 place | 7 => .int .i64 below | 8 => .int .u64 value | 9 => .bool t.ok | _ => .int .u64 t.val

def idx (x : Int) : Int := x % 4294967296
def bump (t i : Int) : Int := hd i (t / 4294967296 + 1)
theorem bump_lo (t i : Int) : 0 ≤ bump t i := hd_lo _ _
theorem bump_hi (t i : Int) : bump t i ≤ 18446744073709551615 := by have := hd_hi i (t / 4294967296 + 1); unfold bump; omega
theorem idx_lo (x : Int) : 0 ≤ idx x := by unfold idx; omega
theorem idx_hi (x : Int) : idx x < 4294967296 := by unfold idx; omega
def frm (k : Int) : Int := if k = 1 then 1 else 0
def ont (k : Int) : Int := if k = 1 then 0 else 1

structure PiS where
  hand : Int
  j : Jb
  st : Int
  head : Int
  place : Int
  low : Int
  val : Int
  told : Ans

def perr (j : Jb) : Int := if j.kind = 1 then 0 else if j.kind = 2 then 0 else 200
def preq (s : PiS) : Stp :=
  if s.st = 0 then ⟨s.hand, 1, frm s.j.kind, 0, 0, true⟩ else if s.st = 1 then ⟨s.hand, 1, 2 * s.place, 0, 0, true⟩ else if s.st = 2 then ⟨s.hand, 5, frm s.j.kind, s.head, bump s.head (idx s.low), true⟩
  else if s.st = 3 then (if s.j.kind = 1 then ⟨s.hand, 2, 2 * s.place + 1, 0, s.j.h, true⟩ else ⟨s.hand, 1, 2 * s.place + 1, 0, 0, true⟩) else if s.st = 4 then ⟨s.hand, 1, ont s.j.kind, 0, 0, true⟩
  else if s.st = 5 then ⟨s.hand, 2, 2 * s.place, 0, idx s.head, true⟩ else ⟨s.hand, 5, ont s.j.kind, s.head, bump s.head s.place, true⟩
def pends (s : PiS) (x : Stp) : Bool := if s.st = 0 then idx x.had == 0 else if s.st = 1 then false else if s.st = 2 then false else if s.st = 3 then false else if s.st = 4 then false else if s.st = 5 then false else x.ok
def pnext (s : PiS) (x : Stp) : PiS :=
  if s.st = 0 then { s with head := x.had, place := idx x.had, st := if idx x.had = 0 then 0 else 1 } else if s.st = 1 then { s with low := x.had, st := 2 } else if s.st = 2 then { s with st := if x.ok = true then 3 else 0 }
  else if s.st = 3 then (if s.j.kind = 1 then { s with st := 4 } else { s with val := x.had, st := 4 }) else if s.st = 4 then { s with head := x.had, st := 5 } else if s.st = 5 then { s with st := 6 }
  else if x.ok = true then { s with told := ⟨true, if s.j.kind = 1 then s.place else s.val⟩ } else { s with st := 4 }
def pcell (s : PiS) : Nat → Value := carC s.hand s.j.kind (frm s.j.kind) (ont s.j.kind) s.st s.head s.place (idx s.low) (if s.j.kind = 1 then s.j.h else s.val) s.told

/-- What stands in a task under way. -/
structure Wf (s : PiS) : Prop where
  st0 : 0 ≤ s.st
  st6 : s.st ≤ 6
  kind : s.j.kind = 1 ∨ s.j.kind = 2
  h : s.j.wf
  head : 0 ≤ s.head ∧ s.head ≤ 18446744073709551615
  place : 0 ≤ s.place ∧ s.place < 4294967296
  low : 0 ≤ s.low ∧ s.low ≤ 18446744073709551615
  val : 0 ≤ s.val ∧ s.val ≤ 18446744073709551615

def kPile : Kd where
  σ := PiS
  err _ := perr
  init h j := ⟨h, j, 0, 0, 0, 0, 0, ⟨false, 0⟩⟩
  req := preq
  next := pnext
  ends := pends
  tell s := s.told
  tid _ := 128
  t _ := 130
  n _ := 11
  fs _ := 159
  fa _ := 158
  cell := pcell
  wf j s := s.j = j ∧ Wf s

theorem had_bounds {n : Nat} {f : Nat → Int} (hf : ∀ i, i < n → 0 ≤ f i ∧ f i ≤ 18446744073709551615) (q : Stp) : 0 ≤ (stepOf n f q).had ∧ (stepOf n f q).had ≤ 18446744073709551615 := by
  unfold stepOf
  split
  · rename_i h
    exact hf _ (by omega)
  · exact ⟨Int.le_refl 0, by show (0 : Int) ≤ 18446744073709551615; decide⟩

theorem fine_cases {j : Jb} (h : kPile.fine j) : (j.kind = 1 ∨ j.kind = 2) ∧ j.wf := by
  have h2 : perr j = 0 := h.2.choose_spec
  refine ⟨?_, h.1⟩
  unfold perr at h2
  split at h2
  · exact .inl (by assumption)
  · split at h2
    · exact .inr (by assumption)
    · cases h2

theorem pnext_j (s : PiS) (x : Stp) : (pnext s x).j = s.j := by
  unfold pnext
  repeat' split
  all_goals rfl

theorem pnext_wf {s : PiS} {x : Stp} (H : Wf s) (hx : 0 ≤ x.had ∧ x.had ≤ 18446744073709551615) : Wf (pnext s x) := by
  obtain ⟨h0, h6, hk, hh, hd, hp, hl, hv⟩ := H
  have i0 := idx_lo x.had
  have i1 := idx_hi x.had
  unfold pnext
  repeat' split
  all_goals (constructor <;> first | assumption | exact ⟨i0, i1⟩ | (simp only; first | omega | (split <;> omega)))

theorem wf_init (h : Int) {j : Jb} (hj : kPile.fine j) : Wf ⟨h, j, 0, 0, 0, 0, 0, ⟨false, 0⟩⟩ := by
  obtain ⟨hk, hw⟩ := fine_cases hj
  constructor <;> first | exact hk | exact hw | (simp only; omega)
end Pile
end Go.Proofs.Ytbjlpmahomjgjaa
