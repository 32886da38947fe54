/-
  Lemmas: BeltC, BeltN, BeltO.
-/
import Derived.Test.YtchhkoalibapiaaTp05
import Derived.Test.YtchhkoalibapiaaTp07
/-
  The tasks of a belt: how a job under way lies in memory, and what it is as a plain state.
-/
namespace Go.Proofs.Ytchhkoalibapiaa
open Go.RowKit
set_option linter.unusedVariables false
set_option linter.unusedSimpArgs false
set_option maxRecDepth 20000
namespace Belt

def pasC (hand room kind count st num value : Int) (t : Ans) : Nat → Value := fun i => match i with | 0 => .int .i64 hand | 1 => .int .i64 room | 2 => .int .i64 kind | 3 => .int .i64 count | 4 => .int .i64 st | 5 => .int .u64 num | 6 => .int .u64 value | 7 => .bool t.ok | _ => .int .u64 t.val

def u64 (x : Int) : Int := x % 18446744073709551616
theorem u64_lo (x : Int) : 0 ≤ u64 x := by unfold u64; omega
theorem u64_hi (x : Int) : u64 x ≤ 18446744073709551615 := by unfold u64; omega
def cnt (k : Int) : Int := if k = 1 then 0 else 1
def mrk (r p : Int) : Int := 2 + p % r
def fre (p : Int) : Int := u64 (2 * p)
def giv (p : Int) : Int := u64 (u64 (2 * p) + 1)
def rdy (k p : Int) : Int := if k = 1 then fre p else giv p
def dne (k r p : Int) : Int := if k = 1 then giv p else fre (u64 (p + r))
/-- How far x is ahead of y, as a signed number. -/
def ahd (x y : Int) : Int := wrap64 (u64 (x - y))
theorem rdy_bounds (k p : Int) : 0 ≤ rdy k p ∧ rdy k p ≤ 18446744073709551615 := by
  unfold rdy fre giv
  split
  · exact ⟨u64_lo _, u64_hi _⟩
  · exact ⟨u64_lo _, u64_hi _⟩
theorem dne_bounds (k r p : Int) : 0 ≤ dne k r p ∧ dne k r p ≤ 18446744073709551615 := by
  unfold dne fre giv
  split
  · exact ⟨u64_lo _, u64_hi _⟩
  · exact ⟨u64_lo _, u64_hi _⟩
theorem mrk_bounds {r : Int} (p : Int) (h1 : 1 ≤ r) (h2 : r ≤ 64) : 2 ≤ mrk r p ∧ mrk r p < 66 := by
  have a := Int.emod_nonneg p (show r ≠ 0 by omega)
  have b := Int.emod_lt_of_pos p (show 0 < r by omega)
  unfold mrk
  omega

structure BeS where
  hand : Int
  j : Jb
  st : Int
  num : Int
  val : Int
  told : Ans

def berr (j : Jb) : Int := if j.kind = 1 then 0 else if j.kind = 2 then 0 else 200
def breq (r : Int) (s : BeS) : Stp :=
  if s.st = 0 then ⟨s.hand, 1, cnt s.j.kind, 0, 0, true⟩ else if s.st = 1 then ⟨s.hand, 1, mrk r s.num, 0, 0, true⟩ else if s.st = 2 then ⟨s.hand, 5, cnt s.j.kind, s.num, u64 (s.num + 1), true⟩
  else if s.st = 3 then (if s.j.kind = 1 then ⟨s.hand, 2, mrk r s.num + r, 0, s.j.h, true⟩ else ⟨s.hand, 1, mrk r s.num + r, 0, 0, true⟩)
  else ⟨s.hand, 2, mrk r s.num, 0, dne s.j.kind r s.num, true⟩
def bends (s : BeS) (x : Stp) : Bool := if s.st = 0 then false else if s.st = 1 then decide (ahd x.had (rdy s.j.kind s.num) < 0) else if s.st = 2 then false else if s.st = 3 then false else true
def bnext (s : BeS) (x : Stp) : BeS :=
  if s.st = 0 then { s with num := x.had, st := 1 }
  else if s.st = 1 then { s with st := if ahd x.had (rdy s.j.kind s.num) < 0 then 1 else if 0 < ahd x.had (rdy s.j.kind s.num) then 0 else 2 }
  else if s.st = 2 then { s with st := if x.ok = true then 3 else 0 }
  else if s.st = 3 then (if s.j.kind = 1 then { s with st := 4 } else { s with val := x.had, st := 4 })
  else { s with told := ⟨true, if s.j.kind = 1 then s.num else s.val⟩ }
def bcell (r : Int) (s : BeS) : Nat → Value := pasC s.hand r s.j.kind (cnt s.j.kind) s.st s.num (if s.j.kind = 1 then s.j.h else s.val) s.told

/-- What stands in a task under way. -/
structure Wf (s : BeS) : Prop where
  st0 : 0 ≤ s.st
  st4 : s.st ≤ 4
  kind : s.j.kind = 1 ∨ s.j.kind = 2
  h : s.j.wf
  num : 0 ≤ s.num ∧ s.num ≤ 18446744073709551615
  val : 0 ≤ s.val ∧ s.val ≤ 18446744073709551615

def kBelt (r : Int) : Kd where
  σ := BeS
  err _ := berr
  init h j := ⟨h, j, 0, 0, 0, ⟨false, 0⟩⟩
  req := breq r
  next := bnext
  ends := bends
  tell s := s.told
  tid _ := 102
  t _ := 104
  n _ := 9
  fs _ := 78
  fa _ := 77
  cell := fun _ => bcell r
  wf j s := s.j = j ∧ Wf s

theorem had_bounds {n : Nat} {f : Nat → Int} (hf : ∀ i, i < n → 0 ≤ f i ∧ f i ≤ 18446744073709551615) (q : Stp) : 0 ≤ (stepOf n f q).had ∧ (stepOf n f q).had ≤ 18446744073709551615 := by
  unfold stepOf
  split
  · rename_i h
    exact hf _ (by omega)
  · exact ⟨Int.le_refl 0, by show (0 : Int) ≤ 18446744073709551615; decide⟩

theorem fine_cases {r : Int} {j : Jb} (h : (kBelt r).fine j) : (j.kind = 1 ∨ j.kind = 2) ∧ j.wf := by
  have h2 : berr j = 0 := h.2.choose_spec
  refine ⟨?_, h.1⟩
  unfold berr at h2
  split at h2
  · exact .inl (by assumption)
  · split at h2
    · exact .inr (by assumption)
    · cases h2

theorem bnext_j (s : BeS) (x : Stp) : (bnext s x).j = s.j := by
  unfold bnext
  repeat' split
  all_goals rfl

theorem bnext_wf {s : BeS} {x : Stp} (H : Wf s) (hx : 0 ≤ x.had ∧ x.had ≤ 18446744073709551615) : Wf (bnext s x) := by
  obtain ⟨h0, h4, hk, hh, hn, hv⟩ := H
  unfold bnext
  repeat' split
  all_goals (constructor <;> first | assumption | (simp only; first | omega | (split <;> omega)))

theorem wf_init (r h : Int) {j : Jb} (hj : (kBelt r).fine j) : Wf ⟨h, j, 0, 0, 0, ⟨false, 0⟩⟩ := by
  obtain ⟨hk, hw⟩ := fine_cases hj
  constructor <;> first | exact hk | exact hw | (simp only; omega)
end Belt
end Go.Proofs.Ytchhkoalibapiaa

/-
  BeltOrder, without a program: what stands behind every step of a run from fresh words: who has which turn, and what stands at its place.
-/
namespace Go.Proofs.Ytchhkoalibapiaa
open Go.RowKit
set_option linter.unusedVariables false
set_option linter.unusedSimpArgs false
set_option maxRecDepth 20000
namespace Belt

theorem ld_step {n : Nat} {f : Nat → Int} {a : Nat} (h : Int) (ha : a < n) : stepOf n f ⟨h, 1, (a : Int), 0, 0, true⟩ = ⟨h, 1, a, f a, f a, true⟩ := by
  have : (0 : Int) ≤ a ∧ (a : Int) < n := by omega
  simp [stepOf, this, actOf, putBy]
theorem ld_words {n : Nat} {f : Nat → Int} {a : Nat} (h : Int) (ha : a < n) : wordsOf n f ⟨h, 1, (a : Int), 0, 0, true⟩ = f := by
  unfold wordsOf
  have : (0 : Int) ≤ a ∧ (a : Int) < n := by omega
  rw [if_pos this, ld_step h ha]
  funext j
  show (if j = (a : Int).toNat then f a else f j) = f j
  split
  · rename_i e; rw [e]; simp
  · rfl
theorem st_step {n : Nat} {f : Nat → Int} {a : Nat} (h v : Int) (ha : a < n) : stepOf n f ⟨h, 2, (a : Int), 0, v, true⟩ = ⟨h, 2, a, f a, v, true⟩ := by
  have : (0 : Int) ≤ a ∧ (a : Int) < n := by omega
  simp [stepOf, this, actOf, putBy]
theorem st_words {n : Nat} {f : Nat → Int} {a : Nat} (h v : Int) (ha : a < n) : wordsOf n f ⟨h, 2, (a : Int), 0, v, true⟩ = putF f a v := by
  unfold wordsOf
  have : (0 : Int) ≤ a ∧ (a : Int) < n := by omega
  rw [if_pos this, st_step h v ha]
  simp
theorem cas_yes {n : Nat} {f : Nat → Int} {a : Nat} (h o v : Int) (ha : a < n) (e : f a = o) : stepOf n f ⟨h, 5, (a : Int), o, v, true⟩ = ⟨h, 5, a, f a, v, true⟩ ∧ wordsOf n f ⟨h, 5, (a : Int), o, v, true⟩ = putF f a v := by
  have t : (0 : Int) ≤ a ∧ (a : Int) < n := by omega
  have x : stepOf n f ⟨h, 5, (a : Int), o, v, true⟩ = ⟨h, 5, a, f a, v, true⟩ := by simp [stepOf, t, actOf, putBy, e]
  refine ⟨x, ?_⟩
  unfold wordsOf
  rw [if_pos t, x]
  simp
theorem cas_no {n : Nat} {f : Nat → Int} {a : Nat} (h o v : Int) (ha : a < n) (e : ¬ f a = o) : stepOf n f ⟨h, 5, (a : Int), o, v, true⟩ = ⟨h, 5, a, f a, f a, false⟩ ∧ wordsOf n f ⟨h, 5, (a : Int), o, v, true⟩ = f := by
  have t : (0 : Int) ≤ a ∧ (a : Int) < n := by omega
  have x : stepOf n f ⟨h, 5, (a : Int), o, v, true⟩ = ⟨h, 5, a, f a, f a, false⟩ := by simp [stepOf, t, actOf, putBy, e]
  refine ⟨x, ?_⟩
  unfold wordsOf
  rw [if_pos t, x]
  funext j
  show (if j = (a : Int).toNat then f a else f j) = f j
  split
  · rename_i e; rw [e]; simp
  · rfl
theorem putF_other {f : Nat → Int} {a j : Nat} {v : Int} (h : j ≠ a) : putF f a v j = f j := if_neg h
theorem putF_same {f : Nat → Int} {a : Nat} {v : Int} : putF f a v a = v := if_pos rfl

/-- A turn's mark and value. -/
def mkp (r p : Nat) : Nat := 2 + p % r
def vl (r p : Nat) : Nat := 2 + r + p % r
section
variable {r p q : Nat}
theorem mk_lo (hr : 1 ≤ r) (p : Nat) : 2 ≤ mkp r p ∧ mkp r p < 2 + r := by have := Nat.mod_lt p (show 0 < r by omega); unfold mkp; omega
theorem vl_lo (hr : 1 ≤ r) (p : Nat) : 2 + r ≤ vl r p ∧ vl r p < 2 + 2 * r := by have := Nat.mod_lt p (show 0 < r by omega); unfold vl; omega
theorem md_ne (h1 : p < q) (h2 : q < p + r) : p % r ≠ q % r := by
  intro e
  have a : (q - p) % r = 0 := Nat.sub_mod_eq_zero_of_mod_eq e.symm
  rw [Nat.mod_eq_of_lt (by omega)] at a
  omega
theorem mk_ne (h : (p < q ∧ q < p + r) ∨ (q < p ∧ p < q + r)) : mkp r p ≠ mkp r q := by
  unfold mkp
  rcases h with ⟨a, b⟩ | ⟨a, b⟩
  · have := md_ne a b; omega
  · have := md_ne a b; omega
theorem vl_ne (h : (p < q ∧ q < p + r) ∨ (q < p ∧ p < q + r)) : vl r p ≠ vl r q := by
  unfold vl
  rcases h with ⟨a, b⟩ | ⟨a, b⟩
  · have := md_ne a b; omega
  · have := md_ne a b; omega
theorem mk_add (r p : Nat) : mkp r (p + r) = mkp r p := by unfold mkp; rw [Nat.add_mod_right]
theorem mk_sub (h : r ≤ p) : mkp r (p - r) = mkp r p := by rw [← mk_add r (p - r), Nat.sub_add_cancel h]
theorem mrk_mk (r p : Nat) : mrk (r : Int) (p : Int) = (mkp r p : Int) := by unfold mrk mkp; rw [← Int.natCast_emod]; omega
theorem mrk_vl (r p : Nat) : mrk (r : Int) (p : Int) + r = (vl r p : Int) := by unfold mrk vl; rw [← Int.natCast_emod]; omega
theorem fre_sm (h : p ≤ 200000) : fre (p : Int) = 2 * p := by unfold fre u64; omega
theorem giv_sm (h : p ≤ 200000) : giv (p : Int) = 2 * p + 1 := by unfold giv u64; omega
theorem ahd_z {x y : Int} (hx : 0 ≤ x ∧ x ≤ 18446744073709551615) (hy : 0 ≤ y ∧ y ≤ 18446744073709551615) (h1 : ¬ ahd x y < 0) (h2 : ¬ 0 < ahd x y) : x = y := by unfold ahd u64 wrap64 at h1 h2; omega
end

def no : Ans := ⟨false, 0⟩
/-- What was given at a turn, by who has it. -/
def gvo (P : Par) (ow : Nat → Nat × Nat) (p : Nat) : Int := (P.jb (ow p).1 (ow p).2).h

def Gv (r : Nat) (f : Nat → Int) (ow : Nat → Nat × Nat) (T H h n : Nat) (s : BeS) : Prop :=
  s.st = 0 ∨ (s.st = 1 ∧ ∃ p : Nat, s.num = p ∧ p ≤ T) ∨ (s.st = 2 ∧ ∃ p : Nat, s.num = p ∧ p ≤ T ∧ (p = T → T < H + r ∧ f (mkp r T) = 2 * T)) ∨
  ((s.st = 3 ∨ s.st = 4) ∧ ∃ p : Nat, s.num = p ∧ H ≤ p ∧ p < T ∧ ow p = (h, n) ∧ f (mkp r p) = 2 * p ∧ (s.st = 4 → f (vl r p) = s.j.h))
def Fe (r : Nat) (f : Nat → Int) (fw : Nat → Nat × Nat) (g : Nat → Int) (T H h n : Nat) (s : BeS) : Prop :=
  s.st = 0 ∨ (s.st = 1 ∧ ∃ p : Nat, s.num = p ∧ p ≤ H) ∨ (s.st = 2 ∧ ∃ p : Nat, s.num = p ∧ p ≤ H ∧ (p = H → H < T ∧ f (mkp r H) = 2 * H + 1)) ∨
  ((s.st = 3 ∨ s.st = 4) ∧ ∃ p : Nat, s.num = p ∧ p < H ∧ T ≤ p + r ∧ fw p = (h, n) ∧ f (mkp r p) = 2 * p + 1 ∧ f (vl r p) = g p ∧ (s.st = 4 → s.val = g p))
/-- A hand's task under way. -/
def Cu (r : Nat) (P : Par) (f : Nat → Int) (ow fw : Nat → Nat × Nat) (T H h n : Nat) (s : BeS) : Prop :=
  s.hand = (h : Int) ∧ s.j = P.jb h n ∧ s.told = no ∧ ((s.j.kind = 1 ∧ Gv r f ow T H h n s) ∨ (s.j.kind = 2 ∧ Fe r f fw (gvo P ow) T H h n s))

structure Bv (r : Nat) (P : Par) (f : Nat → Int) (done : Nat → Nat) (ans : Nat → Nat → Ans) (cur : Nat → BeS) (ow fw : Nat → Nat × Nat) (T H k : Nat) : Prop where
  t : f 0 = T
  h : f 1 = H
  b : H ≤ T ∧ T ≤ H + r ∧ T ≤ k
  g1 : ∀ p, p < T → (ow p).1 < P.nh ∧ (ow p).2 < P.jn (ow p).1 ∧ (P.jb (ow p).1 (ow p).2).kind = 1 ∧ (ow p).2 ≤ done (ow p).1 ∧ ((ow p).2 < done (ow p).1 → ans (ow p).1 (ow p).2 = ⟨true, p⟩) ∧ ((ow p).2 = done (ow p).1 → 3 ≤ (cur (ow p).1).st)
  g2 : ∀ h n, h < P.nh → n < done h → (P.jb h n).kind = 1 → ans h n = no ∨ ∃ p, p < T ∧ ow p = (h, n) ∧ ans h n = ⟨true, p⟩
  g4 : ∀ p q, p < q → q < T → (ow p).1 = (ow q).1 → (ow p).2 < (ow q).2
  f1 : ∀ p, p < H → (fw p).1 < P.nh ∧ (fw p).2 < P.jn (fw p).1 ∧ (P.jb (fw p).1 (fw p).2).kind = 2 ∧ (fw p).2 ≤ done (fw p).1 ∧ ((fw p).2 < done (fw p).1 → ans (fw p).1 (fw p).2 = ⟨true, gvo P ow p⟩) ∧ ((fw p).2 = done (fw p).1 → 3 ≤ (cur (fw p).1).st)
  f2 : ∀ h n, h < P.nh → n < done h → (P.jb h n).kind = 2 → ans h n = no ∨ ∃ p, p < H ∧ fw p = (h, n) ∧ ans h n = ⟨true, gvo P ow p⟩
  f4 : ∀ p q, p < q → q < H → (fw p).1 = (fw q).1 → (fw p).2 < (fw q).2
  m1 : ∀ p, H ≤ p → p < T → (f (mkp r p) = 2 * p + 1 ∧ f (vl r p) = gvo P ow p) ∨ (f (mkp r p) = 2 * p ∧ (ow p).2 = done (ow p).1)
  m2 : ∀ p, T ≤ p → p < H + r → f (mkp r p) = 2 * p ∨ (r ≤ p ∧ f (mkp r p) = 2 * ((p - r : Nat) : Int) + 1 ∧ (fw (p - r)).2 = done (fw (p - r)).1)
  hd : ∀ h, h < P.nh → done h < P.jn h → Cu r P f ow fw T H h (done h) (cur h)

section
variable {r : Nat} {P : Par} {f f' : Nat → Int} {done : Nat → Nat} {ans : Nat → Nat → Ans} {cur : Nat → BeS} {ow ow' fw fw' : Nat → Nat × Nat} {T T' H H' k h n : Nat} {s s' : BeS}

theorem Cu.keep (hT : T ≤ T') (hH : H ≤ H')
    (c1 : T' = T → T < H + r → f (mkp r T) = 2 * T → T < H' + r ∧ f' (mkp r T) = 2 * T)
    (c2 : H' = H → H < T → f (mkp r H) = 2 * H + 1 → H < T' ∧ f' (mkp r H) = 2 * H + 1)
    (c3 : ∀ p, H ≤ p → p < T → ow p = (h, n) → f (mkp r p) = 2 * p → H' ≤ p ∧ ow' p = (h, n) ∧ f' (mkp r p) = 2 * p ∧ f' (vl r p) = f (vl r p))
    (c4 : ∀ p, p < H → T ≤ p + r → fw p = (h, n) → f (mkp r p) = 2 * p + 1 → f (vl r p) = gvo P ow p → T' ≤ p + r ∧ fw' p = (h, n) ∧ f' (mkp r p) = 2 * p + 1 ∧ f' (vl r p) = gvo P ow p ∧ gvo P ow' p = gvo P ow p)
    (C : Cu r P f ow fw T H h n s) : Cu r P f' ow' fw' T' H' h n s := by
  obtain ⟨a, b, c, d⟩ := C
  refine ⟨a, b, c, ?_⟩
  rcases d with ⟨k1, d⟩ | ⟨k2, d⟩
  · refine .inl ⟨k1, ?_⟩
    rcases d with d | ⟨d, p, e, l⟩ | ⟨d, p, e, l, m⟩ | ⟨d, p, e, l, m, o, q, v⟩
    · exact .inl d
    · exact .inr (.inl ⟨d, p, e, by omega⟩)
    · refine .inr (.inr (.inl ⟨d, p, e, by omega, fun t => ?_⟩))
      obtain rfl : T' = T := by omega
      obtain ⟨x, y⟩ := m t
      exact c1 rfl x y
    · obtain ⟨x, y, z, u⟩ := c3 p l m o q
      exact .inr (.inr (.inr ⟨d, p, e, x, by omega, y, z, fun t => u.trans (v t)⟩))
  · refine .inr ⟨k2, ?_⟩
    rcases d with d | ⟨d, p, e, l⟩ | ⟨d, p, e, l, m⟩ | ⟨d, p, e, l, m, o, q, v, t⟩
    · exact .inl d
    · exact .inr (.inl ⟨d, p, e, by omega⟩)
    · refine .inr (.inr (.inl ⟨d, p, e, by omega, fun t => ?_⟩))
      obtain rfl : H' = H := by omega
      obtain ⟨x, y⟩ := m t
      exact c2 rfl x y
    · obtain ⟨x, y, z, u, g⟩ := c4 p l m o q v
      exact .inr (.inr (.inr ⟨d, p, e, by omega, x, y, z, by rw [g]; exact u, fun st => by rw [g]; exact t st⟩))
theorem Cu.init (hk : (P.jb h n).kind = 1 ∨ (P.jb h n).kind = 2) : Cu r P f ow fw T H h n ⟨h, P.jb h n, 0, 0, 0, ⟨false, 0⟩⟩ :=
  ⟨rfl, rfl, rfl, hk.elim (fun e => .inl ⟨e, .inl rfl⟩) (fun e => .inr ⟨e, .inl rfl⟩)⟩

theorem inj4 {N : Nat} (g4 : ∀ p q, p < q → q < N → (ow p).1 = (ow q).1 → (ow p).2 < (ow q).2) {p q : Nat} (hp : p < N) (hq : q < N) (e : ow p = ow q) : p = q := by
  rcases Nat.lt_trichotomy p q with l | l | l
  · have := g4 p q l hq (by rw [e]); rw [e] at this; omega
  · exact l
  · have := g4 q p l hp (by rw [e]); rw [e] at this; omega

/-- A step behind which the task goes on, and the counts are as they were. -/
theorem Bv.goS (B : Bv r P f done ans cur ow fw T H k) (hh : h < P.nh) (e0 : f' 0 = f 0) (e1 : f' 1 = f 1) (hs : 3 ≤ (cur h).st → 3 ≤ s'.st)
    (m1 : ∀ p, H ≤ p → p < T → (f' (mkp r p) = 2 * p + 1 ∧ f' (vl r p) = gvo P ow p) ∨ (f' (mkp r p) = 2 * p ∧ (ow p).2 = done (ow p).1))
    (m2 : ∀ p, T ≤ p → p < H + r → f' (mkp r p) = 2 * p ∨ (r ≤ p ∧ f' (mkp r p) = 2 * ((p - r : Nat) : Int) + 1 ∧ (fw (p - r)).2 = done (fw (p - r)).1))
    (hc : Cu r P f' ow fw T H h (done h) s') (ho : ∀ i, i ≠ h → i < P.nh → done i < P.jn i → Cu r P f' ow fw T H i (done i) (cur i)) : Bv r P f' done ans (upd cur h s') ow fw T H (k + 1) := by
  have cs : ∀ i, 3 ≤ (cur i).st → 3 ≤ (upd cur h s' i).st := fun i hi => by
    by_cases e : i = h
    · subst e; rw [upd_same]; exact hs hi
    · rw [upd_other _ _ e]; exact hi
  refine ⟨e0.trans B.t, e1.trans B.h, by have := B.b; omega, fun p hp => ?_, B.g2, B.g4, fun p hp => ?_, B.f2, B.f4, m1, m2, fun i hi hd => ?_⟩
  · obtain ⟨a, b, c, d, e, g⟩ := B.g1 p hp
    exact ⟨a, b, c, d, e, fun q => cs _ (g q)⟩
  · obtain ⟨a, b, c, d, e, g⟩ := B.f1 p hp
    exact ⟨a, b, c, d, e, fun q => cs _ (g q)⟩
  · by_cases e : i = h
    · subst e; rw [upd_same]; exact hc
    · rw [upd_other _ _ e]; exact ho i e hi hd

/-- A step that ends the task. -/
theorem Bv.endS (B : Bv r P f done ans cur ow fw T H k) (hok : ∀ h, h < P.nh → ∀ j, j < P.jn h → (P.jb h j).kind = 1 ∨ (P.jb h j).kind = 2) (hh : h < P.nh) (hd : done h < P.jn h) (e0 : f' 0 = f 0) (e1 : f' 1 = f 1) {a : Ans}
    (ha : (a = no ∧ (cur h).st < 3) ∨ ((P.jb h (done h)).kind = 1 ∧ ∃ p, p < T ∧ ow p = (h, done h) ∧ a = ⟨true, p⟩) ∨ ((P.jb h (done h)).kind = 2 ∧ ∃ p, p < H ∧ fw p = (h, done h) ∧ a = ⟨true, gvo P ow p⟩))
    (m1 : ∀ p, H ≤ p → p < T → (f' (mkp r p) = 2 * p + 1 ∧ f' (vl r p) = gvo P ow p) ∨ (f' (mkp r p) = 2 * p ∧ (ow p).2 = done (ow p).1 ∧ (ow p).1 ≠ h))
    (m2 : ∀ p, T ≤ p → p < H + r → f' (mkp r p) = 2 * p ∨ (r ≤ p ∧ f' (mkp r p) = 2 * ((p - r : Nat) : Int) + 1 ∧ (fw (p - r)).2 = done (fw (p - r)).1 ∧ (fw (p - r)).1 ≠ h))
    (ho : ∀ i, i ≠ h → i < P.nh → done i < P.jn i → Cu r P f' ow fw T H i (done i) (cur i)) :
    Bv r P f' (upd done h (done h + 1)) (upd ans h (upd (ans h) (done h) a)) (upd cur h ⟨h, P.jb h (done h + 1), 0, 0, 0, ⟨false, 0⟩⟩) ow fw T H (k + 1) := by
  have dn : ∀ i, i ≠ h → upd done h (done h + 1) i = done i := fun i e => upd_other _ _ e
  have an : ∀ i n, ¬ (i = h ∧ n = done h) → upd ans h (upd (ans h) (done h) a) i n = ans i n := fun i n e => by
    by_cases q : i = h
    · subst q; rw [upd_same, upd_other _ _ (fun t => e ⟨rfl, t⟩)]
    · rw [upd_other _ _ q]
  have asm : upd ans h (upd (ans h) (done h) a) h (done h) = a := by rw [upd_same, upd_same]
  refine ⟨e0.trans B.t, e1.trans B.h, by have := B.b; omega, fun p hp => ?_, fun i n hi hn hk => ?_, B.g4, fun p hp => ?_, fun i n hi hn hk => ?_, B.f4, fun p h1 h2 => ?_, fun p h1 h2 => ?_, fun i hi hd' => ?_⟩
  · obtain ⟨x, y, z, u, v, g⟩ := B.g1 p hp
    by_cases e : (ow p).1 = h
    · refine ⟨x, y, z, by rw [e, upd_same]; rw [e] at u; omega, fun l => ?_, fun l => by rw [e, upd_same] at l; rw [e] at u; omega⟩
      by_cases q : (ow p).2 = done h
      · have owp : ow p = (h, done h) := Prod.ext e q
        rw [e, q, asm]
        rcases ha with ⟨_, l3⟩ | ⟨_, p', hp', e', rfl⟩ | ⟨k2, _⟩
        · have := g (by rw [e]; exact q); rw [e] at this; omega
        · rw [inj4 B.g4 hp hp' (owp.trans e'.symm)]
        · rw [owp] at z; simp only at z; omega
      · rw [an _ _ (fun t => q t.2)]
        exact v (by rw [e] at u ⊢; omega)
    · rw [dn _ e, an _ _ (fun t => e t.1), upd_other _ _ e]
      exact ⟨x, y, z, u, v, g⟩
  · by_cases e : i = h ∧ n = done h
    · obtain ⟨rfl, rfl⟩ := e
      rw [asm]
      rcases ha with ⟨rfl, _⟩ | ⟨_, p', hp', e', rfl⟩ | ⟨k2, _⟩
      · exact .inl rfl
      · exact .inr ⟨p', hp', e', rfl⟩
      · omega
    · rw [an _ _ e]
      refine B.g2 i n hi ?_ hk
      by_cases q : i = h
      · subst q; rw [upd_same] at hn; have : n ≠ done i := fun t => e ⟨rfl, t⟩; omega
      · rw [dn _ q] at hn; exact hn
  · obtain ⟨x, y, z, u, v, g⟩ := B.f1 p hp
    by_cases e : (fw p).1 = h
    · refine ⟨x, y, z, by rw [e, upd_same]; rw [e] at u; omega, fun l => ?_, fun l => by rw [e, upd_same] at l; rw [e] at u; omega⟩
      by_cases q : (fw p).2 = done h
      · have owp : fw p = (h, done h) := Prod.ext e q
        rw [e, q, asm]
        rcases ha with ⟨_, l3⟩ | ⟨k2, _⟩ | ⟨_, p', hp', e', rfl⟩
        · have := g (by rw [e]; exact q); rw [e] at this; omega
        · rw [owp] at z; simp only at z; omega
        · rw [inj4 B.f4 hp hp' (owp.trans e'.symm)]
      · rw [an _ _ (fun t => q t.2)]
        exact v (by rw [e] at u ⊢; omega)
    · rw [dn _ e, an _ _ (fun t => e t.1), upd_other _ _ e]
      exact ⟨x, y, z, u, v, g⟩
  · by_cases e : i = h ∧ n = done h
    · obtain ⟨rfl, rfl⟩ := e
      rw [asm]
      rcases ha with ⟨rfl, _⟩ | ⟨k2, _⟩ | ⟨_, p', hp', e', rfl⟩
      · exact .inl rfl
      · omega
      · exact .inr ⟨p', hp', e', rfl⟩
    · rw [an _ _ e]
      refine B.f2 i n hi ?_ hk
      by_cases q : i = h
      · subst q; rw [upd_same] at hn; have : n ≠ done i := fun t => e ⟨rfl, t⟩; omega
      · rw [dn _ q] at hn; exact hn
  · rcases m1 p h1 h2 with x | ⟨x, y, z⟩
    · exact .inl x
    · exact .inr ⟨x, by rw [dn _ z]; exact y⟩
  · rcases m2 p h1 h2 with x | ⟨u, x, y, z⟩
    · exact .inl x
    · exact .inr ⟨u, x, by rw [dn _ z]; exact y⟩
  · by_cases e : i = h
    · subst e
      rw [upd_same] at hd' ⊢
      rw [upd_same]
      exact Cu.init (hok i hi _ hd')
    · rw [dn _ e, upd_other _ _ e]
      rw [dn _ e] at hd'
      exact ho i e hi hd'
end
end Belt
end Go.Proofs.Ytchhkoalibapiaa

/-
  BeltOrder, without a program: a step of a run keeps what stands, and what it is to the law.
-/
namespace Go.Proofs.Ytchhkoalibapiaa
open Go.RowKit
set_option linter.unusedVariables false
set_option linter.unusedSimpArgs false
set_option maxRecDepth 20000
namespace Belt

section
variable {r : Nat} {P : Par} {f f' : Nat → Int} {done : Nat → Nat} {ans : Nat → Nat → Ans} {cur : Nat → BeS} {ow ow' fw fw' : Nat → Nat × Nat} {T T' H H' k h n : Nat} {s s' : BeS}

theorem Bv.takeG (hr1 : 1 ≤ r) (B : Bv r P f done ans cur ow fw T H k) (hh : h < P.nh) (hd : done h < P.jn h) (hs : (cur h).st = 2) (hnum : (cur h).num = (T : Int)) (hk : (cur h).j.kind = 1) (hlt : T < H + r) (hm : f (mkp r T) = 2 * T) :
    Bv r P (putF f 0 ((T : Int) + 1)) done ans (upd cur h { cur h with st := 3 }) (upd ow T (h, done h)) fw (T + 1) H (k + 1) := by
  have em : ∀ q, putF f 0 ((T : Int) + 1) (mkp r q) = f (mkp r q) := fun q => putF_other (by have := mk_lo hr1 q; omega)
  have ev : ∀ q, putF f 0 ((T : Int) + 1) (vl r q) = f (vl r q) := fun q => putF_other (by have := vl_lo hr1 q; omega)
  have eo : ∀ q, q < T → upd ow T (h, done h) q = ow q := fun q hq => upd_other _ _ (by omega)
  have eg : ∀ q, q < T → gvo P (upd ow T (h, done h)) q = gvo P ow q := fun q hq => by unfold gvo; rw [eo q hq]
  have cs : ∀ i, 3 ≤ (cur i).st → 3 ≤ (upd cur h { cur h with st := 3 } i).st := fun i hi => by
    by_cases e : i = h
    · subst e; rw [upd_same]; exact Int.le_refl 3
    · rw [upd_other _ _ e]; exact hi
  have bb := B.b
  obtain ⟨c1, c2, c3, c4⟩ := B.hd h hh hd
  refine ⟨by rw [putF_same]; omega, by rw [putF_other (by omega)]; exact B.h, by omega, fun p hp => ?_, fun i n hi hn hk => ?_, fun p q hpq hq => ?_, fun p hp => ?_, fun i n hi hn hk => ?_, B.f4, fun p h1 h2 => ?_, fun p h1 h2 => ?_, fun i hi hd' => ?_⟩
  · by_cases e : p = T
    · subst e; rw [upd_same]
      exact ⟨hh, hd, by rw [← c2]; exact hk, Nat.le_refl _, fun l => absurd l (Nat.lt_irrefl _), fun _ => by rw [upd_same]; exact Int.le_refl 3⟩
    · rw [eo p (by omega)]
      obtain ⟨a, b, c, d, e', g⟩ := B.g1 p (by omega)
      exact ⟨a, b, c, d, e', fun q => cs _ (g q)⟩
  · rcases B.g2 i n hi hn hk with x | ⟨p, a, b, c⟩
    · exact .inl x
    · exact .inr ⟨p, by omega, by rw [eo p a]; exact b, c⟩
  · rw [eo p (by omega)]
    by_cases e : q = T
    · subst e; rw [upd_same]; intro e1
      obtain ⟨a, b, c, d, e', g⟩ := B.g1 p (by omega)
      have e1 : (ow p).1 = h := e1
      show (ow p).2 < done h
      rw [e1] at d
      rcases Nat.lt_or_ge (ow p).2 (done h) with l | l
      · exact l
      · have := g (by rw [e1]; omega); rw [e1] at this; omega
    · rw [eo q (by omega)]; exact B.g4 p q hpq (by omega)
  · rw [eg p (by omega)]
    obtain ⟨a, b, c, d, e', g⟩ := B.f1 p hp
    exact ⟨a, b, c, d, e', fun q => cs _ (g q)⟩
  · rcases B.f2 i n hi hn hk with x | ⟨p, a, b, c⟩
    · exact .inl x
    · exact .inr ⟨p, a, b, by rw [eg p (by omega)]; exact c⟩
  · rw [em, ev]
    by_cases e : p = T
    · subst e; rw [upd_same]; exact .inr ⟨hm, rfl⟩
    · rw [eo p (by omega), eg p (by omega)]; exact B.m1 p h1 (by omega)
  · rw [em]; exact B.m2 p (by omega) h2
  · by_cases e : i = h
    · subst e
      rw [upd_same]
      refine ⟨c1, c2, c3, .inl ⟨hk, .inr (.inr (.inr ⟨.inl rfl, T, hnum, by omega, by omega, upd_same .., by rw [em]; exact hm, fun e => ?_⟩))⟩⟩
      have e : (3 : Int) = 4 := e
      omega
    · rw [upd_other _ _ e]
      refine (B.hd i hi hd').keep (by omega) (Nat.le_refl _) (fun e => by omega) (fun _ l m => ⟨by omega, by rw [em]; exact m⟩) (fun p l m o q => ⟨l, by rw [eo p m]; exact o, by rw [em]; exact q, ev p⟩) (fun p l m o q v => ⟨?_, o, by rw [em]; exact q, by rw [ev]; exact v, eg p (by omega)⟩)
      rcases Nat.lt_or_ge T (p + r) with z | z
      · omega
      · have e : T = p + r := by omega
        rw [e, mk_add, q] at hm
        omega

theorem Bv.takeF (hr1 : 1 ≤ r) (B : Bv r P f done ans cur ow fw T H k) (hh : h < P.nh) (hd : done h < P.jn h) (hs : (cur h).st = 2) (hnum : (cur h).num = (H : Int)) (hk : (cur h).j.kind = 2) (hlt : H < T) (hm : f (mkp r H) = 2 * H + 1) :
    Bv r P (putF f 1 ((H : Int) + 1)) done ans (upd cur h { cur h with st := 3 }) ow (upd fw H (h, done h)) T (H + 1) (k + 1) := by
  have em : ∀ q, putF f 1 ((H : Int) + 1) (mkp r q) = f (mkp r q) := fun q => putF_other (by have := mk_lo hr1 q; omega)
  have ev : ∀ q, putF f 1 ((H : Int) + 1) (vl r q) = f (vl r q) := fun q => putF_other (by have := vl_lo hr1 q; omega)
  have eo : ∀ q, q < H → upd fw H (h, done h) q = fw q := fun q hq => upd_other _ _ (by omega)
  have cs : ∀ i, 3 ≤ (cur i).st → 3 ≤ (upd cur h { cur h with st := 3 } i).st := fun i hi => by
    by_cases e : i = h
    · subst e; rw [upd_same]; exact Int.le_refl 3
    · rw [upd_other _ _ e]; exact hi
  have bb := B.b
  obtain ⟨c1, c2, c3, c4⟩ := B.hd h hh hd
  refine ⟨by rw [putF_other (by omega)]; exact B.t, by rw [putF_same]; omega, by omega, fun p hp => ?_, B.g2, B.g4, fun p hp => ?_, fun i n hi hn hk => ?_, fun p q hpq hq => ?_, fun p h1 h2 => ?_, fun p h1 h2 => ?_, fun i hi hd' => ?_⟩
  · obtain ⟨a, b, c, d, e', g⟩ := B.g1 p hp
    exact ⟨a, b, c, d, e', fun q => cs _ (g q)⟩
  · by_cases e : p = H
    · subst e; rw [upd_same]
      exact ⟨hh, hd, by rw [← c2]; exact hk, Nat.le_refl _, fun l => absurd l (Nat.lt_irrefl _), fun _ => by rw [upd_same]; exact Int.le_refl 3⟩
    · rw [eo p (by omega)]
      obtain ⟨a, b, c, d, e', g⟩ := B.f1 p (by omega)
      exact ⟨a, b, c, d, e', fun q => cs _ (g q)⟩
  · rcases B.f2 i n hi hn hk with x | ⟨p, a, b, c⟩
    · exact .inl x
    · exact .inr ⟨p, by omega, by rw [eo p a]; exact b, c⟩
  · rw [eo p (by omega)]
    by_cases e : q = H
    · subst e; rw [upd_same]; intro e1
      obtain ⟨a, b, c, d, e', g⟩ := B.f1 p (by omega)
      have e1 : (fw p).1 = h := e1
      show (fw p).2 < done h
      rw [e1] at d
      rcases Nat.lt_or_ge (fw p).2 (done h) with l | l
      · exact l
      · have := g (by rw [e1]; omega); rw [e1] at this; omega
    · rw [eo q (by omega)]; exact B.f4 p q hpq (by omega)
  · rw [em, ev]; exact B.m1 p (by omega) h2
  · rw [em]
    by_cases e : p = H + r
    · subst e
      rw [show H + r - r = H by omega, upd_same, mk_add]
      exact .inr ⟨by omega, hm, rfl⟩
    · rcases B.m2 p h1 (by omega) with x | ⟨u, x, y⟩
      · exact .inl x
      · exact .inr ⟨u, x, by rw [eo _ (by omega)]; exact y⟩
  · by_cases e : i = h
    · subst e
      rw [upd_same]
      refine ⟨c1, c2, c3, .inr ⟨hk, .inr (.inr (.inr ⟨.inl rfl, H, hnum, by omega, by omega, upd_same .., by rw [em]; exact hm, ?_, fun e => ?_⟩))⟩⟩
      · rw [ev]
        rcases B.m1 H (Nat.le_refl _) hlt with x | x
        · exact x.2
        · rw [hm] at x; omega
      · have e : (3 : Int) = 4 := e
        omega
    · rw [upd_other _ _ e]
      refine (B.hd i hi hd').keep (Nat.le_refl _) (by omega) (fun _ l m => ⟨by omega, by rw [em]; exact m⟩) (fun e => by omega) (fun p l m o q => ⟨?_, o, by rw [em]; exact q, ev p⟩) (fun p l m o q v => ⟨m, by rw [eo p l]; exact o, by rw [em]; exact q, by rw [ev]; exact v, rfl⟩)
      rcases Nat.lt_or_ge H p with z | z
      · omega
      · have e : p = H := by omega
        subst e
        rw [hm] at q
        omega

/-- What a step is to the law. -/
def Lw (r : Nat) (g : Nat → Int) (s : BeS) (x : Stp) (en : Bool) (s' : BeS) (T H H' : Nat) : Prop :=
  ((x.at_ = 1 ∧ x.act = 5 ∧ x.ok = true) ∧ s.j.kind = 2 ∧ x.had = (H : Int) ∧ H' = H + 1 ∧ en = false ∧ s'.st = 3 ∧ s'.num = (H : Int)) ∨
  (¬ (x.at_ = 1 ∧ x.act = 5 ∧ x.ok = true) ∧ H' = H ∧
    (((x.act = 1 ∧ 2 + (r : Int) ≤ x.at_) ∧ s.j.kind = 2 ∧ s.st = 3 ∧ en = false ∧ s'.st = 4 ∧ ∃ p : Nat, s.num = p ∧ p < H ∧ x.had = g p ∧ x.at_ = (vl r p : Int)) ∨
     (¬ (x.act = 1 ∧ 2 + (r : Int) ≤ x.at_) ∧ (s.j.kind = 2 → s.st ≠ 3) ∧ (en = false → s.j.kind = 2 → s'.st ≠ 3))))

/-- What is said of a step. -/
def Sp (r : Nat) (P : Par) (f' : Nat → Int) (done : Nat → Nat) (ans : Nat → Nat → Ans) (cur : Nat → BeS) (ow fw : Nat → Nat × Nat) (T H k h : Nat) (x : Stp) (en : Bool) (s' : BeS) : Prop :=
  ∃ ow' fw' T' H', (∀ p, p < T → ow' p = ow p) ∧ (∀ p, p < H → fw' p = fw p) ∧ T ≤ T' ∧ H ≤ H' ∧
    Bv r P f' (if en = true then upd done h (done h + 1) else done) (if en = true then upd ans h (upd (ans h) (done h) s'.told) else ans) (upd cur h (if en = true then ⟨h, P.jb h (done h + 1), 0, 0, 0, ⟨false, 0⟩⟩ else s')) ow' fw' T' H' (k + 1) ∧ Lw r (gvo P ow) (cur h) x en s' T H H'
theorem Sp.go {x : Stp} (B : Bv r P f' done ans (upd cur h s') ow' fw' T' H' (k + 1)) (a : ∀ p, p < T → ow' p = ow p) (b : ∀ p, p < H → fw' p = fw p) (c : T ≤ T') (d : H ≤ H') (L : Lw r (gvo P ow) (cur h) x false s' T H H') : Sp r P f' done ans cur ow fw T H k h x false s' :=
  ⟨ow', fw', T', H', a, b, c, d, B, L⟩
theorem Sp.go0 {x : Stp} (B : Bv r P f' done ans (upd cur h s') ow fw T H (k + 1)) (L : Lw r (gvo P ow) (cur h) x false s' T H H) : Sp r P f' done ans cur ow fw T H k h x false s' :=
  ⟨ow, fw, T, H, fun _ _ => rfl, fun _ _ => rfl, Nat.le_refl _, Nat.le_refl _, B, L⟩
theorem Sp.en0 {x : Stp} {a : Ans} (ea : s'.told = a) (B : Bv r P f' (upd done h (done h + 1)) (upd ans h (upd (ans h) (done h) a)) (upd cur h ⟨h, P.jb h (done h + 1), 0, 0, 0, ⟨false, 0⟩⟩) ow fw T H (k + 1)) (L : Lw r (gvo P ow) (cur h) x true s' T H H) : Sp r P f' done ans cur ow fw T H k h x true s' :=
  ⟨ow, fw, T, H, fun _ _ => rfl, fun _ _ => rfl, Nat.le_refl _, Nat.le_refl _, by subst ea; exact B, L⟩

variable {x : Stp}

set_option maxHeartbeats 4000000 in
theorem Bv.stepG (hr1 : 1 ≤ r) (hr2 : r ≤ 64) (hn : P.n = 2 + 2 * r) (hok : ∀ h, h < P.nh → ∀ j, j < P.jn h → (P.jb h j).kind = 1 ∨ (P.jb h j).kind = 2) (hw : ∀ i, i < P.n → 0 ≤ f i ∧ f i ≤ 18446744073709551615) (hk : k ≤ 65535) (B : Bv r P f done ans cur ow fw T H k) (hh : h < P.nh) (hd : done h < P.jn h) (k1 : (cur h).j.kind = 1) (G : Gv r f ow T H h (done h) (cur h)) (hx : stepOf P.n f (breq r (cur h)) = x) (hf : wordsOf P.n f (breq r (cur h)) = f') :
    Sp r P f' done ans cur ow fw T H k h x (bends (cur h) x) (bnext (cur h) x) := by
  obtain ⟨c1, c2, c3, -⟩ := B.hd h hh hd
  have bb := B.b
  have n2 : ¬ (cur h).j.kind = 2 := by omega
  have lw : ∀ {en s' x}, ¬ (x.at_ = 1 ∧ x.act = 5 ∧ x.ok = true) → ¬ (x.act = 1 ∧ 2 + (r : Int) ≤ x.at_) → Lw r (gvo P ow) (cur h) x en s' T H H := fun a b => .inr ⟨a, rfl, .inr ⟨b, fun e => absurd e n2, fun _ e => absurd e n2⟩⟩
  have keepc : ∀ s', s'.hand = (cur h).hand → s'.j = (cur h).j → s'.told = (cur h).told → Gv r f ow T H h (done h) s' → Cu r P f ow fw T H h (done h) s' := fun s' a b c d => ⟨a.trans c1, b.trans c2, c.trans c3, .inl ⟨by rw [b]; exact k1, d⟩⟩
  rcases G with st | ⟨st, p, hp, le⟩ | ⟨st, p, hp, le, mT⟩ | ⟨st, p, hp, lo, lt, ho, hm, hv⟩
  · have e4 : breq r (cur h) = ⟨(cur h).hand, 1, ((0 : Nat) : Int), 0, 0, true⟩ := by simp [breq, k1, st, cnt]
    rw [e4, ld_step _ (by omega)] at hx
    rw [e4, ld_words _ (by omega)] at hf
    subst hf
    have e5 : bends (cur h) x = false := by simp [bends, st]
    have e7 : bnext (cur h) x = { cur h with num := x.had, st := 1 } := by simp [bnext, st]
    rw [e5, e7]
    refine Sp.go0 (B.goS hh rfl rfl (by omega) B.m1 B.m2 (keepc _ rfl rfl rfl (.inr (.inl ⟨rfl, T, ?_, Nat.le_refl _⟩))) (fun i _ hi hd => B.hd i hi hd)) (lw (by rw [← hx]; simp) (by rw [← hx]; simp; omega))
    show x.had = T
    rw [← hx]; exact B.t
  · have pm := mk_lo hr1 p
    have e4 : breq r (cur h) = ⟨(cur h).hand, 1, ((mkp r p : Nat) : Int), 0, 0, true⟩ := by simp [breq, k1, st, hp, mrk_mk]
    rw [e4, ld_step _ (by omega)] at hx
    rw [e4, ld_words _ (by omega)] at hf
    subst hf
    have xh : x.had = f (mkp r p) := by rw [← hx]
    have er : rdy (cur h).j.kind (cur h).num = 2 * p := by rw [hp]; unfold rdy; rw [if_pos k1]; exact fre_sm (by omega)
    have L : ∀ en s', Lw r (gvo P ow) (cur h) x en s' T H H := fun en s' => lw (by rw [← hx]; simp) (by rw [← hx]; simp; omega)
    by_cases a1 : ahd x.had (rdy (cur h).j.kind (cur h).num) < 0
    · have e5 : bends (cur h) x = true := by simp [bends, st, a1]
      have e7 : bnext (cur h) x = { cur h with st := 1 } := by simp [bnext, st, a1]
      rw [e5, e7]
      refine Sp.en0 (a := no) c3 (B.endS hok hh hd rfl rfl (.inl ⟨rfl, by omega⟩) (fun q l m => ?_) (fun q l m => ?_) (fun i _ hi hd => B.hd i hi hd)) (L _ _)
      · rcases B.m1 q l m with z | ⟨z, y⟩
        · exact .inl z
        · refine .inr ⟨z, y, fun e => ?_⟩
          have := (B.g1 q m).2.2.2.2.2 y
          rw [e] at this; omega
      · rcases B.m2 q l m with z | ⟨u, z, y⟩
        · exact .inl z
        · refine .inr ⟨u, z, y, fun e => ?_⟩
          have := (B.f1 (q - r) (by omega)).2.2.2.2.2 y
          rw [e] at this; omega
    · have e5 : bends (cur h) x = false := by simp [bends, st, a1]
      by_cases a2 : 0 < ahd x.had (rdy (cur h).j.kind (cur h).num)
      · have e7 : bnext (cur h) x = { cur h with st := 0 } := by simp [bnext, st, a1, a2]
        rw [e5, e7]
        exact Sp.go0 (B.goS hh rfl rfl (by omega) B.m1 B.m2 (keepc _ rfl rfl rfl (.inl rfl)) (fun i _ hi hd => B.hd i hi hd)) (L _ _)
      · have e7 : bnext (cur h) x = { cur h with st := 2 } := by simp [bnext, st, a1, a2]
        rw [e5, e7]
        have ez := ahd_z (by rw [xh]; exact hw _ (by omega)) (by rw [er]; omega) a1 a2
        rw [xh, er] at ez
        refine Sp.go0 (B.goS hh rfl rfl (by omega) B.m1 B.m2 (keepc _ rfl rfl rfl (.inr (.inr (.inl ⟨rfl, p, hp, le, fun e => ?_⟩)))) (fun i _ hi hd => B.hd i hi hd)) (L _ _)
        subst e
        refine ⟨?_, ez⟩
        rcases Nat.lt_or_ge p (H + r) with z | z
        · exact z
        · have e : p = H + r := by omega
          rw [e, mk_add] at ez
          rcases B.m1 H (Nat.le_refl _) (by omega) with y | y
          · have := y.1; omega
          · have := y.1; omega
  · have e4 : breq r (cur h) = ⟨(cur h).hand, 5, ((0 : Nat) : Int), (p : Int), (p : Int) + 1, true⟩ := by
      have : u64 ((p : Int) + 1) = (p : Int) + 1 := by unfold u64; omega
      simp [breq, k1, st, cnt, hp, this]
    rw [e4] at hx hf
    have e5 : bends (cur h) x = false := by simp [bends, st]
    by_cases e : f 0 = (p : Int)
    · obtain ⟨y1, y2⟩ := cas_yes (n := P.n) (f := f) (a := 0) (cur h).hand p ((p : Int) + 1) (by omega) e
      rw [y1] at hx
      rw [y2] at hf
      have pT : p = T := by have := B.t; omega
      subst pT
      obtain ⟨m1, m2⟩ := mT rfl
      have xo : x.ok = true := by rw [← hx]
      have e7 : bnext (cur h) x = { cur h with st := 3 } := by simp [bnext, st, xo]
      rw [e5, e7, ← hf]
      exact Sp.go (B.takeG hr1 hh hd st hp k1 m1 m2) (fun q l => upd_other _ _ (by omega)) (fun _ _ => rfl) (by omega) (Nat.le_refl _) (lw (by rw [← hx]; simp) (by rw [← hx]; simp))
    · obtain ⟨y1, y2⟩ := cas_no (n := P.n) (f := f) (a := 0) (cur h).hand p ((p : Int) + 1) (by omega) e
      rw [y1] at hx
      rw [y2] at hf
      subst hf
      have xo : x.ok = false := by rw [← hx]
      have e7 : bnext (cur h) x = { cur h with st := 0 } := by simp [bnext, st, xo]
      rw [e5, e7]
      exact Sp.go0 (B.goS hh rfl rfl (by omega) B.m1 B.m2 (keepc _ rfl rfl rfl (.inl rfl)) (fun i _ hi hd => B.hd i hi hd)) (lw (by rw [← hx]; simp) (by rw [← hx]; simp))
  · have pv := vl_lo hr1 p
    have pm := mk_lo hr1 p
    have vm : ∀ q, vl r p ≠ mkp r q := fun q => by have := mk_lo hr1 q; omega
    have gp : gvo P ow p = (cur h).j.h := by unfold gvo; rw [ho, c2]
    -- another turn that somebody gives at
    have oth : ∀ q, q < T → ow q ≠ (h, done h) → q ≠ p := fun q _ e1 e2 => e1 (by rw [e2]; exact ho)
    rcases st with st | st
    · have e4 : breq r (cur h) = ⟨(cur h).hand, 2, ((vl r p : Nat) : Int), 0, (cur h).j.h, true⟩ := by simp [breq, k1, st, hp, mrk_vl]
      rw [e4, st_step _ _ (by omega)] at hx
      rw [e4, st_words _ _ (by omega)] at hf
      have e5 : bends (cur h) x = false := by simp [bends, st]
      have e7 : bnext (cur h) x = { cur h with st := 4 } := by simp [bnext, st, k1]
      rw [e5, e7]
      have em : ∀ q, f' (mkp r q) = f (mkp r q) := fun q => by rw [← hf]; exact putF_other (fun e => vm q e.symm)
      have e0 : f' 0 = f 0 := by rw [← hf]; exact putF_other (by omega)
      have e1 : f' 1 = f 1 := by rw [← hf]; exact putF_other (by omega)
      have es : f' (vl r p) = (cur h).j.h := by rw [← hf]; exact putF_same
      have ev : ∀ q, ((p < q ∧ q < p + r) ∨ (q < p ∧ p < q + r)) → f' (vl r q) = f (vl r q) := fun q l => by rw [← hf]; exact putF_other (vl_ne l).symm
      refine Sp.go0 (B.goS hh e0 e1 (fun _ => by show (3 : Int) ≤ 4; decide) (fun q l m => ?_) (fun q l m => by rw [em]; exact B.m2 q l m) ⟨c1, c2, c3, .inl ⟨k1, .inr (.inr (.inr ⟨.inr rfl, p, hp, lo, lt, ho, by rw [em]; exact hm, fun _ => es⟩))⟩⟩ (fun i ne hi hd => ?_)) (lw (by rw [← hx]; simp) (by rw [← hx]; simp))
      · rw [em]
        by_cases e : q = p
        · subst e; exact .inr ⟨hm, by rw [ho]⟩
        · rw [ev q (by omega)]; exact B.m1 q l m
      · refine (B.hd i hi hd).keep (Nat.le_refl _) (Nat.le_refl _) (fun _ l m => ⟨l, by rw [em]; exact m⟩) (fun _ l m => ⟨l, by rw [em]; exact m⟩) (fun q l m o z => ⟨l, o, by rw [em]; exact z, ev q ?_⟩) (fun q l m o z v => ⟨m, o, by rw [em]; exact z, by rw [ev q (by omega)]; exact v, rfl⟩)
        have := oth q m (by rw [o]; intro e; cases e; exact ne rfl)
        omega
    · have ed : dne (cur h).j.kind r (cur h).num = 2 * p + 1 := by rw [hp]; unfold dne; rw [if_pos k1]; exact giv_sm (by omega)
      have e4 : breq r (cur h) = ⟨(cur h).hand, 2, ((mkp r p : Nat) : Int), 0, 2 * (p : Int) + 1, true⟩ := by simp [breq, st, ed]; rw [hp, mrk_mk]
      rw [e4, st_step _ _ (by omega)] at hx
      rw [e4, st_words _ _ (by omega)] at hf
      have e5 : bends (cur h) x = true := by simp [bends, st]
      have e7 : bnext (cur h) x = { cur h with told := ⟨true, (p : Int)⟩ } := by simp [bnext, st, k1, hp]
      rw [e5, e7]
      have es : f' (mkp r p) = 2 * p + 1 := by rw [← hf]; exact putF_same
      have ev : ∀ q, f' (vl r q) = f (vl r q) := fun q => by rw [← hf]; exact putF_other (by have := vl_lo hr1 q; omega)
      have e0 : f' 0 = f 0 := by rw [← hf]; exact putF_other (by omega)
      have e1 : f' 1 = f 1 := by rw [← hf]; exact putF_other (by omega)
      have em : ∀ q, ((p < q ∧ q < p + r) ∨ (q < p ∧ p < q + r)) → f' (mkp r q) = f (mkp r q) := fun q l => by rw [← hf]; exact putF_other (mk_ne l).symm
      refine Sp.en0 (a := ⟨true, (p : Int)⟩) rfl (B.endS hok hh hd e0 e1 (.inr (.inl ⟨by rw [← c2]; exact k1, p, lt, ho, rfl⟩)) (fun q l m => ?_) (fun q l m => ?_) (fun i ne hi hd => ?_)) (lw (by rw [← hx]; simp) (by rw [← hx]; simp))
      · by_cases e : q = p
        · subst e; exact .inl ⟨es, by rw [ev, hv st]; exact gp.symm⟩
        · rw [em q (by omega), ev]
          rcases B.m1 q l m with z | ⟨z, y⟩
          · exact .inl z
          · exact .inr ⟨z, y, fun e' => e (inj4 B.g4 m lt (by rw [ho]; exact Prod.ext e' (by rw [y, e'])))⟩
      · rw [em q (by omega)]
        rcases B.m2 q l m with z | ⟨u, z, y⟩
        · exact .inl z
        · refine .inr ⟨u, z, y, fun e => ?_⟩
          have a := (B.f1 (q - r) (by omega)).2.2.1
          rw [show fw (q - r) = (h, done h) from Prod.ext e (by rw [y, e])] at a
          rw [c2] at k1
          simp only at a
          omega
      · refine (B.hd i hi hd).keep (Nat.le_refl _) (Nat.le_refl _) (fun _ l m => ⟨l, by rw [em T (by omega)]; exact m⟩) (fun _ l m => ⟨l, ?_⟩) (fun q l m o z => ⟨l, o, ?_, ev q⟩) (fun q l m o z v => ⟨m, o, by rw [em q (by omega)]; exact z, by rw [ev]; exact v, rfl⟩)
        · rcases Nat.lt_or_ge H p with z | z
          · rw [em H (by omega)]; exact m
          · have e : p = H := by omega
            subst e; rw [hm] at m; omega
        · have := oth q m (by rw [o]; intro e; cases e; exact ne rfl)
          rw [em q (by omega)]; exact z

set_option maxHeartbeats 4000000 in
theorem Bv.stepF (hr1 : 1 ≤ r) (hr2 : r ≤ 64) (hn : P.n = 2 + 2 * r) (hok : ∀ h, h < P.nh → ∀ j, j < P.jn h → (P.jb h j).kind = 1 ∨ (P.jb h j).kind = 2) (hw : ∀ i, i < P.n → 0 ≤ f i ∧ f i ≤ 18446744073709551615) (hk : k ≤ 65535) (B : Bv r P f done ans cur ow fw T H k) (hh : h < P.nh) (hd : done h < P.jn h) (k2 : (cur h).j.kind = 2) (G : Fe r f fw (gvo P ow) T H h (done h) (cur h)) (hx : stepOf P.n f (breq r (cur h)) = x) (hf : wordsOf P.n f (breq r (cur h)) = f') :
    Sp r P f' done ans cur ow fw T H k h x (bends (cur h) x) (bnext (cur h) x) := by
  obtain ⟨c1, c2, c3, -⟩ := B.hd h hh hd
  have bb := B.b
  have n1 : ¬ (cur h).j.kind = 1 := by omega
  have lw : ∀ {en s' x}, ¬ (x.at_ = 1 ∧ x.act = 5 ∧ x.ok = true) → ¬ (x.act = 1 ∧ 2 + (r : Int) ≤ x.at_) → (cur h).st ≠ 3 → (en = false → s'.st ≠ 3) → Lw r (gvo P ow) (cur h) x en s' T H H := fun a b c d => .inr ⟨a, rfl, .inr ⟨b, fun _ => c, fun e _ => d e⟩⟩
  have keepc : ∀ s', s'.hand = (cur h).hand → s'.j = (cur h).j → s'.told = (cur h).told → Fe r f fw (gvo P ow) T H h (done h) s' → Cu r P f ow fw T H h (done h) s' := fun s' a b c d => ⟨a.trans c1, b.trans c2, c.trans c3, .inr ⟨by rw [b]; exact k2, d⟩⟩
  rcases G with st | ⟨st, p, hp, le⟩ | ⟨st, p, hp, le, mT⟩ | ⟨st, p, hp, lt, lo, ho, hm, hv, hvl⟩
  · have e4 : breq r (cur h) = ⟨(cur h).hand, 1, ((1 : Nat) : Int), 0, 0, true⟩ := by simp [breq, k2, st, cnt]
    rw [e4, ld_step _ (by omega)] at hx
    rw [e4, ld_words _ (by omega)] at hf
    subst hf
    have e5 : bends (cur h) x = false := by simp [bends, st]
    have e7 : bnext (cur h) x = { cur h with num := x.had, st := 1 } := by simp [bnext, st]
    rw [e5, e7]
    refine Sp.go0 (B.goS hh rfl rfl (by omega) B.m1 B.m2 (keepc _ rfl rfl rfl (.inr (.inl ⟨rfl, H, ?_, Nat.le_refl _⟩))) (fun i _ hi hd => B.hd i hi hd)) (lw (by rw [← hx]; simp) (by rw [← hx]; simp; omega) (by omega) (fun _ => by show ¬ (1 : Int) = 3; decide))
    show x.had = H
    rw [← hx]; exact B.h
  · have pm := mk_lo hr1 p
    have e4 : breq r (cur h) = ⟨(cur h).hand, 1, ((mkp r p : Nat) : Int), 0, 0, true⟩ := by simp [breq, st, hp, mrk_mk]
    rw [e4, ld_step _ (by omega)] at hx
    rw [e4, ld_words _ (by omega)] at hf
    subst hf
    have xh : x.had = f (mkp r p) := by rw [← hx]
    have er : rdy (cur h).j.kind (cur h).num = 2 * p + 1 := by rw [hp]; unfold rdy; rw [if_neg n1]; exact giv_sm (by omega)
    have L : ∀ en s', (en = false → s'.st ≠ 3) → Lw r (gvo P ow) (cur h) x en s' T H H := fun en s' d => lw (by rw [← hx]; simp) (by rw [← hx]; simp; omega) (by omega) d
    by_cases a1 : ahd x.had (rdy (cur h).j.kind (cur h).num) < 0
    · have e5 : bends (cur h) x = true := by simp [bends, st, a1]
      have e7 : bnext (cur h) x = { cur h with st := 1 } := by simp [bnext, st, a1]
      rw [e5, e7]
      refine Sp.en0 (a := no) c3 (B.endS hok hh hd rfl rfl (.inl ⟨rfl, by omega⟩) (fun q l m => ?_) (fun q l m => ?_) (fun i _ hi hd => B.hd i hi hd)) (L _ _ (fun e => by cases e))
      · rcases B.m1 q l m with z | ⟨z, y⟩
        · exact .inl z
        · refine .inr ⟨z, y, fun e => ?_⟩
          have := (B.g1 q m).2.2.2.2.2 y
          rw [e] at this; omega
      · rcases B.m2 q l m with z | ⟨u, z, y⟩
        · exact .inl z
        · refine .inr ⟨u, z, y, fun e => ?_⟩
          have := (B.f1 (q - r) (by omega)).2.2.2.2.2 y
          rw [e] at this; omega
    · have e5 : bends (cur h) x = false := by simp [bends, st, a1]
      by_cases a2 : 0 < ahd x.had (rdy (cur h).j.kind (cur h).num)
      · have e7 : bnext (cur h) x = { cur h with st := 0 } := by simp [bnext, st, a1, a2]
        rw [e5, e7]
        exact Sp.go0 (B.goS hh rfl rfl (by omega) B.m1 B.m2 (keepc _ rfl rfl rfl (.inl rfl)) (fun i _ hi hd => B.hd i hi hd)) (L _ _ (fun _ => by show ¬ (0 : Int) = 3; decide))
      · have e7 : bnext (cur h) x = { cur h with st := 2 } := by simp [bnext, st, a1, a2]
        rw [e5, e7]
        have ez := ahd_z (by rw [xh]; exact hw _ (by omega)) (by rw [er]; omega) a1 a2
        rw [xh, er] at ez
        refine Sp.go0 (B.goS hh rfl rfl (by omega) B.m1 B.m2 (keepc _ rfl rfl rfl (.inr (.inr (.inl ⟨rfl, p, hp, le, fun e => ?_⟩)))) (fun i _ hi hd => B.hd i hi hd)) (L _ _ (fun _ => by show ¬ (2 : Int) = 3; decide))
        subst e
        refine ⟨?_, ez⟩
        rcases Nat.lt_or_ge p T with z | z
        · exact z
        · rcases B.m2 p z (by omega) with y | y
          · omega
          · have := y.2.1; omega
  · have e4 : breq r (cur h) = ⟨(cur h).hand, 5, ((1 : Nat) : Int), (p : Int), (p : Int) + 1, true⟩ := by
      have : u64 ((p : Int) + 1) = (p : Int) + 1 := by unfold u64; omega
      simp [breq, k2, st, cnt, hp, this]
    rw [e4] at hx hf
    have e5 : bends (cur h) x = false := by simp [bends, st]
    by_cases e : f 1 = (p : Int)
    · obtain ⟨y1, y2⟩ := cas_yes (n := P.n) (f := f) (a := 1) (cur h).hand p ((p : Int) + 1) (by omega) e
      rw [y1] at hx
      rw [y2] at hf
      have pT : p = H := by have := B.h; omega
      subst pT
      obtain ⟨m1, m2⟩ := mT rfl
      have xo : x.ok = true := by rw [← hx]
      have e7 : bnext (cur h) x = { cur h with st := 3 } := by simp [bnext, st, xo]
      rw [e5, e7, ← hf]
      exact Sp.go (B.takeF hr1 hh hd st hp k2 m1 m2) (fun _ _ => rfl) (fun q l => upd_other _ _ (by omega)) (Nat.le_refl _) (by omega) (.inl ⟨by rw [← hx]; simp, k2, by rw [← hx]; exact e, rfl, rfl, rfl, hp⟩)
    · obtain ⟨y1, y2⟩ := cas_no (n := P.n) (f := f) (a := 1) (cur h).hand p ((p : Int) + 1) (by omega) e
      rw [y1] at hx
      rw [y2] at hf
      subst hf
      have xo : x.ok = false := by rw [← hx]
      have e7 : bnext (cur h) x = { cur h with st := 0 } := by simp [bnext, st, xo]
      rw [e5, e7]
      exact Sp.go0 (B.goS hh rfl rfl (by omega) B.m1 B.m2 (keepc _ rfl rfl rfl (.inl rfl)) (fun i _ hi hd => B.hd i hi hd)) (lw (by rw [← hx]; simp) (by rw [← hx]; simp) (by omega) (fun _ => by show ¬ (0 : Int) = 3; decide))
  · have pv := vl_lo hr1 p
    have pm := mk_lo hr1 p
    have oth : ∀ q, q < H → fw q ≠ (h, done h) → q ≠ p := fun q _ e1 e2 => e1 (by rw [e2]; exact ho)
    rcases st with st | st
    · have e4 : breq r (cur h) = ⟨(cur h).hand, 1, ((vl r p : Nat) : Int), 0, 0, true⟩ := by simp [breq, k2, st, hp, mrk_vl]
      rw [e4, ld_step _ (by omega)] at hx
      rw [e4, ld_words _ (by omega)] at hf
      subst hf
      have e5 : bends (cur h) x = false := by simp [bends, st]
      have e7 : bnext (cur h) x = { cur h with val := x.had, st := 4 } := by simp [bnext, st, n1]
      have xh : x.had = gvo P ow p := by rw [← hx]; exact hv
      rw [e5, e7]
      exact Sp.go0 (B.goS hh rfl rfl (fun _ => by show (3 : Int) ≤ 4; decide) B.m1 B.m2 (keepc _ rfl rfl rfl (.inr (.inr (.inr ⟨.inr rfl, p, hp, lt, lo, ho, hm, hv, fun _ => xh⟩)))) (fun i _ hi hd => B.hd i hi hd)) (.inr ⟨by rw [← hx]; simp, rfl, .inl ⟨by rw [← hx]; simp; omega, k2, st, rfl, rfl, p, hp, lt, xh, by rw [← hx]⟩⟩)
    · have ed : dne (cur h).j.kind r (cur h).num = 2 * (p + r) := by
        rw [hp]; unfold dne; rw [if_neg n1]; unfold fre u64; omega
      have e4 : breq r (cur h) = ⟨(cur h).hand, 2, ((mkp r p : Nat) : Int), 0, 2 * ((p : Int) + r), true⟩ := by simp [breq, st, ed]; rw [hp, mrk_mk]
      rw [e4, st_step _ _ (by omega)] at hx
      rw [e4, st_words _ _ (by omega)] at hf
      have e5 : bends (cur h) x = true := by simp [bends, st]
      have e7 : bnext (cur h) x = { cur h with told := ⟨true, gvo P ow p⟩ } := by simp [bnext, st, n1, hvl st]
      rw [e5, e7]
      have es : f' (mkp r p) = 2 * ((p : Int) + r) := by rw [← hf]; exact putF_same
      have ev : ∀ q, f' (vl r q) = f (vl r q) := fun q => by rw [← hf]; exact putF_other (by have := vl_lo hr1 q; omega)
      have e0 : f' 0 = f 0 := by rw [← hf]; exact putF_other (by omega)
      have e1 : f' 1 = f 1 := by rw [← hf]; exact putF_other (by omega)
      have em : ∀ q, ((p < q ∧ q < p + r) ∨ (q < p ∧ p < q + r)) → f' (mkp r q) = f (mkp r q) := fun q l => by rw [← hf]; exact putF_other (mk_ne l).symm
      have em2 : ∀ q, (p + r < q ∧ q < p + r + r) → f' (mkp r q) = f (mkp r q) := fun q l => by
        rw [← hf]
        refine putF_other ?_
        have := mk_ne (r := r) (p := p + r) (q := q) (.inl l)
        rw [mk_add] at this
        exact this.symm
      refine Sp.en0 (a := ⟨true, gvo P ow p⟩) rfl (B.endS hok hh hd e0 e1 (.inr (.inr ⟨by rw [← c2]; exact k2, p, lt, ho, rfl⟩)) (fun q l m => ?_) (fun q l m => ?_) (fun i ne hi hd => ?_)) (lw (by rw [← hx]; simp) (by rw [← hx]; simp) (by omega) (fun e => by cases e))
      · rw [em q (by omega), ev]
        rcases B.m1 q l m with z | ⟨z, y⟩
        · exact .inl z
        · refine .inr ⟨z, y, fun e => ?_⟩
          have a := (B.g1 q m).2.2.1
          rw [show ow q = (h, done h) from Prod.ext e (by rw [y, e])] at a
          rw [c2] at k2
          simp only at a
          omega
      · by_cases e : q = p + r
        · subst e; left; rw [mk_add, es]; omega
        · have eq' : f' (mkp r q) = f (mkp r q) := by
            rcases Nat.lt_or_ge q (p + r) with z | z
            · exact em q (by omega)
            · exact em2 q (by omega)
          rw [eq']
          rcases B.m2 q l m with z | ⟨u, z, y⟩
          · exact .inl z
          · refine .inr ⟨u, z, y, fun e' => e ?_⟩
            have := inj4 B.f4 (show q - r < H by omega) lt (by rw [ho]; exact Prod.ext e' (by rw [y, e']))
            omega
      · refine (B.hd i hi hd).keep (Nat.le_refl _) (Nat.le_refl _) (fun _ l m => ⟨l, ?_⟩) (fun _ l m => ⟨l, by rw [em H (by omega)]; exact m⟩) (fun q l m o z => ⟨l, o, by rw [em q (by omega)]; exact z, ev q⟩) (fun q l m o z v => ⟨m, o, ?_, by rw [ev]; exact v, rfl⟩)
        · rcases Nat.lt_or_ge T (p + r) with z | z
          · rw [em T (by omega)]; exact m
          · have e : T = p + r := by omega
            rw [e, mk_add, es]; omega
        · have := oth q l (by rw [o]; intro e; cases e; exact ne rfl)
          rw [em q (by omega)]; exact z

theorem Bv.step (hr1 : 1 ≤ r) (hr2 : r ≤ 64) (hn : P.n = 2 + 2 * r) (hok : ∀ h, h < P.nh → ∀ j, j < P.jn h → (P.jb h j).kind = 1 ∨ (P.jb h j).kind = 2) (hw : ∀ i, i < P.n → 0 ≤ f i ∧ f i ≤ 18446744073709551615) (hk : k ≤ 65535) (B : Bv r P f done ans cur ow fw T H k) (hh : h < P.nh) (hd : done h < P.jn h) (hx : stepOf P.n f (breq r (cur h)) = x) (hf : wordsOf P.n f (breq r (cur h)) = f') :
    Sp r P f' done ans cur ow fw T H k h x (bends (cur h) x) (bnext (cur h) x) := by
  obtain ⟨-, -, -, ⟨k1, G⟩ | ⟨k2, G⟩⟩ := B.hd h hh hd
  · exact B.stepG hr1 hr2 hn hok hw hk hh hd k1 G hx hf
  · exact B.stepF hr1 hr2 hn hok hw hk hh hd k2 G hx hf

theorem Bv.congr (a : ∀ p, p < T → ow' p = ow p) (b : ∀ p, p < H → fw' p = fw p) (B : Bv r P f done ans cur ow fw T H k) : Bv r P f done ans cur ow' fw' T H k := by
  have bb := B.b
  have g : ∀ p, p < T → gvo P ow' p = gvo P ow p := fun p hp => by unfold gvo; rw [a p hp]
  refine ⟨B.t, B.h, B.b, fun p hp => by rw [a p hp]; exact B.g1 p hp, fun h n hh hn hk => ?_, fun p q hpq hq => by rw [a p (by omega), a q hq]; exact B.g4 p q hpq hq, fun p hp => by rw [b p hp, g p (by omega)]; exact B.f1 p hp, fun h n hh hn hk => ?_, fun p q hpq hq => by rw [b p (by omega), b q hq]; exact B.f4 p q hpq hq, fun p h1 h2 => by rw [a p h2, g p h2]; exact B.m1 p h1 h2, fun p h1 h2 => ?_, fun h hh hd => ?_⟩
  · rcases B.g2 h n hh hn hk with x | ⟨p, x, y, z⟩
    · exact .inl x
    · exact .inr ⟨p, x, by rw [a p x]; exact y, z⟩
  · rcases B.f2 h n hh hn hk with x | ⟨p, x, y, z⟩
    · exact .inl x
    · exact .inr ⟨p, x, by rw [b p x]; exact y, by rw [g p (by omega)]; exact z⟩
  · rcases B.m2 p h1 h2 with x | ⟨x, y, z⟩
    · exact .inl x
    · exact .inr ⟨x, y, by rw [b _ (by omega)]; exact z⟩
  · exact (B.hd h hh hd).keep (Nat.le_refl _) (Nat.le_refl _) (fun _ l m => ⟨l, m⟩) (fun _ l m => ⟨l, m⟩) (fun p l m o q => ⟨l, by rw [a p m]; exact o, q, rfl⟩) (fun p l m o q v => ⟨m, by rw [b p l]; exact o, q, v, g p (by omega)⟩)

theorem bv_start {f0 : Nat → Int} (hr1 : 1 ≤ r) (h0 : f0 0 = 0) (h1 : f0 1 = 0) (hm : ∀ p, p < r → f0 (2 + p) = 2 * p) (hok : ∀ h, h < P.nh → ∀ j, j < P.jn h → (P.jb h j).kind = 1 ∨ (P.jb h j).kind = 2) (ow fw : Nat → Nat × Nat) (ans : Nat → Nat → Ans) : Bv r P f0 (fun _ => 0) ans (fun h => ⟨h, P.jb h 0, 0, 0, 0, ⟨false, 0⟩⟩) ow fw 0 0 0 :=
  ⟨h0, h1, by omega, fun p hp => absurd hp (Nat.not_lt_zero p), fun h n _ hn => absurd hn (Nat.not_lt_zero n), fun p q _ hq => absurd hq (Nat.not_lt_zero q), fun p hp => absurd hp (Nat.not_lt_zero p), fun h n _ hn => absurd hn (Nat.not_lt_zero n), fun p q _ hq => absurd hq (Nat.not_lt_zero q), fun p _ hp => absurd hp (Nat.not_lt_zero p), fun p _ hp => .inl (by unfold mkp; rw [Nat.mod_eq_of_lt (by omega)]; exact hm p (by omega)), fun h hh hd => Cu.init (hok h hh _ hd)⟩
end
end Belt
end Go.Proofs.Ytchhkoalibapiaa
