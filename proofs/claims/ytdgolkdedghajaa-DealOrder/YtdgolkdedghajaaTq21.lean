/-
  Lemmas: DealC, DealON, DealOL, DealOT, DealOX.
-/
import Derived.Test.YtdgolkdedghajaaTq05
import Derived.Test.YtdgolkdedghajaaTq06
import Derived.Test.YtdgolkdedghajaaTq07
/-
  The tasks of a deal: how a job under way lies in memory, and what it is as a plain state.
-/
namespace Go.Proofs.Ytdgolkdedghajaa
open Go.RowKit
set_option linter.unusedVariables false
set_option linter.unusedSimpArgs false
set_option maxRecDepth 20000
namespace Deal

def mvC (hand room st fst en val : Int) (t : Ans) : Nat → Value := fun i => match i with | 0 => .int .i64 hand | 1 => .int .i64 room | 2 => .int .i64 st | 3 => .int .u64 fst | 4 => .int .u64 en | 5 => .int .u64 val | 6 => .bool t.ok | _ => .int .u64 t.val

def u64 (x : Int) : Int := x % 18446744073709551616
theorem u64_lo (x : Int) : 0 ≤ u64 x := by unfold u64; omega
theorem u64_hi (x : Int) : u64 x ≤ 18446744073709551615 := by unfold u64; omega
theorem u64_id {x : Int} (h : 0 ≤ x ∧ x ≤ 18446744073709551615) : u64 x = x := by unfold u64; omega
/-- How far x is ahead of y, as a signed number. -/
def ahd (x y : Int) : Int := wrap64 (u64 (x - y))
/-- Where a number's value stands. -/
def plc (r p : Int) : Int := 2 + p % r
theorem plc_bounds {r : Int} (p : Int) (h1 : 1 ≤ r) (h2 : r ≤ 64) : 2 ≤ plc r p ∧ plc r p < 66 := by
  have a := Int.emod_nonneg p (show r ≠ 0 by omega)
  have b := Int.emod_lt_of_pos p (show 0 < r by omega)
  unfold plc
  omega

structure DeS where
  hand : Int
  j : Jb
  st : Int
  fst : Int
  en : Int
  val : Int
  told : Ans

def derr (hand : Int) (j : Jb) : Int := if j.kind < 1 ∨ 3 < j.kind then 200 else if j.kind = 3 then 0 else if hand = 0 then 0 else 2
def dreq (r : Int) (s : DeS) : Stp :=
  if s.j.kind = 1 then
    (if s.st = 0 then ⟨s.hand, 1, 1, 0, 0, true⟩ else if s.st = 2 then ⟨s.hand, 1, 0, 0, 0, true⟩ else if s.st = 3 then ⟨s.hand, 2, plc r s.en, 0, s.val, true⟩ else ⟨s.hand, 2, 1, 0, u64 (s.en + 1), true⟩)
  else if s.j.kind = 2 then
    (if s.st = 0 then ⟨s.hand, 1, 1, 0, 0, true⟩ else if s.st = 1 then ⟨s.hand, 2, 1, 0, s.en, true⟩ else if s.st = 2 then ⟨s.hand, 1, 0, 0, 0, true⟩ else if s.st = 3 then ⟨s.hand, 1, plc r s.en, 0, 0, true⟩
     else if s.st = 4 then ⟨s.hand, 5, 0, s.fst, u64 (s.fst + 1), true⟩ else ⟨s.hand, 2, 1, 0, u64 (s.en + 1), true⟩)
  else
    (if s.st = 0 then ⟨s.hand, 1, 0, 0, 0, true⟩ else if s.st = 2 then ⟨s.hand, 1, 1, 0, 0, true⟩ else if s.st = 3 then ⟨s.hand, 1, plc r s.fst, 0, 0, true⟩ else ⟨s.hand, 5, 0, s.fst, u64 (s.fst + 1), true⟩)
def dends (r : Int) (s : DeS) (x : Stp) : Bool :=
  if s.j.kind = 1 then (if s.st = 0 then false else if s.st = 2 then decide (r ≤ ahd s.en x.had) else if s.st = 3 then false else true)
  else if s.j.kind = 2 then (if s.st = 0 then false else if s.st = 1 then false else if s.st = 2 then false else if s.st = 3 then decide (0 < ahd s.en s.fst) else if s.st = 4 then false else true)
  else (if s.st = 0 then false else if s.st = 2 then decide (ahd x.had s.fst ≤ 0) else if s.st = 3 then false else x.ok)
def dnext (r : Int) (s : DeS) (x : Stp) : DeS :=
  if s.j.kind = 1 then
    (if s.st = 0 then { s with en := x.had, st := 2 } else if s.st = 2 then { s with fst := x.had, st := if r ≤ ahd s.en x.had then 2 else 3 } else if s.st = 3 then { s with st := 5 } else { s with told := ⟨true, s.val⟩ })
  else if s.j.kind = 2 then
    (if s.st = 0 then { s with en := u64 (x.had - 1), st := 1 } else if s.st = 1 then { s with st := 2 } else if s.st = 2 then { s with fst := x.had, st := if ahd s.en x.had < 0 then 5 else 3 }
     else if s.st = 3 then { s with val := x.had, st := 4, told := if 0 < ahd s.en s.fst then ⟨true, x.had⟩ else s.told } else if s.st = 4 then { s with st := 5, told := if x.ok = true then ⟨true, s.val⟩ else s.told } else s)
  else
    (if s.st = 0 then { s with fst := x.had, st := 2 } else if s.st = 2 then { s with en := x.had, st := if ahd x.had s.fst ≤ 0 then 2 else 3 } else if s.st = 3 then { s with val := x.had, st := 4 }
     else if x.ok = true then { s with told := ⟨true, s.val⟩ } else { s with st := 0 })
def dcell (r : Int) (s : DeS) : Nat → Value := mvC s.hand r s.st s.fst s.en s.val s.told
def dpick {α : Type} (j : Jb) (x y z : α) : α := if j.kind = 1 then x else if j.kind = 2 then y else z
theorem pick1 {α : Type} {j : Jb} (h : j.kind = 1) (x y z : α) : dpick j x y z = x := by simp [dpick, h]
theorem pick2 {α : Type} {j : Jb} (h : j.kind = 2) (x y z : α) : dpick j x y z = y := by simp [dpick, h]
theorem pick3 {α : Type} {j : Jb} (h1 : ¬ j.kind = 1) (h2 : ¬ j.kind = 2) (x y z : α) : dpick j x y z = z := by simp [dpick, h1, h2]

/-- What stands in a task under way. -/
structure Wf (s : DeS) : Prop where
  st : (s.j.kind = 1 ∧ (s.st = 0 ∨ s.st = 2 ∨ s.st = 3 ∨ s.st = 5)) ∨ (s.j.kind = 2 ∧ 0 ≤ s.st ∧ s.st ≤ 5) ∨ (s.j.kind = 3 ∧ (s.st = 0 ∨ s.st = 2 ∨ s.st = 3 ∨ s.st = 4))
  h : s.j.wf
  fst : 0 ≤ s.fst ∧ s.fst ≤ 18446744073709551615
  en : 0 ≤ s.en ∧ s.en ≤ 18446744073709551615
  val : 0 ≤ s.val ∧ s.val ≤ 18446744073709551615

def dinit (h : Int) (j : Jb) : DeS := ⟨h, j, 0, 0, 0, if j.kind = 1 then j.h else 0, ⟨false, 0⟩⟩
def kDeal (r : Int) : Kd where
  σ := DeS
  err := derr
  init := dinit
  req := dreq r
  next := dnext r
  ends := dends r
  tell s := s.told
  tid j := dpick j 85 88 90
  t j := dpick j 87 89 91
  n _ := 8
  fs j := dpick j 97 116 122
  fa _ := 96
  cell := fun _ => dcell r
  wf j s := s.j = j ∧ Wf s

theorem had_bounds {n : Nat} {f : Nat → Int} (hf : ∀ i, i < n → 0 ≤ f i ∧ f i ≤ 18446744073709551615) (q : Stp) : 0 ≤ (stepOf n f q).had ∧ (stepOf n f q).had ≤ 18446744073709551615 := by
  unfold stepOf
  split
  · rename_i h
    exact hf _ (by omega)
  · exact ⟨Int.le_refl 0, by show (0 : Int) ≤ 18446744073709551615; decide⟩

theorem derr_cases {h : Int} {j : Jb} (e : derr h j = 0) : (j.kind = 1 ∨ j.kind = 2 ∨ j.kind = 3) ∧ (j.kind = 3 ∨ h = 0) := by
  unfold derr at e
  split at e
  · cases e
  · split at e
    · omega
    · split at e
      · omega
      · cases e
theorem fine_cases {r : Int} {j : Jb} (h : (kDeal r).fine j) : (j.kind = 1 ∨ j.kind = 2 ∨ j.kind = 3) ∧ j.wf :=
  ⟨(derr_cases h.2.choose_spec).1, h.1⟩

theorem dnext_j (r : Int) (s : DeS) (x : Stp) : (dnext r s x).j = s.j := by
  unfold dnext
  repeat' split
  all_goals rfl
theorem dnext_hand (r : Int) (s : DeS) (x : Stp) : (dnext r s x).hand = s.hand := by
  unfold dnext
  repeat' split
  all_goals rfl

theorem dnext_wf {r : Int} {s : DeS} {x : Stp} (H : Wf s) (hx : 0 ≤ x.had ∧ x.had ≤ 18446744073709551615) : Wf (dnext r s x) := by
  obtain ⟨hk, hh, hf, he, hv⟩ := H
  unfold dnext
  repeat' split
  all_goals (constructor <;> first | assumption | exact ⟨u64_lo _, u64_hi _⟩ | (dsimp only; omega))

theorem wf_init (r h : Int) {j : Jb} (hj : (kDeal r).fine j) : Wf (dinit h j) := by
  obtain ⟨hk, hw⟩ := fine_cases hj
  have hw' : 0 ≤ j.h ∧ j.h ≤ 18446744073709551615 := hw
  refine ⟨by dsimp only [dinit]; omega, hw, by simp [dinit], by simp [dinit], ?_⟩
  show 0 ≤ (if j.kind = 1 then j.h else 0) ∧ (if j.kind = 1 then j.h else 0) ≤ 18446744073709551615
  split
  · exact hw'
  · omega

theorem dreq_put {r : Int} {s : DeS} (H : Wf s) : 0 ≤ (dreq r s).put ∧ (dreq r s).put ≤ 18446744073709551615 := by
  obtain ⟨hk, hh, hf, he, hv⟩ := H
  unfold dreq
  repeat' split
  all_goals first | assumption | exact ⟨u64_lo _, u64_hi _⟩ | (simp only; omega)
end Deal
end Go.Proofs.Ytdgolkdedghajaa

/-
  DealOnce, without a program: what stands behind every step of a run from fresh words: what was laid and not taken stands between top and bottom.
-/
namespace Go.Proofs.Ytdgolkdedghajaa
open Go.RowKit
set_option linter.unusedVariables false
set_option linter.unusedSimpArgs false
set_option maxRecDepth 20000
namespace Deal

/-- What a load tells. -/
theorem ld_step {n : Nat} {f : Nat → Int} {a : Nat} (h : Int) (ha : a < n) : stepOf n f ⟨h, 1, (a : Int), 0, 0, true⟩ = ⟨h, 1, a, f a, f a, true⟩ := by
  have : (0 : Int) ≤ a ∧ (a : Int) < n := by omega
  simp [stepOf, this, actOf, putBy]
theorem ld_words {n : Nat} {f : Nat → Int} {a : Nat} (h : Int) (ha : a < n) : wordsOf n f ⟨h, 1, (a : Int), 0, 0, true⟩ = f := by
  unfold wordsOf
  have : (0 : Int) ≤ a ∧ (a : Int) < n := by omega
  rw [if_pos this, ld_step h ha]
  funext j
  show (if j = (a : Int).toNat then f a else f j) = f j
  split
  · rename_i e; rw [e]; simp
  · rfl
theorem st_step {n : Nat} {f : Nat → Int} {a : Nat} (h v : Int) (ha : a < n) : stepOf n f ⟨h, 2, (a : Int), 0, v, true⟩ = ⟨h, 2, a, f a, v, true⟩ := by
  have : (0 : Int) ≤ a ∧ (a : Int) < n := by omega
  simp [stepOf, this, actOf, putBy]
theorem st_words {n : Nat} {f : Nat → Int} {a : Nat} (h v : Int) (ha : a < n) : wordsOf n f ⟨h, 2, (a : Int), 0, v, true⟩ = putF f a v := by
  unfold wordsOf
  have : (0 : Int) ≤ a ∧ (a : Int) < n := by omega
  rw [if_pos this, st_step h v ha]
  simp
theorem cas_yes {n : Nat} {f : Nat → Int} {a : Nat} (h o v : Int) (ha : a < n) (e : f a = o) : stepOf n f ⟨h, 5, (a : Int), o, v, true⟩ = ⟨h, 5, a, f a, v, true⟩ ∧ wordsOf n f ⟨h, 5, (a : Int), o, v, true⟩ = putF f a v := by
  have t : (0 : Int) ≤ a ∧ (a : Int) < n := by omega
  have x : stepOf n f ⟨h, 5, (a : Int), o, v, true⟩ = ⟨h, 5, a, f a, v, true⟩ := by simp [stepOf, t, actOf, putBy, e]
  refine ⟨x, ?_⟩
  unfold wordsOf
  rw [if_pos t, x]
  simp
theorem cas_no {n : Nat} {f : Nat → Int} {a : Nat} (h o v : Int) (ha : a < n) (e : ¬ f a = o) : stepOf n f ⟨h, 5, (a : Int), o, v, true⟩ = ⟨h, 5, a, f a, f a, false⟩ ∧ wordsOf n f ⟨h, 5, (a : Int), o, v, true⟩ = f := by
  have t : (0 : Int) ≤ a ∧ (a : Int) < n := by omega
  have x : stepOf n f ⟨h, 5, (a : Int), o, v, true⟩ = ⟨h, 5, a, f a, f a, false⟩ := by simp [stepOf, t, actOf, putBy, e]
  refine ⟨x, ?_⟩
  unfold wordsOf
  rw [if_pos t, x]
  funext j
  show (if j = (a : Int).toNat then f a else f j) = f j
  split
  · rename_i e; rw [e]; simp
  · rfl
theorem putF_other {f : Nat → Int} {a j : Nat} {v : Int} (h : j ≠ a) : putF f a v j = f j := if_neg h
theorem putF_same {f : Nat → Int} {a : Nat} {v : Int} : putF f a v a = v := if_pos rfl

/-- A place's slot. -/
def sl (r : Nat) (n : Int) : Nat := (plc r n).toNat
theorem sl_lo {r : Nat} (h1 : 1 ≤ r) (n : Int) : 2 ≤ sl r n ∧ sl r n < 2 + r ∧ plc r n = (sl r n : Int) := by
  have a := Int.emod_nonneg n (show (r : Int) ≠ 0 by omega)
  have b := Int.emod_lt_of_pos n (show (0 : Int) < r by omega)
  unfold sl plc
  omega
theorem sl_ne {r : Nat} {n m : Int} (h1 : n < m) (h2 : m < n + r) : sl r n ≠ sl r m := by
  intro e
  have h0 : 1 ≤ r := by omega
  have a := sl_lo h0 n
  have b := sl_lo h0 m
  have c : plc r n = plc r m := by omega
  unfold plc at c
  have d : n % (r : Int) = m % (r : Int) := by omega
  have g : (m - n) % (r : Int) = 0 := by rw [Int.sub_emod, d, Int.sub_self, Int.zero_emod]
  have k : (m - n) % (r : Int) = m - n := Int.emod_eq_of_lt (by omega) (by omega)
  omega

theorem ahd_d {x y : Int} (h : -100000 ≤ x - y ∧ x - y ≤ 100000) : ahd x y = x - y := by unfold ahd u64 wrap64; omega
theorem ahd_e {x y : Int} (h : -100000 ≤ x - y ∧ x - y ≤ 100000) : ahd (u64 x) y = x - y := by unfold ahd u64 wrap64; omega
theorem u64_sm {x : Int} (h : 0 ≤ x ∧ x ≤ 100000) : u64 x = x := u64_id ⟨h.1, by omega⟩

/-- What stands from T on, m values. -/
def std (r : Nat) (f : Nat → Int) (T : Int) : Nat → List Int
  | 0 => []
  | m + 1 => std r f T m ++ [f (sl r (T + m))]
theorem std_cons (r : Nat) (f : Nat → Int) (T : Int) : ∀ m, std r f T (m + 1) = f (sl r T) :: std r f (T + 1) m
  | 0 => by simp [std]
  | m + 1 => by
    show std r f T (m + 1) ++ [f (sl r (T + ((m + 1 : Nat) : Int)))] = _
    rw [std_cons r f T m]
    show _ = f (sl r T) :: (std r f (T + 1) m ++ [f (sl r (T + 1 + (m : Int)))])
    rw [show T + ((m + 1 : Nat) : Int) = T + 1 + (m : Int) by omega]
    rfl
theorem std_congr {r : Nat} {f f' : Nat → Int} {T : Int} : ∀ m, (∀ i : Nat, i < m → f (sl r (T + i)) = f' (sl r (T + i))) → std r f T m = std r f' T m
  | 0, _ => rfl
  | m + 1, h => by
    show std r f T m ++ _ = std r f' T m ++ _
    rw [std_congr m (fun i hi => h i (by omega)), h m (by omega)]

def no : Ans := ⟨false, 0⟩

/-- Hand 0 at a Lay or a Draw. -/
def Ow (r : Nat) (f : Nat → Int) (B U : Int) (pd : List Int) (s : DeS) : Prop :=
  (s.j.kind = 1 ∧ U = B ∧ pd = [] ∧ f 1 = B ∧ s.told = no ∧ (s.st = 0 ∨ (s.st = 2 ∧ s.en = B) ∨ (s.st = 3 ∧ s.en = B ∧ B < f 0 + r) ∨ (s.st = 5 ∧ s.en = B ∧ B < f 0 + r ∧ f (sl r B) = s.val))) ∨
  (s.j.kind = 2 ∧ ((s.st = 0 ∧ f 1 = B ∧ U = B ∧ pd = [] ∧ s.told = no) ∨ (s.st = 1 ∧ f 1 = B ∧ s.en = u64 (B - 1) ∧ U = B ∧ pd = [] ∧ s.told = no) ∨
    (s.st = 2 ∧ f 1 = u64 (B - 1) ∧ s.en = u64 (B - 1) ∧ U = B ∧ pd = [] ∧ s.told = no) ∨
    (s.st = 3 ∧ f 1 = u64 (B - 1) ∧ s.en = u64 (B - 1) ∧ 0 ≤ s.fst ∧ s.fst < B - 1 ∧ U = B - 1 ∧ pd = [] ∧ s.told = no) ∨
    (s.st = 3 ∧ f 1 = u64 (B - 1) ∧ s.en = u64 (B - 1) ∧ 0 ≤ s.fst ∧ s.fst = B - 1 ∧ s.fst ≤ f 0 ∧ U = B ∧ pd = [] ∧ s.told = no) ∨
    (s.st = 4 ∧ f 1 = u64 (B - 1) ∧ s.en = u64 (B - 1) ∧ 0 ≤ s.fst ∧ s.fst = B - 1 ∧ s.fst ≤ f 0 ∧ s.val = f (sl r (B - 1)) ∧ U = B ∧ pd = [] ∧ s.told = no) ∨
    (s.st = 5 ∧ f 1 = u64 (B - 1) ∧ s.en = u64 (B - 1) ∧ f 0 = B ∧ U = B ∧ ((s.told = no ∧ pd = []) ∨ (s.told = ⟨true, s.val⟩ ∧ pd = [s.val])))))

/-- A hand at a Steal. -/
def Sl (r : Nat) (f : Nat → Int) (U : Int) (s : DeS) : Prop :=
  s.told = no ∧ (s.st = 0 ∨ (s.st = 2 ∧ 0 ≤ s.fst ∧ s.fst ≤ f 0) ∨ (s.st = 3 ∧ 0 ≤ s.fst ∧ s.fst ≤ f 0 ∧ (s.fst = f 0 → f 0 < U)) ∨ (s.st = 4 ∧ 0 ≤ s.fst ∧ s.fst ≤ f 0 ∧ (s.fst = f 0 → f 0 < U ∧ s.val = f (sl r (f 0)))))

def Id (f : Nat → Int) (B U : Int) (pd : List Int) : Prop := f 1 = B ∧ U = B ∧ pd = []

/-- A hand, under way (g) or not. -/
def Hd (r : Nat) (f : Nat → Int) (B U : Int) (pd : List Int) (h : Nat) (g : Prop) (s : DeS) : Prop :=
  (g → s.hand = (h : Int) ∧ (s.j.kind = 3 ∨ (h = 0 ∧ (s.j.kind = 1 ∨ s.j.kind = 2)))) ∧ (g → s.j.kind = 3 → Sl r f U s) ∧ (h = 0 → g → ¬ s.j.kind = 3 → Ow r f B U pd s) ∧ (h = 0 → (¬ g ∨ s.j.kind = 3) → Id f B U pd)

structure Dv (r : Nat) (P : Par) (f : Nat → Int) (done : Nat → Nat) (cur : Nat → DeS) (B U : Int) (pd : List Int) (k : Nat) : Prop where
  b : 0 ≤ f 0 ∧ f 0 ≤ U ∧ U ≤ B ∧ B ≤ k ∧ B ≤ f 0 + r
  hd : ∀ h, h < P.nh → Hd r f B U pd h (done h < P.jn h) (cur h)
  nx : P.nh = 0 → Id f B U pd

/-- What the law's list holds. -/
def lst (r : Nat) (f : Nat → Int) (B : Int) (pd : List Int) : List Int := std r f (f 0) (B - f 0).toNat ++ pd

/-- What a step is to the law. -/
def Kn (r : Nat) (f f' : Nat → Int) (B B' : Int) (pd pd' : List Int) (kind : Int) (en : Bool) (a : Ans) : Prop :=
  if en = true ∧ a.ok = true then (if kind = 1 then lst r f' B' pd' = lst r f B pd ++ [a.val] else (lst r f B pd).Perm (a.val :: lst r f' B' pd')) else (lst r f' B' pd' = lst r f B pd ∧ (en = true → a.val = 0))

variable {r : Nat} {P : Par} {f f' : Nat → Int} {done : Nat → Nat} {cur : Nat → DeS} {B U B' U' : Int} {pd pd' : List Int} {k h : Nat}

/-- A steal's step: the words are as they were. -/
theorem Sl.step (hr1 : 1 ≤ r) (hr2 : r ≤ 64) {n : Nat} (hn : n = 2 + r) (hk : k ≤ 65536) (b : 0 ≤ f 0 ∧ f 0 ≤ U ∧ U ≤ B ∧ B ≤ k ∧ B ≤ f 0 + r) (f1 : f 1 = U ∨ f 1 = u64 (U - 1)) {s : DeS} (k3 : s.j.kind = 3) (S : Sl r f U s) {x : Stp} (hx : stepOf n f (dreq r s) = x) (hf : wordsOf n f (dreq r s) = f') :
    (dends r s x = false ∧ f' = f ∧ Sl r f U (dnext r s x)) ∨ (dends r s x = true ∧ f' = f ∧ (dnext r s x).told = no) ∨ (dends r s x = true ∧ f' = putF f 0 (f 0 + 1) ∧ f 0 < U ∧ (dnext r s x).told = ⟨true, f (sl r (f 0))⟩) := by
  obtain ⟨tl, w⟩ := S
  have n1 : ¬ s.j.kind = 1 := by omega
  have n2 : ¬ s.j.kind = 2 := by omega
  rcases w with st | ⟨st, p0, p1⟩ | ⟨st, p0, p1, p2⟩ | ⟨st, p0, p1, p2⟩
  · have e4 : dreq r s = ⟨s.hand, 1, ((0 : Nat) : Int), 0, 0, true⟩ := by simp [dreq, k3, st]
    rw [e4, ld_step _ (by omega)] at hx
    rw [e4, ld_words _ (by omega)] at hf
    have e7 : dnext r s x = { s with fst := x.had, st := 2 } := by simp [dnext, k3, st]
    exact .inl ⟨by simp [dends, k3, st], hf.symm, by rw [e7]; exact ⟨tl, .inr (.inl ⟨rfl, by show 0 ≤ x.had; rw [← hx]; exact b.1, by show x.had ≤ _; rw [← hx]; exact Int.le_refl _⟩)⟩⟩
  · have e4 : dreq r s = ⟨s.hand, 1, ((1 : Nat) : Int), 0, 0, true⟩ := by simp [dreq, k3, st]
    rw [e4, ld_step _ (by omega)] at hx
    rw [e4, ld_words _ (by omega)] at hf
    have xh : x.had = f 1 := by rw [← hx]
    have ah : ahd x.had s.fst = U - s.fst ∨ ahd x.had s.fst = U - 1 - s.fst := by
      rcases f1 with e | e
      · left; rw [xh, e, ahd_d ⟨by omega, by omega⟩]
      · right; rw [xh, e, ahd_e ⟨by omega, by omega⟩]
    by_cases c : ahd x.had s.fst ≤ 0
    · have e7 : dnext r s x = { s with en := x.had, st := 2 } := by simp [dnext, k3, st, c]
      exact .inr (.inl ⟨by simp [dends, k3, st, c], hf.symm, by rw [e7]; exact tl⟩)
    · have e7 : dnext r s x = { s with en := x.had, st := 3 } := by simp [dnext, k3, st, c]
      exact .inl ⟨by simp [dends, k3, st, c], hf.symm, by rw [e7]; exact ⟨tl, .inr (.inr (.inl ⟨rfl, p0, p1, fun e => by have e : s.fst = f 0 := e; omega⟩))⟩⟩
  · obtain ⟨q1, q2, q3⟩ := sl_lo hr1 s.fst
    have e4 : dreq r s = ⟨s.hand, 1, ((sl r s.fst : Nat) : Int), 0, 0, true⟩ := by simp [dreq, k3, st, q3]
    rw [e4, ld_step _ (by omega)] at hx
    rw [e4, ld_words _ (by omega)] at hf
    have e7 : dnext r s x = { s with val := x.had, st := 4 } := by simp [dnext, k3, st]
    exact .inl ⟨by simp [dends, k3, st], hf.symm, by rw [e7]; exact ⟨tl, .inr (.inr (.inr ⟨rfl, p0, p1, fun e => ⟨p2 e, by
      have e : s.fst = f 0 := e
      show x.had = _
      rw [← hx, ← e]⟩⟩))⟩⟩
  · have e4 : dreq r s = ⟨s.hand, 5, ((0 : Nat) : Int), s.fst, u64 (s.fst + 1), true⟩ := by simp [dreq, k3, st]
    rw [e4] at hx hf
    by_cases e : s.fst = f 0
    · obtain ⟨c1, c2⟩ := cas_yes (n := n) (f := f) (a := 0) s.hand s.fst (u64 (s.fst + 1)) (by omega) e.symm
      rw [c1] at hx
      rw [c2] at hf
      have xo : x.ok = true := by rw [← hx]
      have e7 : dnext r s x = { s with told := ⟨true, s.val⟩ } := by simp [dnext, k3, st, xo]
      obtain ⟨p3, p4⟩ := p2 e
      exact .inr (.inr ⟨by simp [dends, k3, st, xo], by rw [← hf, u64_sm ⟨by omega, by omega⟩, e], p3, by rw [e7, ← p4]⟩)
    · obtain ⟨c1, c2⟩ := cas_no (n := n) (f := f) (a := 0) s.hand s.fst (u64 (s.fst + 1)) (by omega) (fun t => e t.symm)
      rw [c1] at hx
      rw [c2] at hf
      have xo : x.ok = false := by rw [← hx]
      have e7 : dnext r s x = { s with st := 0 } := by simp [dnext, k3, st, xo]
      exact .inl ⟨by simp [dends, k3, st, xo], hf.symm, by rw [e7]; exact ⟨tl, .inl rfl⟩⟩
theorem Sl.keep (h0 : f' 0 = f 0) (h : f 0 < U → f 0 < U' ∧ f' (sl r (f 0)) = f (sl r (f 0))) {s : DeS} (S : Sl r f U s) : Sl r f' U' s := by
  obtain ⟨tl, w⟩ := S
  refine ⟨tl, ?_⟩
  rcases w with st | ⟨st, p0, p1⟩ | ⟨st, p0, p1, p2⟩ | ⟨st, p0, p1, p2⟩
  · exact .inl st
  · exact .inr (.inl ⟨st, p0, by omega⟩)
  · exact .inr (.inr (.inl ⟨st, p0, by omega, fun e => by rw [h0]; exact (h (p2 (by omega))).1⟩))
  · refine .inr (.inr (.inr ⟨st, p0, by omega, fun e => ?_⟩))
    obtain ⟨a, b⟩ := p2 (by omega)
    obtain ⟨c, d⟩ := h a
    rw [h0]
    exact ⟨c, by rw [d]; exact b⟩
theorem Sl.up (h0 : f 0 < f' 0) {s : DeS} (S : Sl r f U s) : Sl r f' U' s := by
  obtain ⟨tl, w⟩ := S
  refine ⟨tl, ?_⟩
  rcases w with st | ⟨st, p0, p1⟩ | ⟨st, p0, p1, p2⟩ | ⟨st, p0, p1, p2⟩
  · exact .inl st
  · exact .inr (.inl ⟨st, p0, by omega⟩)
  · exact .inr (.inr (.inl ⟨st, p0, by omega, fun e => by omega⟩))
  · exact .inr (.inr (.inr ⟨st, p0, by omega, fun e => by omega⟩))

theorem Kn.same {kind : Int} {a : Ans} (h : lst r f' B' pd' = lst r f B pd) : Kn r f f' B B' pd pd' kind false a := by
  unfold Kn; rw [if_neg (by simp)]; exact ⟨h, fun e => by cases e⟩
theorem Kn.none {kind : Int} {en : Bool} (h : lst r f' B' pd' = lst r f B pd) : Kn r f f' B B' pd pd' kind en no := by
  unfold Kn; rw [if_neg (by simp [no])]; exact ⟨h, fun _ => rfl⟩

theorem lst_put1 {v : Int} (hr1 : 1 ≤ r) : lst r (putF f 1 v) B pd = lst r f B pd := by
  unfold lst
  rw [putF_other (by omega)]
  rw [std_congr _ (fun i hi => putF_other (by have := sl_lo hr1 (f 0 + i); omega))]

/-- What is said of a step of hand 0 at a Lay or a Draw. -/
structure On (r : Nat) (f f' : Nat → Int) (B U : Int) (pd : List Int) (k : Nat) (s s' : DeS) (en : Bool) (B' U' : Int) (pd' : List Int) : Prop where
  b : 0 ≤ f' 0 ∧ f' 0 ≤ U' ∧ U' ≤ B' ∧ B' ≤ k + 1 ∧ B' ≤ f' 0 + r
  sk : ∀ t, Sl r f U t → Sl r f' U' t
  go : en = false → Ow r f' B' U' pd' s'
  ie : en = true → Id f' B' U' pd'
  kn : Kn r f f' B B' pd pd' s.j.kind en s'.told

set_option maxHeartbeats 2000000 in
theorem Ow.step (hr1 : 1 ≤ r) (hr2 : r ≤ 64) {n : Nat} (hn : n = 2 + r) (hk : k ≤ 65536) (b : 0 ≤ f 0 ∧ f 0 ≤ U ∧ U ≤ B ∧ B ≤ k ∧ B ≤ f 0 + r) {s : DeS} (O : Ow r f B U pd s) {x : Stp} (hx : stepOf n f (dreq r s) = x) (hf : wordsOf n f (dreq r s) = f') :
    ∃ B' U' pd', On r f f' B U pd k s (dnext r s x) (dends r s x) B' U' pd' := by
  have b' : 0 ≤ f 0 ∧ f 0 ≤ U ∧ U ≤ B ∧ B ≤ (k : Int) + 1 ∧ B ≤ f 0 + r := by omega
  rcases O with ⟨k1, eU, ep, f1, tl, w⟩ | ⟨k2, w⟩
  · rcases w with st | ⟨st, en⟩ | ⟨st, en, br⟩ | ⟨st, en, br, sv⟩
    · have e4 : dreq r s = ⟨s.hand, 1, ((1 : Nat) : Int), 0, 0, true⟩ := by simp [dreq, k1, st]
      rw [e4, ld_step _ (by omega)] at hx
      rw [e4, ld_words _ (by omega)] at hf
      subst hf
      have e5 : dends r s x = false := by simp [dends, k1, st]
      have e7 : dnext r s x = { s with en := x.had, st := 2 } := by simp [dnext, k1, st]
      refine ⟨B, U, pd, b', fun t S => S, fun _ => ?_, fun e => (by rw [e5] at e; cases e), by rw [e5]; exact Kn.same rfl⟩
      rw [e7]
      exact .inl ⟨k1, eU, ep, f1, tl, .inr (.inl ⟨rfl, by show x.had = B; rw [← hx]; exact f1⟩)⟩
    · have e4 : dreq r s = ⟨s.hand, 1, ((0 : Nat) : Int), 0, 0, true⟩ := by simp [dreq, k1, st]
      rw [e4, ld_step _ (by omega)] at hx
      rw [e4, ld_words _ (by omega)] at hf
      subst hf
      have xh : x.had = f 0 := by rw [← hx]
      have ah : ahd s.en x.had = B - f 0 := by rw [en, xh, ahd_d ⟨by omega, by omega⟩]
      by_cases c : (r : Int) ≤ B - f 0
      · have c' : (r : Int) ≤ ahd s.en x.had := by omega
        have e5 : dends r s x = true := by simp [dends, k1, st, c']
        have e7 : dnext r s x = { s with fst := x.had, st := 2 } := by simp [dnext, k1, st, c']
        refine ⟨B, U, pd, b', fun t S => S, fun e => (by rw [e5] at e; cases e), fun _ => ⟨f1, eU, ep⟩, ?_⟩
        rw [e5, e7]
        show Kn _ _ _ _ _ _ _ _ _ s.told
        rw [tl]
        exact Kn.none rfl
      · have c' : ¬ (r : Int) ≤ ahd s.en x.had := by omega
        have e5 : dends r s x = false := by simp [dends, k1, st, c']
        have e7 : dnext r s x = { s with fst := x.had, st := 3 } := by simp [dnext, k1, st, c']
        refine ⟨B, U, pd, b', fun t S => S, fun _ => ?_, fun e => (by rw [e5] at e; cases e), by rw [e5]; exact Kn.same rfl⟩
        rw [e7]
        exact .inl ⟨k1, eU, ep, f1, tl, .inr (.inr (.inl ⟨rfl, en, by omega⟩))⟩
    · obtain ⟨q1, q2, q3⟩ := sl_lo hr1 B
      have e4 : dreq r s = ⟨s.hand, 2, ((sl r B : Nat) : Int), 0, s.val, true⟩ := by simp [dreq, k1, st, en, q3]
      rw [e4, st_words _ _ (by omega)] at hf
      have e5 : dends r s x = false := by simp [dends, k1, st]
      have e7 : dnext r s x = { s with st := 5 } := by simp [dnext, k1, st]
      have g0 : f' 0 = f 0 := by rw [← hf, putF_other (by omega)]
      have g1 : f' 1 = f 1 := by rw [← hf, putF_other (by omega)]
      have gs : ∀ m : Int, f 0 ≤ m → m < B → f' (sl r m) = f (sl r m) := fun m h1 h2 => by rw [← hf, putF_other (sl_ne h2 (by omega))]
      refine ⟨B, U, pd, by rw [g0]; exact b', fun t S => S.keep g0 (fun l => ⟨l, gs _ (Int.le_refl _) (by omega)⟩), fun _ => ?_, fun e => (by rw [e5] at e; cases e), ?_⟩
      · rw [e7]
        exact .inl ⟨k1, eU, ep, by rw [g1]; exact f1, tl, .inr (.inr (.inr ⟨rfl, en, by rw [g0]; exact br, by rw [← hf]; exact putF_same⟩))⟩
      · rw [e5]
        refine Kn.same ?_
        unfold lst
        rw [g0, std_congr _ (fun i hi => gs (f 0 + i) (by omega) (by omega))]
    · have e4 : dreq r s = ⟨s.hand, 2, ((1 : Nat) : Int), 0, B + 1, true⟩ := by simp [dreq, k1, st, en, u64_sm (show 0 ≤ B + 1 ∧ B + 1 ≤ 100000 by omega)]
      rw [e4, st_words _ _ (by omega)] at hf
      have e5 : dends r s x = true := by simp [dends, k1, st]
      have e7 : dnext r s x = { s with told := ⟨true, s.val⟩ } := by simp [dnext, k1, st]
      have g0 : f' 0 = f 0 := by rw [← hf, putF_other (by omega)]
      have gs : ∀ m : Int, f' (sl r m) = f (sl r m) := fun m => by rw [← hf, putF_other (by have := sl_lo hr1 m; omega)]
      refine ⟨B + 1, B + 1, pd, by rw [g0]; omega, fun t S => S.keep g0 (fun l => ⟨by omega, gs _⟩), fun e => (by rw [e5] at e; cases e), fun _ => ⟨by rw [← hf]; exact putF_same, rfl, ep⟩, ?_⟩
      rw [e5, e7]
      unfold Kn
      rw [if_pos ⟨rfl, rfl⟩, if_pos k1]
      unfold lst
      rw [g0, show (B + 1 - f 0).toNat = (B - f 0).toNat + 1 by omega, ep]
      show (std r f' (f 0) (B - f 0).toNat ++ [f' (sl r (f 0 + ((B - f 0).toNat : Int)))]) ++ [] = (std r f (f 0) (B - f 0).toNat ++ []) ++ [s.val]
      rw [std_congr (f := f') (f' := f) _ (fun i hi => gs (f 0 + i)), gs, show f 0 + ((B - f 0).toNat : Int) = B by omega, sv]
      simp
  · rcases w with ⟨st, f1, eU, ep, tl⟩ | ⟨st, f1, en, eU, ep, tl⟩ | ⟨st, f1, en, eU, ep, tl⟩ | ⟨st, f1, en, p0, p1, eU, ep, tl⟩ | ⟨st, f1, en, p0, p1, p2, eU, ep, tl⟩ | ⟨st, f1, en, p0, p1, p2, sv, eU, ep, tl⟩ | ⟨st, f1, en, p0, eU, ep⟩
    · have e4 : dreq r s = ⟨s.hand, 1, ((1 : Nat) : Int), 0, 0, true⟩ := by simp [dreq, k2, st]
      rw [e4, ld_step _ (by omega)] at hx
      rw [e4, ld_words _ (by omega)] at hf
      subst hf
      have e5 : dends r s x = false := by simp [dends, k2, st]
      have e7 : dnext r s x = { s with en := u64 (x.had - 1), st := 1 } := by simp [dnext, k2, st]
      refine ⟨B, U, pd, b', fun t S => S, fun _ => ?_, fun e => (by rw [e5] at e; cases e), by rw [e5]; exact Kn.same rfl⟩
      rw [e7]
      exact .inr ⟨k2, .inr (.inl ⟨rfl, f1, by show u64 (x.had - 1) = _; rw [← hx, ← f1], eU, ep, tl⟩)⟩
    · have e4 : dreq r s = ⟨s.hand, 2, ((1 : Nat) : Int), 0, s.en, true⟩ := by simp [dreq, k2, st]
      rw [e4, st_words _ _ (by omega)] at hf
      have e5 : dends r s x = false := by simp [dends, k2, st]
      have e7 : dnext r s x = { s with st := 2 } := by simp [dnext, k2, st]
      have g0 : f' 0 = f 0 := by rw [← hf, putF_other (by omega)]
      have gs : ∀ m : Int, f' (sl r m) = f (sl r m) := fun m => by rw [← hf, putF_other (by have := sl_lo hr1 m; omega)]
      refine ⟨B, U, pd, by rw [g0]; exact b', fun t S => S.keep g0 (fun l => ⟨l, gs _⟩), fun _ => ?_, fun e => (by rw [e5] at e; cases e), by rw [e5]; exact Kn.same (by rw [← hf]; exact lst_put1 hr1)⟩
      rw [e7]
      exact .inr ⟨k2, .inr (.inr (.inl ⟨rfl, by rw [← hf, ← en]; exact putF_same, en, eU, ep, tl⟩))⟩
    · have e4 : dreq r s = ⟨s.hand, 1, ((0 : Nat) : Int), 0, 0, true⟩ := by simp [dreq, k2, st]
      rw [e4, ld_step _ (by omega)] at hx
      rw [e4, ld_words _ (by omega)] at hf
      subst hf
      have xh : x.had = f 0 := by rw [← hx]
      have ah : ahd s.en x.had = B - 1 - f 0 := by rw [en, xh, ahd_e ⟨by omega, by omega⟩]
      have e5 : dends r s x = false := by simp [dends, k2, st]
      by_cases c : B - 1 - f 0 < 0
      · have c' : ahd s.en x.had < 0 := by omega
        have e7 : dnext r s x = { s with fst := x.had, st := 5 } := by simp [dnext, k2, st, c']
        refine ⟨B, U, pd, b', fun t S => S, fun _ => ?_, fun e => (by rw [e5] at e; cases e), by rw [e5]; exact Kn.same rfl⟩
        rw [e7]
        exact .inr ⟨k2, .inr (.inr (.inr (.inr (.inr (.inr ⟨rfl, f1, en, by omega, eU, .inl ⟨tl, ep⟩⟩)))))⟩
      · have c' : ¬ ahd s.en x.had < 0 := by omega
        have e7 : dnext r s x = { s with fst := x.had, st := 3 } := by simp [dnext, k2, st, c']
        by_cases d : f 0 < B - 1
        · refine ⟨B, B - 1, pd, by omega, fun t S => S.keep rfl (fun l => ⟨d, rfl⟩), fun _ => ?_, fun e => (by rw [e5] at e; cases e), by rw [e5]; exact Kn.same rfl⟩
          rw [e7]
          exact .inr ⟨k2, .inr (.inr (.inr (.inl ⟨rfl, f1, en, by show 0 ≤ x.had; omega, by show x.had < _; omega, rfl, ep, tl⟩)))⟩
        · refine ⟨B, U, pd, b', fun t S => S, fun _ => ?_, fun e => (by rw [e5] at e; cases e), by rw [e5]; exact Kn.same rfl⟩
          rw [e7]
          exact .inr ⟨k2, .inr (.inr (.inr (.inr (.inl ⟨rfl, f1, en, by show 0 ≤ x.had; omega, by show x.had = _; omega, by show x.had ≤ _; omega, eU, ep, tl⟩))))⟩
    · obtain ⟨q1, q2, q3⟩ := sl_lo hr1 (B - 1)
      have eu : s.en = B - 1 := by rw [en]; exact u64_sm ⟨by omega, by omega⟩
      have e4 : dreq r s = ⟨s.hand, 1, ((sl r (B - 1) : Nat) : Int), 0, 0, true⟩ := by simp [dreq, k2, st, eu, q3]
      rw [e4, ld_step _ (by omega)] at hx
      rw [e4, ld_words _ (by omega)] at hf
      subst hf
      have ah : 0 < ahd s.en s.fst := by rw [eu, ahd_d ⟨by omega, by omega⟩]; omega
      have e5 : dends r s x = true := by simp [dends, k2, st, ah]
      have e7 : dnext r s x = { s with val := x.had, st := 4, told := ⟨true, x.had⟩ } := by simp [dnext, k2, st, ah]
      refine ⟨B - 1, B - 1, pd, by omega, fun t S => by rw [eU] at S; exact S, fun e => (by rw [e5] at e; cases e), fun _ => ⟨by rw [f1, ← en, eu], rfl, ep⟩, ?_⟩
      rw [e5, e7]
      unfold Kn
      rw [if_pos ⟨rfl, rfl⟩, if_neg (by omega)]
      unfold lst
      rw [ep, show (B - f 0).toNat = (B - 1 - f 0).toNat + 1 by omega]
      show ((std r f (f 0) (B - 1 - f 0).toNat ++ [f (sl r (f 0 + ((B - 1 - f 0).toNat : Int)))]) ++ []).Perm (x.had :: (std r f (f 0) (B - 1 - f 0).toNat ++ []))
      rw [show f 0 + ((B - 1 - f 0).toNat : Int) = B - 1 by omega, List.append_nil, List.append_nil, ← hx]
      exact List.perm_append_singleton _ _
    · obtain ⟨q1, q2, q3⟩ := sl_lo hr1 (B - 1)
      have eu : s.en = B - 1 := by rw [en]; exact u64_sm ⟨by omega, by omega⟩
      have e4 : dreq r s = ⟨s.hand, 1, ((sl r (B - 1) : Nat) : Int), 0, 0, true⟩ := by simp [dreq, k2, st, eu, q3]
      rw [e4, ld_step _ (by omega)] at hx
      rw [e4, ld_words _ (by omega)] at hf
      subst hf
      have ah : ¬ 0 < ahd s.en s.fst := by rw [eu, ahd_d ⟨by omega, by omega⟩]; omega
      have e5 : dends r s x = false := by simp [dends, k2, st, ah]
      have e7 : dnext r s x = { s with val := x.had, st := 4 } := by simp [dnext, k2, st, ah]
      refine ⟨B, U, pd, b', fun t S => S, fun _ => ?_, fun e => (by rw [e5] at e; cases e), by rw [e5]; exact Kn.same rfl⟩
      rw [e7]
      exact .inr ⟨k2, .inr (.inr (.inr (.inr (.inr (.inl ⟨rfl, f1, en, p0, p1, p2, by show x.had = _; rw [← hx], eU, ep, tl⟩)))))⟩
    · have e4 : dreq r s = ⟨s.hand, 5, ((0 : Nat) : Int), s.fst, s.fst + 1, true⟩ := by simp [dreq, k2, st, u64_sm (show 0 ≤ s.fst + 1 ∧ s.fst + 1 ≤ 100000 by omega)]
      rw [e4] at hx hf
      have e5 : dends r s x = false := by simp [dends, k2, st]
      by_cases e : f 0 = s.fst
      · obtain ⟨c1, c2⟩ := cas_yes (n := n) (f := f) (a := 0) s.hand s.fst (s.fst + 1) (by omega) e
        rw [c1] at hx
        rw [c2] at hf
        have xo : x.ok = true := by rw [← hx]
        have e7 : dnext r s x = { s with st := 5, told := ⟨true, s.val⟩ } := by simp [dnext, k2, st, xo]
        have g0 : f' 0 = B := by rw [← hf, putF_same]; omega
        have g1 : f' 1 = f 1 := by rw [← hf, putF_other (by omega)]
        refine ⟨B, U, [s.val], by rw [g0]; omega, fun t S => S.up (by omega), fun _ => ?_, fun e => (by rw [e5] at e; cases e), ?_⟩
        · rw [e7]
          exact .inr ⟨k2, .inr (.inr (.inr (.inr (.inr (.inr ⟨rfl, by rw [g1]; exact f1, en, g0, eU, .inr ⟨rfl, rfl⟩⟩)))))⟩
        · rw [e5]
          refine Kn.same ?_
          unfold lst
          rw [g0, ep, show (B - B).toNat = 0 by omega, show (B - f 0).toNat = 1 by omega]
          show [s.val] = [f (sl r (f 0 + ((0 : Nat) : Int)))] ++ []
          rw [sv, show f 0 + ((0 : Nat) : Int) = B - 1 by omega]
          rfl
      · obtain ⟨c1, c2⟩ := cas_no (n := n) (f := f) (a := 0) s.hand s.fst (s.fst + 1) (by omega) e
        rw [c1] at hx
        rw [c2] at hf
        subst hf
        have xo : x.ok = false := by rw [← hx]
        have e7 : dnext r s x = { s with st := 5 } := by simp [dnext, k2, st, xo]
        refine ⟨B, U, pd, b', fun t S => S, fun _ => ?_, fun e => (by rw [e5] at e; cases e), by rw [e5]; exact Kn.same rfl⟩
        rw [e7]
        exact .inr ⟨k2, .inr (.inr (.inr (.inr (.inr (.inr ⟨rfl, f1, en, by omega, eU, .inl ⟨tl, ep⟩⟩)))))⟩
    · have ub : u64 (s.en + 1) = B := by rw [en]; unfold u64; omega
      have e4 : dreq r s = ⟨s.hand, 2, ((1 : Nat) : Int), 0, B, true⟩ := by simp [dreq, k2, st, ub]
      rw [e4, st_words _ _ (by omega)] at hf
      have e5 : dends r s x = true := by simp [dends, k2, st]
      have e7 : dnext r s x = s := by simp [dnext, k2, st]
      have g0 : f' 0 = f 0 := by rw [← hf, putF_other (by omega)]
      have gs : ∀ m : Int, f' (sl r m) = f (sl r m) := fun m => by rw [← hf, putF_other (by have := sl_lo hr1 m; omega)]
      refine ⟨B, U, [], by rw [g0]; exact b', fun t S => S.keep g0 (fun l => ⟨l, gs _⟩), fun e => (by rw [e5] at e; cases e), fun _ => ⟨by rw [← hf]; exact putF_same, eU, rfl⟩, ?_⟩
      rw [e5, e7]
      rcases ep with ⟨tl, ep⟩ | ⟨tl, ep⟩
      · rw [tl, ep]
        exact Kn.none (by rw [← hf]; exact lst_put1 hr1)
      · rw [tl, ep]
        unfold Kn
        rw [if_pos ⟨rfl, rfl⟩, if_neg (by omega)]
        unfold lst
        rw [g0, show (B - f 0).toNat = 0 by omega]
        exact List.Perm.refl _
theorem Hd.init {j : Nat} {N : Nat} {J : Jb} (hok : j < N → derr (h : Int) J = 0) (I : h = 0 → Id f B U pd) : Hd r f B U pd h (j < N) (dinit (h : Int) J) := by
  refine ⟨fun g => ⟨rfl, ?_⟩, fun g k3 => ⟨rfl, .inl rfl⟩, fun h0 g n3 => ?_, fun h0 _ => I h0⟩
  · have e := hok g
    show J.kind = 3 ∨ (h = 0 ∧ (J.kind = 1 ∨ J.kind = 2))
    unfold derr at e
    split at e
    · cases e
    · split at e
      · omega
      · split at e
        · omega
        · cases e
  · have e := hok g
    obtain ⟨i1, i2, i3⟩ := I h0
    have k12 : J.kind = 1 ∨ J.kind = 2 := by
      have n3 : ¬ J.kind = 3 := n3
      unfold derr at e
      split at e
      · cases e
      · omega
    rcases k12 with k1 | k2
    · exact .inl ⟨k1, i2, i3, i1, rfl, .inl rfl⟩
    · exact .inr ⟨k2, .inl ⟨rfl, i1, i2, i3, rfl⟩⟩

/-- A hand that does not step. -/
theorem Hd.keep {g : Prop} {s : DeS} (H : Hd r f B U pd h g s) (hs : ∀ t, Sl r f U t → Sl r f' U' t) (ho : h = 0 → Ow r f B U pd s → Ow r f' B' U' pd' s) (hi : h = 0 → Id f B U pd → Id f' B' U' pd') : Hd r f' B' U' pd' h g s :=
  ⟨H.1, fun g' k3 => hs _ (H.2.1 g' k3), fun h0 g' n3 => ho h0 (H.2.2.1 h0 g' n3), fun h0 o => hi h0 (H.2.2.2 h0 o)⟩

theorem Ow.up (hr1 : 1 ≤ r) (lt : f 0 < U) {s : DeS} (O : Ow r f B U pd s) : Ow r (putF f 0 (f 0 + 1)) B U pd s := by
  have g0 : putF f 0 (f 0 + 1) 0 = f 0 + 1 := putF_same
  have g1 : putF f 0 (f 0 + 1) 1 = f 1 := putF_other (by omega)
  have gs : ∀ m : Int, putF f 0 (f 0 + 1) (sl r m) = f (sl r m) := fun m => putF_other (by have := sl_lo hr1 m; omega)
  unfold Ow at O ⊢
  rw [g0, g1, gs, gs]
  rcases O with ⟨k1, eU, ep, f1, tl, w⟩ | ⟨k2, w⟩
  · refine .inl ⟨k1, eU, ep, f1, tl, ?_⟩
    rcases w with st | ⟨st, en⟩ | ⟨st, en, br⟩ | ⟨st, en, br, sv⟩
    · exact .inl st
    · exact .inr (.inl ⟨st, en⟩)
    · exact .inr (.inr (.inl ⟨st, en, by omega⟩))
    · exact .inr (.inr (.inr ⟨st, en, by omega, sv⟩))
  · refine .inr ⟨k2, ?_⟩
    rcases w with w | w | w | w | ⟨st, f1, en, p0, p1, p2, eU, ep, tl⟩ | ⟨st, f1, en, p0, p1, p2, sv, eU, ep, tl⟩ | ⟨st, f1, en, p0, eU, ep⟩
    · exact .inl w
    · exact .inr (.inl w)
    · exact .inr (.inr (.inl w))
    · exact .inr (.inr (.inr (.inl w)))
    · exact .inr (.inr (.inr (.inr (.inl ⟨st, f1, en, p0, p1, by omega, eU, ep, tl⟩))))
    · exact .inr (.inr (.inr (.inr (.inr (.inl ⟨st, f1, en, p0, p1, by omega, sv, eU, ep, tl⟩)))))
    · exact absurd lt (by omega)

/-- Where bottom stands, to those who steal. -/
theorem Dv.f1 (hk : k ≤ 65536) (D : Dv r P f done cur B U pd k) : f 1 = U ∨ f 1 = u64 (U - 1) := by
  have b := D.b
  have id : Id f B U pd → f 1 = U ∨ f 1 = u64 (U - 1) := fun i => .inl (i.1.trans i.2.1.symm)
  rcases Nat.eq_zero_or_pos P.nh with z | z
  · exact id (D.nx z)
  · have H := D.hd 0 z
    by_cases g : done 0 < P.jn 0 ∧ ¬ (cur 0).j.kind = 3
    · rcases H.2.2.1 rfl g.1 g.2 with ⟨k1, eU, ep, f1, tl, w⟩ | ⟨k2, w⟩
      · exact .inl (by omega)
      · rcases w with ⟨st, f1, eU, ep, tl⟩ | ⟨st, f1, en, eU, ep, tl⟩ | ⟨st, f1, en, eU, ep, tl⟩ | ⟨st, f1, en, p0, p1, eU, ep, tl⟩ | ⟨st, f1, en, p0, p1, p2, eU, ep, tl⟩ | ⟨st, f1, en, p0, p1, p2, sv, eU, ep, tl⟩ | ⟨st, f1, en, p0, eU, ep⟩
        · exact .inl (by omega)
        · exact .inl (by omega)
        · exact .inr (by rw [eU]; exact f1)
        · left; rw [eU, f1]; unfold u64; omega
        · exact .inr (by rw [eU]; exact f1)
        · exact .inr (by rw [eU]; exact f1)
        · exact .inr (by rw [eU]; exact f1)
    · exact id (H.2.2.2 rfl (by
        by_cases g1 : done 0 < P.jn 0
        · exact .inr (Decidable.of_not_not fun t => g ⟨g1, t⟩)
        · exact .inl g1))

set_option maxHeartbeats 1000000 in
theorem Dv.step (hr1 : 1 ≤ r) (hr2 : r ≤ 64) (hn : P.n = 2 + r) (hok : ∀ h, h < P.nh → ∀ j, j < P.jn h → derr (h : Int) (P.jb h j) = 0) (hk : k ≤ 65535) (D : Dv r P f done cur B U pd k) (hh : h < P.nh) (hd : done h < P.jn h) {x : Stp} (hx : stepOf P.n f (dreq r (cur h)) = x) (hf : wordsOf P.n f (dreq r (cur h)) = f') :
    ∃ B' U' pd', Dv r P f' (if dends r (cur h) x = true then upd done h (done h + 1) else done) (upd cur h (if dends r (cur h) x = true then dinit (h : Int) (P.jb h (done h + 1)) else dnext r (cur h) x)) B' U' pd' (k + 1) ∧ Kn r f f' B B' pd pd' (cur h).j.kind (dends r (cur h) x) (dnext r (cur h) x).told := by
  have H := D.hd h hh
  obtain ⟨hha, hkd⟩ := H.1 hd
  have nx' : P.nh = 0 → ∀ B' U' pd', Id f' B' U' pd' := fun z => by omega
  have jn : ∀ y, (dnext r (cur h) y).j = (cur h).j ∧ (dnext r (cur h) y).hand = (cur h).hand := fun y => by
    unfold dnext
    constructor <;> (repeat' split) <;> rfl
  -- what stands behind the step, out of its parts
  have all : ∀ B' U' pd', (0 ≤ f' 0 ∧ f' 0 ≤ U' ∧ U' ≤ B' ∧ B' ≤ (k : Int) + 1 ∧ B' ≤ f' 0 + r) → (∀ t, Sl r f U t → Sl r f' U' t) → (h ≠ 0 → ∀ s, Ow r f B U pd s → Ow r f' B' U' pd' s) → (h ≠ 0 → Id f B U pd → Id f' B' U' pd') →
      (dends r (cur h) x = true → h = 0 → Id f' B' U' pd') → (dends r (cur h) x = false → Hd r f' B' U' pd' h (done h < P.jn h) (dnext r (cur h) x)) →
      Dv r P f' (if dends r (cur h) x = true then upd done h (done h + 1) else done) (upd cur h (if dends r (cur h) x = true then dinit (h : Int) (P.jb h (done h + 1)) else dnext r (cur h) x)) B' U' pd' (k + 1) := fun B' U' pd' b sk ho hi he hg => by
    refine ⟨by rw [Int.natCast_add]; exact b, fun i hi' => ?_, fun z => nx' z _ _ _⟩
    by_cases e : i = h
    · subst e
      rw [upd_same]
      cases en : dends r (cur i) x with
      | true =>
        rw [if_pos rfl, if_pos rfl, upd_same]
        exact Hd.init (fun l => hok i hi' _ l) (he en)
      | false =>
        rw [if_neg (by simp), if_neg (by simp)]
        exact hg en
    · rw [upd_other _ _ e]
      have ed : (if dends r (cur h) x = true then upd done h (done h + 1) else done) i = done i := by
        split
        · exact upd_other _ _ e
        · rfl
      rw [ed]
      exact (D.hd i hi').keep sk (fun z => ho (by omega) _) (fun z => hi (by omega))
  rcases hkd with k3 | ⟨h0, k12⟩
  · have S := H.2.1 hd k3
    rcases S.step hr1 hr2 hn (by omega) D.b (D.f1 (by omega)) k3 hx hf with ⟨en, ef, S'⟩ | ⟨en, ef, tl⟩ | ⟨en, ef, lt, tl⟩
    · subst ef
      refine ⟨B, U, pd, all B U pd (by have := D.b; omega) (fun t S => S) (fun _ s O => O) (fun _ I => I) (fun e => by rw [en] at e; cases e) (fun _ => ?_), by rw [en]; exact Kn.same rfl⟩
      refine ⟨fun _ => ⟨by rw [(jn x).2]; exact hha, .inl (by rw [(jn x).1]; exact k3)⟩, fun _ _ => S', fun z _ n3 => absurd (by rw [(jn x).1]; exact k3) n3, fun z _ => H.2.2.2 z (.inr k3)⟩
    · subst ef
      refine ⟨B, U, pd, all B U pd (by have := D.b; omega) (fun t S => S) (fun _ s O => O) (fun _ I => I) (fun _ z => H.2.2.2 z (.inr k3)) (fun e => by rw [en] at e; cases e), by rw [tl]; exact Kn.none rfl⟩
    · have g0 : f' 0 = f 0 + 1 := by rw [ef]; exact putF_same
      have g1 : f' 1 = f 1 := by rw [ef]; exact putF_other (by omega)
      have gs : ∀ m : Int, f' (sl r m) = f (sl r m) := fun m => by rw [ef]; exact putF_other (by have := sl_lo hr1 m; omega)
      have bb := D.b
      refine ⟨B, U, pd, all B U pd (by omega) (fun t S => S.up (by omega)) (fun _ s O => by rw [ef]; exact O.up hr1 lt) (fun _ I => ⟨by rw [g1]; exact I.1, I.2⟩) (fun _ z => ⟨by rw [g1]; exact (H.2.2.2 z (.inr k3)).1, (H.2.2.2 z (.inr k3)).2⟩) (fun e => by rw [en] at e; cases e), ?_⟩
      rw [en, tl]
      unfold Kn
      rw [if_pos ⟨rfl, rfl⟩, if_neg (by omega)]
      unfold lst
      rw [g0, show (B - f 0).toNat = (B - (f 0 + 1)).toNat + 1 by omega, std_cons, std_congr (f := f') (f' := f) _ (fun i hi => gs _)]
      exact List.Perm.refl _
  · have O := H.2.2.1 h0 hd (by omega)
    obtain ⟨B', U', pd', N⟩ := Ow.step hr1 hr2 hn (by omega) D.b O hx hf
    refine ⟨B', U', pd', all B' U' pd' N.b N.sk (fun z => absurd h0 z) (fun z => absurd h0 z) (fun e _ => N.ie e) (fun e => ?_), N.kn⟩
    refine ⟨fun _ => ⟨by rw [(jn x).2]; exact hha, .inr ⟨h0, by rw [(jn x).1]; exact k12⟩⟩, fun _ k3 => absurd k3 (by rw [(jn x).1]; omega), fun _ _ _ => N.go e, fun _ o => ?_⟩
    rcases o with o | o
    · exact absurd hd o
    · exact absurd o (by rw [(jn x).1]; omega)

theorem dv_start (hr1 : 1 ≤ r) (hok : ∀ h, h < P.nh → ∀ j, j < P.jn h → derr (h : Int) (P.jb h j) = 0) : Dv r P (fun _ => 0) (fun _ => 0) (fun h => dinit (h : Int) (P.jb h 0)) 0 0 [] 0 :=
  ⟨⟨Int.le_refl 0, Int.le_refl 0, Int.le_refl 0, Int.le_refl 0, by omega⟩, fun h hh => Hd.init (fun l => hok h hh 0 l) (fun _ => ⟨rfl, rfl, rfl⟩), fun _ => ⟨rfl, rfl, rfl⟩⟩
end Deal
end Go.Proofs.Ytdgolkdedghajaa

/-
  DealOnce: the law's own word on which step ends a job.
-/
namespace Go.Proofs.Ytdgolkdedghajaa
open Go.RowKit
set_option linter.unusedVariables false
set_option linter.unusedSimpArgs false
set_option maxRecDepth 20000
namespace Deal

/-- As the law reckons it: m steps were made, x is the next. -/
def lends (r : Nat) (kind : Int) (g : Nat → Stp) (m : Nat) (x : Stp) : Bool :=
  if kind = 1 then decide (m + 1 = 4 ∨ (m + 1 = 2 ∧ (r : Int) ≤ ahd (g 0).had x.had))
  else if kind = 2 then decide (3 < m + 1 ∧ (x.act = 2 ∨ (x.act = 1 ∧ 0 < ahd (g 1).put (g 2).had)))
  else decide ((x.act = 5 ∧ x.ok = true) ∨ (x.act = 1 ∧ x.at_ = 1 ∧ 1 < m + 1 ∧ ahd x.had (g (m - 1)).had ≤ 0))

/-- The steps that were made, and the task's state. -/
def Mq (s : DeS) (m : Nat) (g : Nat → Stp) : Prop :=
  (s.j.kind = 1 ∧ ((s.st = 0 ∧ m = 0) ∨ (s.st = 2 ∧ m = 1 ∧ (g 0).had = s.en) ∨ (s.st = 3 ∧ m = 2) ∨ (s.st = 5 ∧ m = 3))) ∨
  (s.j.kind = 2 ∧ ((s.st = 0 ∧ m = 0) ∨ (s.st = 1 ∧ m = 1) ∨ (s.st = 2 ∧ m = 2 ∧ (g 1).put = s.en) ∨ (s.st = 3 ∧ m = 3 ∧ (g 1).put = s.en ∧ (g 2).had = s.fst) ∨ (s.st = 4 ∧ m = 4) ∨ (s.st = 5 ∧ 3 ≤ m))) ∨
  (s.j.kind = 3 ∧ (s.st = 0 ∨ (s.st = 2 ∧ 1 ≤ m ∧ (g (m - 1)).had = s.fst) ∨ s.st = 3 ∨ s.st = 4))

theorem Mq.init {hh : Int} {J : Jb} {g : Nat → Stp} (hk : J.kind = 1 ∨ J.kind = 2 ∨ J.kind = 3) : Mq (dinit hh J) 0 g := by
  rcases hk with h | h | h
  · exact .inl ⟨h, .inl ⟨rfl, rfl⟩⟩
  · exact .inr (.inl ⟨h, .inl ⟨rfl, rfl⟩⟩)
  · exact .inr (.inr ⟨h, .inl rfl⟩)

theorem step_act (n : Nat) (f : Nat → Int) (q : Stp) (h : q.act = 1 ∨ q.act = 2 ∨ q.act = 5) : (stepOf n f q).act = q.act ∧ (stepOf n f q).at_ = q.at_ := by
  have e : actOf q.act = q.act := by rcases h with h | h | h <;> rw [h] <;> rfl
  unfold stepOf
  split <;> exact ⟨e, rfl⟩

set_option maxHeartbeats 1000000 in
theorem Mq.step {r n : Nat} (hr1 : 1 ≤ r) (hn : n = 2 + r) {f : Nat → Int} {s : DeS} {m : Nat} {g : Nat → Stp} (M : Mq s m g) {x : Stp} (hx : stepOf n f (dreq r s) = x) :
    lends r s.j.kind g m x = dends r s x ∧ (dends r s x = false → Mq (dnext r s x) (m + 1) (upd g m x)) := by
  rcases M with ⟨k1, w⟩ | ⟨k2, w⟩ | ⟨k3, w⟩
  · rcases w with ⟨st, rfl⟩ | ⟨st, rfl, g0⟩ | ⟨st, rfl⟩ | ⟨st, rfl⟩
    · refine ⟨by simp [lends, dends, k1, st], fun _ => ?_⟩
      have e7 : dnext r s x = { s with en := x.had, st := 2 } := by simp [dnext, k1, st]
      rw [e7]
      exact .inl ⟨k1, .inr (.inl ⟨rfl, rfl, by rw [upd_same]⟩)⟩
    · refine ⟨by simp [lends, dends, k1, st, g0], fun e => ?_⟩
      have c : ¬ (r : Int) ≤ ahd s.en x.had := by simpa [dends, k1, st] using e
      have e7 : dnext r s x = { s with fst := x.had, st := 3 } := by simp [dnext, k1, st, c]
      rw [e7]
      exact .inl ⟨k1, .inr (.inr (.inl ⟨rfl, rfl⟩))⟩
    · refine ⟨by simp [lends, dends, k1, st], fun _ => ?_⟩
      have e7 : dnext r s x = { s with st := 5 } := by simp [dnext, k1, st]
      rw [e7]
      exact .inl ⟨k1, .inr (.inr (.inr ⟨rfl, rfl⟩))⟩
    · exact ⟨by simp [lends, dends, k1, st], fun e => by simp [dends, k1, st] at e⟩
  · rcases w with ⟨st, rfl⟩ | ⟨st, rfl⟩ | ⟨st, rfl, g1⟩ | ⟨st, rfl, g1, g2⟩ | ⟨st, rfl⟩ | ⟨st, h3⟩
    · refine ⟨by simp [lends, dends, k2, st], fun _ => ?_⟩
      have e7 : dnext r s x = { s with en := u64 (x.had - 1), st := 1 } := by simp [dnext, k2, st]
      rw [e7]
      exact .inr (.inl ⟨k2, .inr (.inl ⟨rfl, rfl⟩)⟩)
    · refine ⟨by simp [lends, dends, k2, st], fun _ => ?_⟩
      have e4 : dreq r s = ⟨s.hand, 2, ((1 : Nat) : Int), 0, s.en, true⟩ := by simp [dreq, k2, st]
      rw [e4, st_step _ _ (by omega)] at hx
      have e7 : dnext r s x = { s with st := 2 } := by simp [dnext, k2, st]
      rw [e7]
      exact .inr (.inl ⟨k2, .inr (.inr (.inl ⟨rfl, rfl, by rw [upd_same, ← hx]⟩))⟩)
    · refine ⟨by simp [lends, dends, k2, st], fun _ => ?_⟩
      by_cases c : ahd s.en x.had < 0
      · have e7 : dnext r s x = { s with fst := x.had, st := 5 } := by simp [dnext, k2, st, c]
        rw [e7]
        exact .inr (.inl ⟨k2, .inr (.inr (.inr (.inr (.inr ⟨rfl, by omega⟩))))⟩)
      · have e7 : dnext r s x = { s with fst := x.had, st := 3 } := by simp [dnext, k2, st, c]
        rw [e7]
        exact .inr (.inl ⟨k2, .inr (.inr (.inr (.inl ⟨rfl, rfl, by rw [upd_other _ _ (by omega)]; exact g1, by rw [upd_same]⟩)))⟩)
    · have e4 : dreq r s = ⟨s.hand, 1, plc r s.en, 0, 0, true⟩ := by simp [dreq, k2, st]
      have xa : x.act = 1 := by rw [← hx, (step_act _ _ _ (by rw [e4]; exact .inl rfl)).1, e4]
      refine ⟨by simp [lends, dends, k2, st, xa, g1, g2], fun e => ?_⟩
      have c : ¬ 0 < ahd s.en s.fst := by simpa [dends, k2, st] using e
      have e7 : dnext r s x = { s with val := x.had, st := 4 } := by simp [dnext, k2, st, c]
      rw [e7]
      exact .inr (.inl ⟨k2, .inr (.inr (.inr (.inr (.inl ⟨rfl, rfl⟩))))⟩)
    · have e4 : dreq r s = ⟨s.hand, 5, 0, s.fst, u64 (s.fst + 1), true⟩ := by simp [dreq, k2, st]
      have xa : x.act = 5 := by rw [← hx, (step_act _ _ _ (by rw [e4]; exact .inr (.inr rfl))).1, e4]
      refine ⟨by simp [lends, dends, k2, st, xa], fun e => ?_⟩
      have e7 : dnext r s x = { s with st := 5, told := if x.ok = true then ⟨true, s.val⟩ else s.told } := by simp [dnext, k2, st]
      rw [e7]
      exact .inr (.inl ⟨k2, .inr (.inr (.inr (.inr (.inr ⟨rfl, by omega⟩))))⟩)
    · have e4 : dreq r s = ⟨s.hand, 2, 1, 0, u64 (s.en + 1), true⟩ := by simp [dreq, k2, st]
      have xa : x.act = 2 := by rw [← hx, (step_act _ _ _ (by rw [e4]; exact .inr (.inl rfl))).1, e4]
      have h4 : 3 < m + 1 := by omega
      exact ⟨by simp [lends, dends, k2, st, xa]; omega, fun e => by simp [dends, k2, st] at e⟩
  · have n1 : ¬ s.j.kind = 1 := by omega
    have n2 : ¬ s.j.kind = 2 := by omega
    rcases w with st | ⟨st, h1, gm⟩ | st | st
    · have e4 : dreq r s = ⟨s.hand, 1, 0, 0, 0, true⟩ := by simp [dreq, k3, st]
      have xa : x.act = 1 ∧ x.at_ = 0 := by rw [← hx, (step_act _ _ _ (by rw [e4]; exact .inl rfl)).1, (step_act _ _ _ (by rw [e4]; exact .inl rfl)).2, e4]; exact ⟨rfl, rfl⟩
      refine ⟨by simp [lends, dends, k3, st, xa.1, xa.2], fun _ => ?_⟩
      have e7 : dnext r s x = { s with fst := x.had, st := 2 } := by simp [dnext, k3, st]
      rw [e7]
      exact .inr (.inr ⟨k3, .inr (.inl ⟨rfl, by omega, by rw [show m + 1 - 1 = m by omega, upd_same]⟩)⟩)
    · have e4 : dreq r s = ⟨s.hand, 1, 1, 0, 0, true⟩ := by simp [dreq, k3, st]
      have xa : x.act = 1 ∧ x.at_ = 1 := by rw [← hx, (step_act _ _ _ (by rw [e4]; exact .inl rfl)).1, (step_act _ _ _ (by rw [e4]; exact .inl rfl)).2, e4]; exact ⟨rfl, rfl⟩
      have m1 : 0 < m := h1
      refine ⟨by simp [lends, dends, k3, st, xa.1, xa.2, gm, m1], fun e => ?_⟩
      have c : ¬ ahd x.had s.fst ≤ 0 := by simpa [dends, k3, st] using e
      have e7 : dnext r s x = { s with en := x.had, st := 3 } := by simp [dnext, k3, st, c]
      rw [e7]
      exact .inr (.inr ⟨k3, .inr (.inr (.inl rfl))⟩)
    · have e4 : dreq r s = ⟨s.hand, 1, plc r s.fst, 0, 0, true⟩ := by simp [dreq, k3, st]
      have pl := sl_lo hr1 s.fst
      have xa : x.act = 1 ∧ x.at_ = plc r s.fst := by rw [← hx, (step_act _ _ _ (by rw [e4]; exact .inl rfl)).1, (step_act _ _ _ (by rw [e4]; exact .inl rfl)).2, e4]; exact ⟨rfl, rfl⟩
      have ne : ¬ plc r s.fst = 1 := by omega
      refine ⟨by simp [lends, dends, k3, st, xa.1, xa.2, ne], fun _ => ?_⟩
      have e7 : dnext r s x = { s with val := x.had, st := 4 } := by simp [dnext, k3, st]
      rw [e7]
      exact .inr (.inr ⟨k3, .inr (.inr (.inr rfl))⟩)
    · have e4 : dreq r s = ⟨s.hand, 5, 0, s.fst, u64 (s.fst + 1), true⟩ := by simp [dreq, k3, st]
      have xa : x.act = 5 := by rw [← hx, (step_act _ _ _ (by rw [e4]; exact .inr (.inr rfl))).1, e4]
      refine ⟨by simp [lends, dends, k3, st, xa], fun e => ?_⟩
      have c : x.ok = false := by simpa [dends, k3, st] using e
      have e7 : dnext r s x = { s with st := 0 } := by simp [dnext, k3, st, c]
      rw [e7]
      exact .inr (.inr ⟨k3, .inl rfl⟩)
end Deal
end Go.Proofs.Ytdgolkdedghajaa

/-
  DealOnce: the law's list, along what is told.
-/
namespace Go.Proofs.Ytdgolkdedghajaa
open Go.RowKit
set_option linter.unusedVariables false
set_option linter.unusedSimpArgs false
set_option maxRecDepth 20000
namespace Deal

/-- What the law makes of the jobs that have ended, in their order: none where it says no. -/
def Tr : List (Int × Ans) → List Int → Option (List Int)
  | [], L => some L
  | e :: E, L => if e.2.ok = true then (if e.1 = 1 then Tr E (L ++ [e.2.val]) else if e.2.val ∈ L then Tr E (L.erase e.2.val) else none) else (if e.2.val = 0 then Tr E L else none)

theorem Tr_append : ∀ (E : List (Int × Ans)) (e : Int × Ans) (L L' L2 : List Int), Tr E L = some L' → Tr [e] L' = some L2 → Tr (E ++ [e]) L = some L2
  | [], e, L, L', L2, h1, h2 => by
    have h1 : L = L' := by simpa [Tr] using h1
    subst h1
    exact h2
  | d :: E, e, L, L', L2, h1, h2 => by
    show Tr (d :: (E ++ [e])) L = some L2
    unfold Tr at h1 ⊢
    split at h1
    · rename_i c
      rw [if_pos c]
      split at h1
      · rename_i c1
        rw [if_pos c1]
        exact Tr_append E e _ _ _ h1 h2
      · rename_i c1
        rw [if_neg c1]
        split at h1
        · rename_i c2
          rw [if_pos c2]
          exact Tr_append E e _ _ _ h1 h2
        · cases h1
    · rename_i c
      rw [if_neg c]
      split at h1
      · rename_i c1
        rw [if_pos c1]
        exact Tr_append E e _ _ _ h1 h2
      · cases h1

variable {r : Nat} {f f' : Nat → Int} {B B' : Int} {pd pd' : List Int}

theorem kn_tr {kind : Int} {en : Bool} {a : Ans} {L : List Int} (hp : L.Perm (lst r f B pd)) (K : Kn r f f' B B' pd pd' kind en a) : (en = false → L.Perm (lst r f' B' pd')) ∧ (en = true → ∃ L', Tr [(kind, a)] L = some L' ∧ L'.Perm (lst r f' B' pd')) := by
  unfold Kn at K
  by_cases c : en = true ∧ a.ok = true
  · rw [if_pos c] at K
    refine ⟨fun e => (by rw [c.1] at e; cases e), fun _ => ?_⟩
    by_cases k1 : kind = 1
    · rw [if_pos k1] at K
      refine ⟨L ++ [a.val], by simp [Tr, c.2, k1], ?_⟩
      rw [K]
      exact hp.append_right _
    · rw [if_neg k1] at K
      have hm : a.val ∈ L := (hp.trans K).mem_iff.mpr (List.mem_cons_self ..)
      refine ⟨L.erase a.val, by simp [Tr, c.2, k1, hm], ?_⟩
      have := (hp.trans K).erase a.val
      rwa [List.erase_cons_head] at this
  · rw [if_neg c] at K
    refine ⟨fun _ => by rw [K.1]; exact hp, fun e => ?_⟩
    have o : ¬ a.ok = true := fun t => c ⟨e, t⟩
    exact ⟨L, by simp [Tr, o, K.2 e], by rw [K.1]; exact hp⟩
end Deal
end Go.Proofs.Ytdgolkdedghajaa

/-
  DealOnce: a run from fresh words in the law's words, step by step.
-/
namespace Go.Proofs.Ytdgolkdedghajaa
open Go.RowKit
set_option linter.unusedVariables false
set_option linter.unusedSimpArgs false
set_option maxRecDepth 20000
namespace Deal

def sm (f : Nat → Nat) : Nat → Nat
  | 0 => 0
  | n + 1 => sm f n + f n
theorem sm_congr {f g : Nat → Nat} : ∀ n, (∀ i, i < n → f i = g i) → sm f n = sm g n
  | 0, _ => rfl
  | n + 1, h => by
    show sm f n + f n = sm g n + g n
    rw [sm_congr n (fun i hi => h i (by omega)), h n (by omega)]
theorem sm_up (f : Nat → Nat) (h : Nat) : ∀ n, h < n → sm (upd f h (f h + 1)) n = sm f n + 1
  | 0, hh => absurd hh (Nat.not_lt_zero h)
  | n + 1, hh => by
    show sm (upd f h (f h + 1)) n + upd f h (f h + 1) n = sm f n + f n + 1
    by_cases e : h = n
    · subst e
      rw [upd_same, sm_congr (g := f) h (fun i hi => upd_other _ _ (by omega))]
      omega
    · rw [upd_other _ _ (fun t => e t.symm), sm_up f h n (by omega)]
      omega
theorem sm_zero : ∀ n, sm (fun _ => 0) n = 0
  | 0 => rfl
  | n + 1 => by show sm (fun _ => 0) n + 0 = 0; rw [sm_zero n]

/-- A run under way, and what the law keeps of it. -/
structure Do (r : Nat) (P : Par) (st : St (kDeal r)) (k : Nat) (ml : Nat → Nat) (md : Nat → Nat → Stp) (E : List (Int × Ans)) : Prop where
  dv : ∃ B U pd L, Dv r P st.f st.done st.cur B U pd k ∧ Tr E [] = some L ∧ L.Perm (lst r st.f B pd)
  mq : ∀ h, h < P.nh → st.done h < P.jn h → Mq (st.cur h) (ml h) (md h)
  jb : ∀ h, h < P.nh → st.done h < P.jn h → (st.cur h).j = P.jb h (st.done h)
  ln : E.length = sm st.done P.nh

def Jok (P : Par) : Prop := ∀ h, h < P.nh → ∀ j, j < P.jn h → derr (h : Int) (P.jb h j) = 0

theorem kinds {h : Int} {J : Jb} (e : derr h J = 0) : J.kind = 1 ∨ J.kind = 2 ∨ J.kind = 3 := by
  unfold derr at e
  split at e
  · cases e
  · omega

theorem do_start {r : Nat} {P : Par} (hr1 : 1 ≤ r) (hok : Jok P) (md : Nat → Nat → Stp) : Do r P (st0 (kDeal r) P (fun _ => 0)) 0 (fun _ => 0) md [] :=
  ⟨⟨0, 0, [], [], dv_start hr1 hok, rfl, List.Perm.refl _⟩, fun h hh hd => Mq.init (kinds (hok h hh _ hd)), fun h hh hd => rfl, (sm_zero P.nh).symm⟩

theorem Do.step {r : Nat} {P : Par} (hr1 : 1 ≤ r) (hr2 : r ≤ 64) (hn : P.n = 2 + r) (hok : Jok P) {k : Nat} (hk : k ≤ 65535) {st : St (kDeal r)} {ml : Nat → Nat} {md : Nat → Nat → Stp} {E : List (Int × Ans)} (D : Do r P st k ml md E) {h : Nat} (hh : h < P.nh) (hd : st.done h < P.jn h) {x : Stp} (hx : stepOf P.n st.f (dreq r (st.cur h)) = x) :
    lends r (P.jb h (st.done h)).kind (md h) (ml h) x = dends r (st.cur h) x ∧
    (dends r (st.cur h) x = false → (stepSt P st h).done = st.done ∧ (stepSt P st h).ans = st.ans ∧ Do r P (stepSt P st h) (k + 1) (upd ml h (ml h + 1)) (upd md h (upd (md h) (ml h) x)) E) ∧
    (dends r (st.cur h) x = true → (stepSt P st h).done = upd st.done h (st.done h + 1) ∧ ∀ md', Do r P (stepSt P st h) (k + 1) (upd ml h 0) md' (E ++ [((P.jb h (st.done h)).kind, (stepSt P st h).ans h (st.done h))]) ∨ ¬ (∀ i, i ≠ h → md' i = md i)) := by
  obtain ⟨B, U, pd, L, dv, tr, pm⟩ := D.dv
  have ej := D.jb h hh hd
  obtain ⟨le, mq'⟩ := (D.mq h hh hd).step hr1 hn hx
  obtain ⟨B', U', pd', dv', kn⟩ := dv.step hr1 hr2 hn hok hk hh hd hx rfl
  obtain ⟨kt1, kt2⟩ := kn_tr pm kn
  have hx' : stepOf P.n st.f ((kDeal r).req (st.cur h)) = x := hx
  have jn : (dnext r (st.cur h) x).j = (st.cur h).j := dnext_j r (st.cur h) x
  refine ⟨by rw [← ej]; exact le, fun en => ?_, fun en => ?_⟩
  · have e1 : (kDeal r).ends (st.cur h) (stepOf P.n st.f ((kDeal r).req (st.cur h))) = false := by rw [hx']; exact en
    have d1 : (stepSt P st h).done = st.done := by unfold stepSt; simp only [e1]; rfl
    have d2 : (stepSt P st h).ans = st.ans := by unfold stepSt; simp only [e1]; rfl
    have d3 : (stepSt P st h).cur = upd st.cur h (dnext r (st.cur h) x) := by unfold stepSt; simp only [e1]; rw [hx']; rfl
    rw [if_neg (by rw [en]; simp), if_neg (by rw [en]; simp)] at dv'
    have c1 : (stepSt P st h).cur h = dnext r (st.cur h) x := by rw [d3]; exact if_pos rfl
    have c2 : ∀ i, i ≠ h → (stepSt P st h).cur i = st.cur i := fun i e => by rw [d3]; exact if_neg e
    refine ⟨d1, d2, ⟨B', U', pd', L, by rw [d1, d3]; exact dv', tr, kt1 en⟩, fun i hi hl => ?_, fun i hi hl => ?_, by rw [d1]; exact D.ln⟩
    · by_cases e : i = h
      · subst e; rw [c1, upd_same, upd_same]; exact mq' en
      · rw [c2 i e, upd_other _ _ e, upd_other _ _ e]; exact D.mq i hi (by rw [d1] at hl; exact hl)
    · rw [d1]
      rw [d1] at hl
      by_cases e : i = h
      · subst e; rw [c1, jn]; exact ej
      · rw [c2 i e]; exact D.jb i hi hl
  · have e1 : (kDeal r).ends (st.cur h) (stepOf P.n st.f ((kDeal r).req (st.cur h))) = true := by rw [hx']; exact en
    have d1 : (stepSt P st h).done = upd st.done h (st.done h + 1) := by unfold stepSt; simp only [e1]; rfl
    have d2 : (stepSt P st h).ans h (st.done h) = (dnext r (st.cur h) x).told := by unfold stepSt; simp only [e1]; show upd st.ans h (upd (st.ans h) (st.done h) _) h (st.done h) = _; rw [upd_same, upd_same, hx']; rfl
    have d3 : (stepSt P st h).cur = upd st.cur h (dinit (h : Int) (P.jb h (st.done h + 1))) := by unfold stepSt; simp only [e1]; rfl
    rw [if_pos en, if_pos en] at dv'
    have c1 : (stepSt P st h).cur h = dinit (h : Int) (P.jb h (st.done h + 1)) := by rw [d3]; exact if_pos rfl
    have c2 : ∀ i, i ≠ h → (stepSt P st h).cur i = st.cur i := fun i e => by rw [d3]; exact if_neg e
    refine ⟨d1, fun md' => ?_⟩
    by_cases om : ∀ i, i ≠ h → md' i = md i
    · left
      obtain ⟨L', t1, p1⟩ := kt2 en
      refine ⟨⟨B', U', pd', L', by rw [d1, d3]; exact dv', ?_, p1⟩, fun i hi hl => ?_, fun i hi hl => ?_, ?_⟩
      · rw [d2, ← ej]
        exact Tr_append E _ _ _ _ tr t1
      · rw [d1] at hl
        by_cases e : i = h
        · subst e; rw [c1, upd_same]; rw [upd_same] at hl; exact Mq.init (kinds (hok i hi _ hl))
        · rw [c2 i e, upd_other _ _ e, om i e]; rw [upd_other _ _ e] at hl; exact D.mq i hi hl
      · rw [d1]
        rw [d1] at hl
        by_cases e : i = h
        · subst e; rw [c1, upd_same]; rfl
        · rw [c2 i e, upd_other _ _ e]; rw [upd_other _ _ e] at hl; exact D.jb i hi hl
      · rw [d1, List.length_append, D.ln, sm_up _ _ _ hh]
        rfl
    · exact .inr om
end Deal
end Go.Proofs.Ytdgolkdedghajaa
