/-
  Lemmas: EpochC, EpochN, EpochSN.
-/
import Derived.Test.YtbohmahjpolapaaTp05
import Derived.Test.YtbohmahjpolapaaTp06
import Derived.Test.YtbohmahjpolapaaTp07
/-
  The tasks of an epoch: how a job under way lies in memory, and what it is as a plain state.
-/
namespace Go.Proofs.Ytbohmahjpolapaa
open Go.RowKit
set_option linter.unusedVariables false
set_option linter.unusedSimpArgs false
set_option maxRecDepth 20000
namespace Epoch

/-- An Enter's cells. -/
def enC (hand seen : Int) (ld : Bool) (t : Ans) : Nat → Value := fun i => match i with | 0 => .int .i64 hand | 1 => .bool t.ok | 2 => .int .u64 t.val | 3 => .int .u64 seen | _ => .bool ld
/-- A Leave's cells. -/
def lvC (hand : Int) (t : Ans) : Nat → Value := fun i => match i with | 0 => .int .i64 hand | 1 => .bool t.ok | _ => .int .u64 t.val
/-- A Retire's cells. -/
def rtC (hand place seen : Int) (ld : Bool) (t : Ans) : Nat → Value := fun i => match i with | 0 => .int .i64 hand | 1 => .bool t.ok | 2 => .int .u64 t.val | 3 => .int .i64 place | 4 => .int .u64 seen | _ => .bool ld
/-- A Reap's cells. -/
def rpC (hand room st nx seen given mask : Int) (t : Ans) : Nat → Value := fun i => match i with | 0 => .int .i64 hand | 1 => .bool t.ok | 2 => .int .u64 t.val | 3 => .int .i64 room | 4 => .int .i64 st | 5 => .int .i64 nx | 6 => .int .u64 seen | 7 => .int .u64 given | _ => .int .u64 mask

def u64 (x : Int) : Int := x % 18446744073709551616
theorem u64_lo (x : Int) : 0 ≤ u64 x := by unfold u64; omega
theorem u64_hi (x : Int) : u64 x ≤ 18446744073709551615 := by unfold u64; omega
theorem u64_id {x : Int} (h : 0 ≤ x ∧ x ≤ 18446744073709551615) : u64 x = x := by unfold u64; omega

/-- A mask with one more bit. -/
def mput (m nx : Int) : Int := ((m.toNat ||| 2 ^ nx.toNat : Nat) : Int)
theorem mput_bounds {m nx : Int} (hm : 0 ≤ m ∧ m ≤ 18446744073709551615) (hn : 0 ≤ nx ∧ nx < 64) : 0 ≤ mput m nx ∧ mput m nx ≤ 18446744073709551615 := by
  unfold mput
  have h1 : m.toNat < 2 ^ 64 := by omega
  have h2 : 2 ^ nx.toNat < 2 ^ 64 := Nat.pow_lt_pow_right (by omega) (by omega)
  have h3 := Nat.or_lt_two_pow h1 h2
  omega

structure EpS where
  hand : Int
  j : Jb
  st : Int
  nx : Int
  e : Int
  f : Int
  w : Int
  given : Int
  mask : Int
  told : Ans

def eerr (r : Int) (hand : Int) (j : Jb) : Int := if j.kind < 1 ∨ 4 < j.kind then 200 else if j.kind = 3 ∧ (j.a < 0 ∨ r ≤ j.a) then 2 else if hand < 0 ∨ 8 ≤ hand then 2 else 0
def ereq (s : EpS) : Stp :=
  if s.j.kind = 1 then (if s.st = 0 then ⟨s.hand, 1, 0, 0, 0, true⟩ else ⟨s.hand, 2, 1 + s.hand, 0, u64 (s.e + 1), true⟩)
  else if s.j.kind = 2 then ⟨s.hand, 2, 1 + s.hand, 0, 0, true⟩
  else if s.j.kind = 3 then (if s.st = 0 then ⟨s.hand, 1, 0, 0, 0, true⟩ else ⟨s.hand, 5, 9 + s.j.a, 0, u64 (s.e + 1), true⟩)
  else (if s.st = 0 then ⟨s.hand, 1, 0, 0, 0, true⟩ else if s.st = 1 then ⟨s.hand, 1, 1 + s.nx, 0, 0, true⟩ else if s.st = 2 then ⟨s.hand, 5, 0, s.e, u64 (s.e + 1), true⟩
    else if s.st = 3 then ⟨s.hand, 1, 0, 0, 0, true⟩ else if s.st = 4 then ⟨s.hand, 1, 9 + s.nx, 0, 0, true⟩ else ⟨s.hand, 5, 9 + s.nx, s.given, 0, true⟩)
/-- A place's word that a Reap gives back. -/
def due (h f : Int) : Prop := ¬ h = 0 ∧ u64 (h + 1) ≤ f
instance (h f : Int) : Decidable (due h f) := by unfold due; infer_instance
/-- A hand's word that keeps the epoch. -/
def bars (h e : Int) : Prop := ¬ h = 0 ∧ ¬ h = u64 (e + 1)
instance (h e : Int) : Decidable (bars h e) := by unfold bars; infer_instance
def eends (r : Int) (s : EpS) (x : Stp) : Bool :=
  if s.j.kind = 1 then (if s.st = 0 then false else true)
  else if s.j.kind = 2 then true
  else if s.j.kind = 3 then (if s.st = 0 then false else true)
  else (if s.st = 4 then (if due x.had s.f then false else decide (¬ s.nx + 1 < r)) else if s.st = 5 then decide (¬ s.nx + 1 < r) else false)
def enext (r : Int) (s : EpS) (x : Stp) : EpS :=
  if s.j.kind = 1 then (if s.st = 0 then { s with e := x.had, st := 1 } else { s with told := ⟨true, s.e⟩ })
  else if s.j.kind = 2 then { s with told := ⟨true, 0⟩ }
  else if s.j.kind = 3 then (if s.st = 0 then { s with e := x.had, st := 1 } else { s with told := ⟨x.ok, 0⟩ })
  else
    (if s.st = 0 then { s with e := x.had, nx := 0, st := 1 }
     else if s.st = 1 then { s with nx := s.nx + 1, st := if bars x.had s.e then 3 else if s.nx + 1 = 8 then 2 else 1 }
     else if s.st = 2 then { s with st := 3 }
     else if s.st = 3 then { s with f := x.had, nx := 0, st := 4 }
     else if s.st = 4 then (if due x.had s.f then { s with w := x.had, given := x.had, st := 5 } else { s with w := x.had, nx := s.nx + 1, told := if s.nx + 1 < r then s.told else ⟨true, s.mask⟩ })
     else { s with mask := if x.ok = true then mput s.mask s.nx else s.mask, nx := s.nx + 1, st := 4, told := if s.nx + 1 < r then s.told else ⟨true, if x.ok = true then mput s.mask s.nx else s.mask⟩ })
def ecell (r : Int) (s : EpS) : Nat → Value :=
  if s.j.kind = 1 then enC s.hand s.e (decide (s.st = 1)) s.told
  else if s.j.kind = 2 then lvC s.hand s.told
  else if s.j.kind = 3 then rtC s.hand s.j.a s.e (decide (s.st = 1)) s.told
  else rpC s.hand r s.st s.nx (if s.st < 4 then s.e else s.f) s.given s.mask s.told
def epick {α : Type} (j : Jb) (x y z u : α) : α := if j.kind = 1 then x else if j.kind = 2 then y else if j.kind = 3 then z else u

/-- What stands in a task under way. -/
structure Wf (r : Int) (s : EpS) : Prop where
  st : (s.j.kind = 1 ∧ (s.st = 0 ∨ s.st = 1)) ∨ (s.j.kind = 2 ∧ s.st = 0) ∨ (s.j.kind = 3 ∧ (0 ≤ s.j.a ∧ s.j.a < r) ∧ (s.st = 0 ∨ s.st = 1)) ∨ (s.j.kind = 4 ∧ 0 ≤ s.st ∧ s.st ≤ 5)
  h : s.j.wf
  hand : 0 ≤ s.hand ∧ s.hand < 8
  nx : 0 ≤ s.nx ∧ s.nx ≤ 64
  nx0 : s.st = 0 → s.nx = 0
  nx1 : s.st = 1 → s.nx < 8
  nx4 : 4 ≤ s.st → s.nx < r
  gw : s.st = 5 → s.given = s.w
  e : 0 ≤ s.e ∧ s.e ≤ 18446744073709551615
  f : 0 ≤ s.f ∧ s.f ≤ 18446744073709551615
  w : 0 ≤ s.w ∧ s.w ≤ 18446744073709551615
  given : 0 ≤ s.given ∧ s.given ≤ 18446744073709551615
  mask : 0 ≤ s.mask ∧ s.mask ≤ 18446744073709551615

def einit (h : Int) (j : Jb) : EpS := ⟨if 0 ≤ h ∧ h < 8 then h else 0, j, 0, 0, 0, 0, 0, 0, 0, ⟨false, 0⟩⟩
def kEpoch (r : Int) : Kd where
  σ := EpS
  err := eerr r
  init := einit
  req := ereq
  next := enext r
  ends := eends r
  tell s := s.told
  tid j := epick j 109 112 115 118
  t j := epick j 111 114 117 120
  n j := epick j 5 3 6 9
  fs j := epick j 102 114 115 117
  fa _ := 101
  cell := ecell r
  wf j s := s.j = j ∧ Wf r s

theorem had_bounds {n : Nat} {f : Nat → Int} (hf : ∀ i, i < n → 0 ≤ f i ∧ f i ≤ 18446744073709551615) (q : Stp) : 0 ≤ (stepOf n f q).had ∧ (stepOf n f q).had ≤ 18446744073709551615 := by
  unfold stepOf
  split
  · rename_i h
    exact hf _ (by omega)
  · exact ⟨Int.le_refl 0, by show (0 : Int) ≤ 18446744073709551615; decide⟩

theorem eerr_cases {r h : Int} {j : Jb} (e : eerr r h j = 0) : (j.kind = 1 ∨ j.kind = 2 ∨ (j.kind = 3 ∧ 0 ≤ j.a ∧ j.a < r) ∨ j.kind = 4) ∧ 0 ≤ h ∧ h < 8 := by
  unfold eerr at e
  split at e
  · cases e
  · split at e
    · cases e
    · split at e
      · cases e
      · omega
theorem fine_cases {r : Int} {j : Jb} (h : (kEpoch r).fine j) : (j.kind = 1 ∨ j.kind = 2 ∨ (j.kind = 3 ∧ 0 ≤ j.a ∧ j.a < r) ∨ j.kind = 4) ∧ j.wf :=
  ⟨(eerr_cases h.2.choose_spec).1, h.1⟩

theorem enext_j (r : Int) (s : EpS) (x : Stp) : (enext r s x).j = s.j := by
  unfold enext
  repeat' split
  all_goals rfl
theorem enext_hand (r : Int) (s : EpS) (x : Stp) : (enext r s x).hand = s.hand := by
  unfold enext
  repeat' split
  all_goals rfl

theorem enext_wf {r : Int} (hr : 1 ≤ r ∧ r ≤ 64) {s : EpS} {x : Stp} (H : Wf r s) (hx : 0 ≤ x.had ∧ x.had ≤ 18446744073709551615) (he : ¬ eends r s x = true) : Wf r (enext r s x) := by
  obtain ⟨hk, hh, hha, hn, hn0, hn1, hn4, hgw, h1, h2, h3, h4, h5⟩ := H
  unfold enext
  unfold eends at he
  by_cases k1 : s.j.kind = 1
  · rw [if_pos k1] at he ⊢
    split
    · exact ⟨by dsimp only; omega, hh, hha, hn, by dsimp only; omega, by dsimp only; omega, by dsimp only; omega, by dsimp only; omega, hx, h2, h3, h4, h5⟩
    · rename_i c; rw [if_neg c] at he; exact absurd rfl he
  rw [if_neg k1] at he ⊢
  by_cases k2 : s.j.kind = 2
  · rw [if_pos k2] at he; exact absurd rfl he
  rw [if_neg k2] at he ⊢
  by_cases k3 : s.j.kind = 3
  · rw [if_pos k3] at he ⊢
    split
    · exact ⟨by dsimp only; omega, hh, hha, hn, by dsimp only; omega, by dsimp only; omega, by dsimp only; omega, by dsimp only; omega, hx, h2, h3, h4, h5⟩
    · rename_i c; rw [if_neg c] at he; exact absurd rfl he
  rw [if_neg k3] at he ⊢
  have hk4 : s.j.kind = 4 ∧ 0 ≤ s.st ∧ s.st ≤ 5 := by omega
  by_cases s0 : s.st = 0
  · rw [if_pos s0]
    exact ⟨by dsimp only; omega, hh, hha, by dsimp only; omega, by dsimp only; omega, by dsimp only; omega, by dsimp only; omega, by dsimp only; omega, hx, h2, h3, h4, h5⟩
  rw [if_neg s0]
  by_cases s1 : s.st = 1
  · rw [if_pos s1]
    have b1 := hn1 s1
    obtain ⟨v, hv, hv2⟩ : ∃ v : Int, (if bars x.had s.e then 3 else if s.nx + 1 = 8 then 2 else 1) = v ∧ (v = 3 ∨ v = 2 ∨ (v = 1 ∧ s.nx + 1 < 8)) := ⟨_, rfl, by
      split
      · exact .inl rfl
      · split
        · exact .inr (.inl rfl)
        · exact .inr (.inr ⟨rfl, by omega⟩)⟩
    rw [hv]
    exact ⟨by dsimp only; omega, hh, hha, by dsimp only; omega, by dsimp only; omega, by dsimp only; omega, by dsimp only; omega, by dsimp only; omega, h1, h2, h3, h4, h5⟩
  rw [if_neg s1]
  by_cases s2 : s.st = 2
  · rw [if_pos s2]
    exact ⟨by dsimp only; omega, hh, hha, hn, by dsimp only; omega, by dsimp only; omega, by dsimp only; omega, by dsimp only; omega, h1, h2, h3, h4, h5⟩
  rw [if_neg s2]
  by_cases s3 : s.st = 3
  · rw [if_pos s3]
    exact ⟨by dsimp only; omega, hh, hha, by dsimp only; omega, by dsimp only; omega, by dsimp only; omega, by dsimp only; omega, by dsimp only; omega, h1, hx, h3, h4, h5⟩
  rw [if_neg s3]
  by_cases s4 : s.st = 4
  · rw [if_pos s4] at he ⊢
    by_cases d : due x.had s.f
    · rw [if_pos d]
      exact ⟨by dsimp only; omega, hh, hha, hn, by dsimp only; omega, by dsimp only; omega, by dsimp only; omega, fun _ => rfl, h1, h2, hx, hx, h5⟩
    · rw [if_neg d] at he ⊢
      have he' : s.nx + 1 < r := by simpa using he
      exact ⟨by dsimp only; omega, hh, hha, by dsimp only; omega, by dsimp only; omega, by dsimp only; omega, by dsimp only; omega, by dsimp only; omega, h1, h2, hx, h4, h5⟩
  rw [if_neg s4] at he ⊢
  rw [if_pos (show s.st = 5 by omega)] at he
  have he' : s.nx + 1 < r := by simpa using he
  have b4 := hn4 (by omega)
  refine ⟨by dsimp only; omega, hh, hha, by dsimp only; omega, by dsimp only; omega, by dsimp only; omega, by dsimp only; omega, by dsimp only; omega, h1, h2, h3, h4, ?_⟩
  dsimp only
  split
  · exact mput_bounds h5 ⟨hn.1, by omega⟩
  · exact h5

theorem wf_init {r : Int} (hr : 1 ≤ r) (h : Int) {j : Jb} (hj : (kEpoch r).fine j) : Wf r (einit h j) := by
  obtain ⟨hk, hw⟩ := fine_cases hj
  refine ⟨by dsimp only [einit]; omega, hw, ?_, by dsimp only [einit]; omega, fun _ => rfl, by dsimp only [einit]; omega, by dsimp only [einit]; omega, by dsimp only [einit]; omega, by dsimp only [einit]; omega, by dsimp only [einit]; omega, by dsimp only [einit]; omega, by dsimp only [einit]; omega, by dsimp only [einit]; omega⟩
  dsimp only [einit]
  split
  · assumption
  · omega

theorem ereq_put {r : Int} {s : EpS} (H : Wf r s) : 0 ≤ (ereq s).put ∧ (ereq s).put ≤ 18446744073709551615 := by
  unfold ereq
  repeat' split
  all_goals first | exact ⟨u64_lo _, u64_hi _⟩ | (simp only; omega)
end Epoch
end Go.Proofs.Ytbohmahjpolapaa

/-
  EpochOnce, without a program: what stands behind every step of a run from fresh words: the epoch grows by one, and each place is reaped as often as it was given up, but for what stands in its word.
-/
namespace Go.Proofs.Ytbohmahjpolapaa
open Go.RowKit
set_option linter.unusedVariables false
set_option linter.unusedSimpArgs false
set_option maxRecDepth 20000
namespace Epoch

def sm (f : Nat → Nat) : Nat → Nat
  | 0 => 0
  | n + 1 => sm f n + f n
theorem sm_congr {f g : Nat → Nat} : ∀ n, (∀ i, i < n → f i = g i) → sm f n = sm g n
  | 0, _ => rfl
  | n + 1, h => by
    show sm f n + f n = sm g n + g n
    rw [sm_congr n (fun i hi => h i (by omega)), h n (by omega)]
theorem sm_split (f : Nat → Nat) (h : Nat) : ∀ n, h < n → ∃ c, ∀ g : Nat → Nat, (∀ i, i < n → i ≠ h → g i = f i) → sm g n = c + g h
  | 0, hh => absurd hh (Nat.not_lt_zero h)
  | n + 1, hh => by
    by_cases e : h = n
    · subst e
      refine ⟨sm f h, fun g hg => ?_⟩
      show sm g h + g h = _
      rw [sm_congr h (fun i hi => hg i (by omega) (by omega))]
    · obtain ⟨c, hc⟩ := sm_split f h n (by omega)
      refine ⟨c + f n, fun g hg => ?_⟩
      show sm g n + g n = _
      rw [hc g (fun i hi hn => hg i (by omega) hn), hg n (by omega) (by omega)]
      omega
theorem sm_zero {f : Nat → Nat} : ∀ n, (∀ i, i < n → f i = 0) → sm f n = 0
  | 0, _ => rfl
  | n + 1, h => by
    show sm f n + f n = 0
    rw [sm_zero n (fun i hi => h i (by omega)), h n (by omega)]

def bit (p : Nat) (m : Int) : Nat := if m.toNat.testBit p = true then 1 else 0
def nz (v : Int) : Nat := if v = 0 then 0 else 1
/-- A place given up, by a job and its answer. -/
def gv (p : Nat) (j : Jb) (a : Ans) : Nat := if j.kind = 3 ∧ j.a = (p : Int) ∧ a.ok = true then 1 else 0
/-- A place reaped, by a job and its answer. -/
def rp (p : Nat) (j : Jb) (a : Ans) : Nat := if j.kind = 4 then bit p a.val else 0
theorem bit_le (p : Nat) (m : Int) : bit p m ≤ 1 := by unfold bit; split <;> omega
theorem bit_put (p : Nat) {m nx : Int} (hn : 0 ≤ nx) (h : bit nx.toNat m = 0) : bit p (mput m nx) = bit p m + (if (p : Int) = nx then 1 else 0) := by
  unfold bit at h ⊢
  unfold mput
  rw [Int.toNat_natCast, Nat.testBit_or, Nat.testBit_two_pow]
  by_cases e : (p : Int) = nx
  · have e' : nx.toNat = p := by omega
    rw [e'] at h
    rw [if_pos e, e']
    have hb : m.toNat.testBit p = false := by
      cases hb : m.toNat.testBit p with
      | false => rfl
      | true => rw [hb] at h; cases h
    rw [hb]
    simp
  · have e' : ¬ nx.toNat = p := by omega
    rw [if_neg e]
    simp [e']

/-- Counted over all that hands have told. -/
def tot (g : Jb → Ans → Nat) (P : Par) (done : Nat → Nat) (ans : Nat → Nat → Ans) : Nat := sm (fun h => sm (fun j => g (P.jb h j) (ans h j)) (done h)) P.nh
/-- Reaped by tasks under way. -/
def und (p : Nat) (P : Par) (done : Nat → Nat) (cur : Nat → EpS) : Nat := sm (fun h => if done h < P.jn h then bit p (cur h).mask else 0) P.nh

structure Iv (r : Nat) (P : Par) (f : Nat → Int) (done : Nat → Nat) (cur : Nat → EpS) (ans : Nat → Nat → Ans) (k : Nat) : Prop where
  wd : ∀ i, i < P.n → 0 ≤ f i ∧ f i ≤ 18446744073709551615
  f0 : 0 ≤ f 0 ∧ f 0 ≤ k
  wf : ∀ h, h < P.nh → done h < P.jn h → (cur h).j = P.jb h (done h) ∧ Wf r (cur h) ∧ (cur h).hand = (h : Int)
  ep : ∀ h, h < P.nh → done h < P.jn h → (cur h).e ≤ f 0 ∧ (cur h).f ≤ f 0
  gz : ∀ h, h < P.nh → done h < P.jn h → (cur h).st = 5 → ¬ (cur h).given = 0
  mb : ∀ h, h < P.nh → done h < P.jn h → ∀ p, bit p (cur h).mask = 1 → 4 ≤ (cur h).st ∧ (p : Int) < (cur h).nx
  av : ∀ h, h < P.nh → ∀ j, j < done h → 0 ≤ (ans h j).val ∧ (ans h j).val ≤ 18446744073709551615
  cn : ∀ p, p < r → tot (gv p) P done ans = tot (rp p) P done ans + und p P done cur + nz (f (9 + p))

section
variable {r : Nat} {P : Par} {f f' : Nat → Int} {done : Nat → Nat} {cur : Nat → EpS} {ans : Nat → Nat → Ans} {k h : Nat}

theorem Iv.goes (I : Iv r P f done cur ans k) (hh : h < P.nh) (hd : done h < P.jn h) (hw : ∀ i, i < P.n → 0 ≤ f' i ∧ f' i ≤ 18446744073709551615) {s' : EpS} (hj : s'.j = (cur h).j) (W : Wf r s') (hha : s'.hand = (cur h).hand) (h0 : f 0 ≤ f' 0) (h1 : f' 0 ≤ (k : Int) + 1) (ep : s'.e ≤ f' 0 ∧ s'.f ≤ f' 0) (gz : s'.st = 5 → ¬ s'.given = 0)
    (mk : ∀ p, bit p s'.mask = 1 → 4 ≤ s'.st ∧ (p : Int) < s'.nx) (cn : ∀ p, p < r → bit p (cur h).mask + nz (f (9 + p)) = bit p s'.mask + nz (f' (9 + p))) : Iv r P f' done (upd cur h s') ans (k + 1) := by
  have at_ : ∀ i, i ≠ h → upd cur h s' i = cur i := fun i hi => upd_other _ _ hi
  refine ⟨hw, ⟨by have := I.f0.1; omega, by omega⟩, fun i hi hl => ?_, fun i hi hl => ?_, fun i hi hl => ?_, fun i hi hl => ?_, I.av, fun p hp => ?_⟩
  · by_cases e : i = h
    · subst e; rw [upd_same]; obtain ⟨a, b, c⟩ := I.wf i hi hl; exact ⟨hj.trans a, W, hha.trans c⟩
    · rw [at_ i e]; exact I.wf i hi hl
  · by_cases e : i = h
    · subst e; rw [upd_same]; exact ep
    · rw [at_ i e]; have := I.ep i hi hl; exact ⟨by omega, by omega⟩
  · by_cases e : i = h
    · subst e; rw [upd_same]; exact gz
    · rw [at_ i e]; exact I.gz i hi hl
  · by_cases e : i = h
    · subst e; rw [upd_same]; exact mk
    · rw [at_ i e]; exact I.mb i hi hl
  · obtain ⟨c, hc⟩ := sm_split (fun h => if done h < P.jn h then bit p (cur h).mask else 0) h P.nh hh
    have u1 := hc _ (fun i _ _ => rfl)
    have u2 := hc (fun i => if done i < P.jn i then bit p (upd cur h s' i).mask else 0) (fun i _ hn => by rw [at_ i hn])
    simp only [if_pos hd, upd_same] at u1 u2
    have i1 := I.cn p hp
    have i2 := cn p hp
    unfold und at i1 ⊢
    omega

theorem Iv.over (I : Iv r P f done cur ans k) (hh : h < P.nh) (hd : done h < P.jn h) (hw : ∀ i, i < P.n → 0 ≤ f' i ∧ f' i ≤ 18446744073709551615) {a : Ans} {s0 : EpS} (hav : 0 ≤ a.val ∧ a.val ≤ 18446744073709551615) (h0 : f 0 ≤ f' 0) (h1 : f' 0 ≤ (k : Int) + 1)
    (hs0 : s0 = einit h (P.jb h (done h + 1))) (hwf : done h + 1 < P.jn h → Wf r s0 ∧ (0 ≤ (h : Int) ∧ (h : Int) < 8)) (cn : ∀ p, p < r → nz (f (9 + p)) + gv p (P.jb h (done h)) a + bit p (cur h).mask = rp p (P.jb h (done h)) a + nz (f' (9 + p))) :
    Iv r P f' (upd done h (done h + 1)) (upd cur h s0) (upd ans h (upd (ans h) (done h) a)) (k + 1) := by
  have at_ : ∀ i, i ≠ h → upd cur h s0 i = cur i := fun i hi => upd_other _ _ hi
  have dt : ∀ i, i ≠ h → upd done h (done h + 1) i = done i := fun i hi => upd_other _ _ hi
  refine ⟨hw, ⟨by have := I.f0.1; omega, by omega⟩, fun i hi hl => ?_, fun i hi hl => ?_, fun i hi hl => ?_, fun i hi hl => ?_, fun i hi q hq => ?_, fun p hp => ?_⟩
  · by_cases e : i = h
    · subst e
      rw [upd_same] at hl ⊢
      rw [upd_same]
      obtain ⟨W, hb⟩ := hwf hl
      subst hs0
      exact ⟨rfl, W, by show (if 0 ≤ (i : Int) ∧ (i : Int) < 8 then (i : Int) else 0) = i; rw [if_pos hb]⟩
    · rw [dt i e] at hl ⊢; rw [at_ i e]; exact I.wf i hi hl
  · by_cases e : i = h
    · subst e; rw [upd_same]; subst hs0; have := I.f0.1; exact ⟨by show (0 : Int) ≤ _; omega, by show (0 : Int) ≤ _; omega⟩
    · rw [dt i e] at hl; rw [at_ i e]; have := I.ep i hi hl; exact ⟨by omega, by omega⟩
  · by_cases e : i = h
    · subst e; rw [upd_same]; subst hs0; intro h; exact absurd h (by show ¬ (0 : Int) = 5; decide)
    · rw [dt i e] at hl; rw [at_ i e]; exact I.gz i hi hl
  · by_cases e : i = h
    · subst e; rw [upd_same]; subst hs0; intro p hp; exact absurd hp (by show ¬ bit p 0 = 1; simp [bit])
    · rw [dt i e] at hl; rw [at_ i e]; exact I.mb i hi hl
  · by_cases e : i = h
    · subst e
      rw [upd_same] at hq
      rw [upd_same]
      by_cases e2 : q = done i
      · subst e2; rw [upd_same]; exact hav
      · rw [upd_other _ _ e2]; exact I.av i hi q (by omega)
    · rw [dt i e] at hq; rw [upd_other _ _ e]; exact I.av i hi q hq
  · obtain ⟨c, hc⟩ := sm_split (fun h => if done h < P.jn h then bit p (cur h).mask else 0) h P.nh hh
    have u1 := hc _ (fun i _ _ => rfl)
    have u2 := hc (fun i => if upd done h (done h + 1) i < P.jn i then bit p (upd cur h s0 i).mask else 0) (fun i _ hn => by rw [at_ i hn, dt i hn])
    simp only [if_pos hd, upd_same] at u1 u2
    have z : bit p s0.mask = 0 := by subst hs0; show bit p 0 = 0; simp [bit]
    rw [z, ite_self] at u2
    have tt : ∀ g : Jb → Ans → Nat, tot g P (upd done h (done h + 1)) (upd ans h (upd (ans h) (done h) a)) = tot g P done ans + g (P.jb h (done h)) a := fun g => by
      obtain ⟨c', hc'⟩ := sm_split (fun h => sm (fun j => g (P.jb h j) (ans h j)) (done h)) h P.nh hh
      have v1 := hc' _ (fun i _ _ => rfl)
      have v2 := hc' (fun i => sm (fun j => g (P.jb i j) (upd ans h (upd (ans h) (done h) a) i j)) (upd done h (done h + 1) i)) (fun i _ hn => by rw [dt i hn]; exact sm_congr _ (fun j _ => by rw [upd_other _ _ hn]))
      simp only [upd_same] at v2
      have v3 : sm (fun j => g (P.jb h j) (upd (ans h) (done h) a j)) (done h + 1) = sm (fun j => g (P.jb h j) (ans h j)) (done h) + g (P.jb h (done h)) a := by
        show sm _ (done h) + g _ (upd (ans h) (done h) a (done h)) = _
        rw [upd_same, sm_congr (done h) (fun j hj => by rw [upd_other _ _ (show j ≠ done h by omega)])]
      unfold tot
      omega
    have i1 := I.cn p hp
    have i2 := cn p hp
    rw [tt, tt]
    unfold und at i1 ⊢
    omega
end

/-- What a load tells. -/
theorem ld_step {n : Nat} {f : Nat → Int} {a : Nat} (h : Int) (ha : a < n) : stepOf n f ⟨h, 1, (a : Int), 0, 0, true⟩ = ⟨h, 1, a, f a, f a, true⟩ := by
  have : (0 : Int) ≤ a ∧ (a : Int) < n := by omega
  simp [stepOf, this, actOf, putBy]
theorem ld_words {n : Nat} {f : Nat → Int} {a : Nat} (h : Int) (ha : a < n) : wordsOf n f ⟨h, 1, (a : Int), 0, 0, true⟩ = f := by
  unfold wordsOf
  have : (0 : Int) ≤ a ∧ (a : Int) < n := by omega
  rw [if_pos this, ld_step h ha]
  funext j
  show (if j = (a : Int).toNat then f a else f j) = f j
  split
  · rename_i e; rw [e]; simp
  · rfl
theorem st_step {n : Nat} {f : Nat → Int} {a : Nat} (h v : Int) (ha : a < n) : stepOf n f ⟨h, 2, (a : Int), 0, v, true⟩ = ⟨h, 2, a, f a, v, true⟩ := by
  have : (0 : Int) ≤ a ∧ (a : Int) < n := by omega
  simp [stepOf, this, actOf, putBy]
theorem st_words {n : Nat} {f : Nat → Int} {a : Nat} (h v : Int) (ha : a < n) : wordsOf n f ⟨h, 2, (a : Int), 0, v, true⟩ = putF f a v := by
  unfold wordsOf
  have : (0 : Int) ≤ a ∧ (a : Int) < n := by omega
  rw [if_pos this, st_step h v ha]
  simp
theorem cas_yes {n : Nat} {f : Nat → Int} {a : Nat} (h o v : Int) (ha : a < n) (e : f a = o) : stepOf n f ⟨h, 5, (a : Int), o, v, true⟩ = ⟨h, 5, a, f a, v, true⟩ ∧ wordsOf n f ⟨h, 5, (a : Int), o, v, true⟩ = putF f a v := by
  have t : (0 : Int) ≤ a ∧ (a : Int) < n := by omega
  have x : stepOf n f ⟨h, 5, (a : Int), o, v, true⟩ = ⟨h, 5, a, f a, v, true⟩ := by simp [stepOf, t, actOf, putBy, e]
  refine ⟨x, ?_⟩
  unfold wordsOf
  rw [if_pos t, x]
  simp
theorem cas_no {n : Nat} {f : Nat → Int} {a : Nat} (h o v : Int) (ha : a < n) (e : ¬ f a = o) : stepOf n f ⟨h, 5, (a : Int), o, v, true⟩ = ⟨h, 5, a, f a, f a, false⟩ ∧ wordsOf n f ⟨h, 5, (a : Int), o, v, true⟩ = f := by
  have t : (0 : Int) ≤ a ∧ (a : Int) < n := by omega
  have x : stepOf n f ⟨h, 5, (a : Int), o, v, true⟩ = ⟨h, 5, a, f a, f a, false⟩ := by simp [stepOf, t, actOf, putBy, e]
  refine ⟨x, ?_⟩
  unfold wordsOf
  rw [if_pos t, x]
  funext j
  show (if j = (a : Int).toNat then f a else f j) = f j
  split
  · rename_i e; rw [e]; simp
  · rfl
theorem putF_other {f : Nat → Int} {a j : Nat} {v : Int} (h : j ≠ a) : putF f a v j = f j := if_neg h
theorem putF_same {f : Nat → Int} {a : Nat} {v : Int} : putF f a v a = v := if_pos rfl

/-- Word 0 and the step that is told. -/
theorem word0 {n : Nat} (hn : 0 < n) (f : Nat → Int) (q : Stp) : (q.at_ = 0 → (stepOf n f q).had = f 0 ∧ (stepOf n f q).put = wordsOf n f q 0) ∧ (¬ q.at_ = 0 → wordsOf n f q 0 = f 0) := by
  constructor
  · intro e
    have t : 0 ≤ q.at_ ∧ q.at_ < n := by omega
    unfold wordsOf
    rw [if_pos t, e]
    refine ⟨by unfold stepOf; rw [if_pos t, e]; rfl, ?_⟩
    exact (if_pos (show (0 : Nat) = (0 : Int).toNat from rfl)).symm
  · intro e
    unfold wordsOf
    split
    · exact putF_other (by omega)
    · rfl

theorem step_at (n : Nat) (f : Nat → Int) (q : Stp) : (stepOf n f q).at_ = q.at_ ∧ (stepOf n f q).hand = q.hand := by unfold stepOf; split <;> exact ⟨rfl, rfl⟩

theorem told_b {r : Nat} {s : EpS} {x : Stp} (H : Wf r s) (hr : r ≤ 64) (he : eends r s x = true) : 0 ≤ (enext r s x).told.val ∧ (enext r s x).told.val ≤ 18446744073709551615 := by
  have he' := H.e
  have hm := H.mask
  have hz : (0 : Int) ≤ 0 ∧ (0 : Int) ≤ 18446744073709551615 := by omega
  unfold eends at he
  unfold enext
  by_cases k1 : s.j.kind = 1
  · rw [if_pos k1] at he ⊢
    by_cases s0 : s.st = 0
    · rw [if_pos s0] at he; cases he
    · rw [if_neg s0]; exact he'
  rw [if_neg k1] at he ⊢
  by_cases k2 : s.j.kind = 2
  · rw [if_pos k2]; exact hz
  rw [if_neg k2] at he ⊢
  by_cases k3 : s.j.kind = 3
  · rw [if_pos k3] at he ⊢
    by_cases s0 : s.st = 0
    · rw [if_pos s0] at he; cases he
    · rw [if_neg s0]; exact hz
  rw [if_neg k3] at he ⊢
  by_cases s4 : s.st = 4
  · rw [if_pos s4] at he
    have n0 : ¬ s.st = 0 := by omega
    have n1 : ¬ s.st = 1 := by omega
    have n2 : ¬ s.st = 2 := by omega
    have n3 : ¬ s.st = 3 := by omega
    rw [if_neg n0, if_neg n1, if_neg n2, if_neg n3, if_pos s4]
    by_cases d : due x.had s.f
    · rw [if_pos d] at he; cases he
    · rw [if_neg d] at he ⊢
      have a9 : ¬ s.nx + 1 < r := by simpa using he
      simp only [if_neg a9]
      exact hm
  rw [if_neg s4] at he
  by_cases s5 : s.st = 5
  · rw [if_pos s5] at he
    have n0 : ¬ s.st = 0 := by omega
    have n1 : ¬ s.st = 1 := by omega
    have n2 : ¬ s.st = 2 := by omega
    have n3 : ¬ s.st = 3 := by omega
    rw [if_neg n0, if_neg n1, if_neg n2, if_neg n3, if_neg s4]
    have a9 : ¬ s.nx + 1 < r := by simpa using he
    simp only [if_neg a9]
    split
    · exact mput_bounds hm ⟨H.nx.1, by have := H.nx4 (by omega); omega⟩
    · exact hm
  · rw [if_neg s5] at he; cases he

/-- A step of a run. -/
theorem Iv.step {r : Nat} {P : Par} {f : Nat → Int} {done : Nat → Nat} {cur : Nat → EpS} {ans : Nat → Nat → Ans} {k h : Nat} (hr1 : 1 ≤ r) (hr2 : r ≤ 64) (hn : P.n = 9 + r) (hok : ∀ h, h < P.nh → ∀ j, j < P.jn h → eerr r h (P.jb h j) = 0 ∧ (P.jb h j).wf) (hk : k ≤ 65536) (I : Iv r P f done cur ans k) (hh : h < P.nh) (hd : done h < P.jn h) {x : Stp} {f' : Nat → Int} (hx : stepOf P.n f (ereq (cur h)) = x) (hf : wordsOf P.n f (ereq (cur h)) = f') :
    Iv r P f' (if eends r (cur h) x = true then upd done h (done h + 1) else done) (upd cur h (if eends r (cur h) x = true then einit h (P.jb h (done h + 1)) else enext r (cur h) x)) (if eends r (cur h) x = true then upd ans h (upd (ans h) (done h) (enext r (cur h) x).told) else ans) (k + 1) ∧ (f' 0 = f 0 ∨ f' 0 = u64 (f 0 + 1)) := by
  obtain ⟨hj, W, hha⟩ := I.wf h hh hd
  obtain ⟨ep1, ep2⟩ := I.ep h hh hd
  have gz := I.gz h hh hd
  have M := I.mb h hh hd
  have hf0 := I.f0
  have hxb := had_bounds I.wd (ereq (cur h))
  have hwd := wordsOf_bounds I.wd (ereq_put W)
  rw [hx] at hxb
  rw [hf] at hwd
  have hhb : 0 ≤ (h : Int) ∧ (h : Int) < 8 := (eerr_cases (hok h hh _ hd).1).2
  have hini : done h + 1 < P.jn h → Wf r (einit h (P.jb h (done h + 1))) ∧ (0 ≤ (h : Int) ∧ (h : Int) < 8) := fun hl => ⟨wf_init (by omega) _ ⟨(hok h hh _ hl).2, h, (hok h hh _ hl).1⟩, hhb⟩
  have bz : (cur h).st < 4 → ∀ p, bit p (cur h).mask = 0 := fun hs p => by
    have := bit_le p (cur h).mask
    rcases Nat.lt_or_ge (bit p (cur h).mask) 1 with l | l
    · omega
    · exact absurd (M p (by omega)).1 (by omega)
  have own : ∀ v, wordsOf P.n f ⟨(cur h).hand, 2, 1 + (cur h).hand, 0, v, true⟩ = putF f (1 + h) v := fun v => by
    rw [hha]
    have := st_words (n := P.n) (f := f) (a := 1 + h) (h : Int) v (by omega)
    simpa using this
  rcases W.st with ⟨kk, hst⟩ | ⟨kk, hst⟩ | ⟨kk, hja, hst⟩ | ⟨kk, hst⟩
  · rcases hst with hst | hst
    · skip
      have e4 : ereq (cur h) = ⟨(cur h).hand, 1, ((0 : Nat) : Int), 0, 0, true⟩ := by simp [ereq, kk, hst]
      rw [e4] at hx hf
      rw [ld_step _ (by omega)] at hx
      rw [ld_words _ (by omega)] at hf
      subst hf
      subst hx
      have e7 : enext r (cur h) ⟨(cur h).hand, 1, ((0 : Nat) : Int), f 0, f 0, true⟩ = { cur h with e := f 0, st := 1 } := by simp [enext, kk, hst]
      have e5 : eends r (cur h) ⟨(cur h).hand, 1, ((0 : Nat) : Int), f 0, f 0, true⟩ = false := by simp [eends, kk, hst]
      have W' := enext_wf (r := r) ⟨by omega, by omega⟩ W hxb (by rw [e5]; decide)
      have ej := enext_j r (cur h) ⟨(cur h).hand, 1, ((0 : Nat) : Int), f 0, f 0, true⟩
      have eh := enext_hand r (cur h) ⟨(cur h).hand, 1, ((0 : Nat) : Int), f 0, f 0, true⟩
      rw [e7] at W' ej eh
      rw [e5, e7]
      exact ⟨I.goes hh hd hwd ej W' eh (Int.le_refl _) (by omega) ⟨Int.le_refl _, ep2⟩ (fun h => absurd h (by show ¬ (1 : Int) = 5; decide)) (fun p hp => absurd (bz (by omega) p) (by show ¬ bit p (cur h).mask = 0; have : bit p (cur h).mask = 1 := hp; omega)) (fun p hp => rfl), .inl rfl⟩
    · skip
      have e4 : ereq (cur h) = ⟨(cur h).hand, 2, 1 + (cur h).hand, 0, u64 ((cur h).e + 1), true⟩ := by simp [ereq, kk, hst]
      rw [e4, own] at hf
      have z0 : f' 0 = f 0 := by rw [← hf]; exact putF_other (by omega)
      have zp : ∀ p, f' (9 + p) = f (9 + p) := fun p => by rw [← hf]; exact putF_other (by omega)
      have e5 : eends r (cur h) x = true := by simp [eends, kk, hst]
      rw [e5]
      refine ⟨?_, .inl z0⟩
      simp only [if_true]
      refine I.over hh hd hwd (told_b W hr2 e5) (by omega) (by omega) rfl hini (fun p hp => ?_)
      rw [zp p, ← hj]
      have b := bz (by omega) p
      simp [gv, rp, kk, b]
  · skip
    have e4 : ereq (cur h) = ⟨(cur h).hand, 2, 1 + (cur h).hand, 0, 0, true⟩ := by simp [ereq, kk]
    rw [e4, own] at hf
    have z0 : f' 0 = f 0 := by rw [← hf]; exact putF_other (by omega)
    have zp : ∀ p, f' (9 + p) = f (9 + p) := fun p => by rw [← hf]; exact putF_other (by omega)
    have e5 : eends r (cur h) x = true := by simp [eends, kk]
    rw [e5]
    refine ⟨?_, .inl z0⟩
    simp only [if_true]
    refine I.over hh hd hwd (told_b W hr2 e5) (by omega) (by omega) rfl hini (fun p hp => ?_)
    rw [zp p, ← hj]
    have b := bz (by omega) p
    simp [gv, rp, kk, b]
  · rcases hst with hst | hst
    · skip
      have e4 : ereq (cur h) = ⟨(cur h).hand, 1, ((0 : Nat) : Int), 0, 0, true⟩ := by simp [ereq, kk, hst]
      rw [e4] at hx hf
      rw [ld_step _ (by omega)] at hx
      rw [ld_words _ (by omega)] at hf
      subst hf
      subst hx
      have e7 : enext r (cur h) ⟨(cur h).hand, 1, ((0 : Nat) : Int), f 0, f 0, true⟩ = { cur h with e := f 0, st := 1 } := by simp [enext, kk, hst]
      have e5 : eends r (cur h) ⟨(cur h).hand, 1, ((0 : Nat) : Int), f 0, f 0, true⟩ = false := by simp [eends, kk, hst]
      have W' := enext_wf (r := r) ⟨by omega, by omega⟩ W hxb (by rw [e5]; decide)
      have ej := enext_j r (cur h) ⟨(cur h).hand, 1, ((0 : Nat) : Int), f 0, f 0, true⟩
      have eh := enext_hand r (cur h) ⟨(cur h).hand, 1, ((0 : Nat) : Int), f 0, f 0, true⟩
      rw [e7] at W' ej eh
      rw [e5, e7]
      exact ⟨I.goes hh hd hwd ej W' eh (Int.le_refl _) (by omega) ⟨Int.le_refl _, ep2⟩ (fun h => absurd h (by show ¬ (1 : Int) = 5; decide)) (fun p hp => absurd (bz (by omega) p) (by show ¬ bit p (cur h).mask = 0; have : bit p (cur h).mask = 1 := hp; omega)) (fun p hp => rfl), .inl rfl⟩
    · obtain ⟨p0, hp0⟩ : ∃ p0 : Nat, (cur h).j.a = p0 := ⟨(cur h).j.a.toNat, by omega⟩
      have e4 : ereq (cur h) = ⟨(cur h).hand, 5, ((9 + p0 : Nat) : Int), 0, u64 ((cur h).e + 1), true⟩ := by simp [ereq, kk, hst, hp0]
      have eu : u64 ((cur h).e + 1) = (cur h).e + 1 := u64_id (by have := W.e; omega)
      rw [e4] at hx hf
      by_cases hc : f (9 + p0) = 0
      · obtain ⟨c1, c2⟩ := cas_yes (n := P.n) (f := f) (a := 9 + p0) (cur h).hand 0 (u64 ((cur h).e + 1)) (by omega) hc
        rw [c1] at hx
        rw [c2] at hf
        have z0 : f' 0 = f 0 := by rw [← hf]; exact putF_other (by omega)
        have e5 : eends r (cur h) x = true := by simp [eends, kk, hst]
        rw [e5]
        refine ⟨?_, .inl z0⟩
        simp only [if_true]
        refine I.over hh hd hwd (told_b W hr2 e5) (by omega) (by omega) rfl hini (fun p hp => ?_)
        have ea : (enext r (cur h) x).told = ⟨true, 0⟩ := by rw [← hx]; simp [enext, kk, hst]
        rw [ea, ← hj]
        have b := bz (by omega) p
        by_cases e : p = p0
        · subst e
          have z1 : f' (9 + p) = (cur h).e + 1 := by rw [← hf, putF_same, eu]
          have : ¬ (cur h).e + 1 = 0 := by have := W.e; omega
          simp [gv, rp, kk, b, hp0, z1, hc, nz, this]
        · have z1 : f' (9 + p) = f (9 + p) := by rw [← hf]; exact putF_other (by omega)
          have e' : ¬ (p0 : Int) = p := by omega
          simp [gv, rp, kk, b, hp0, z1, e']
      · obtain ⟨c1, c2⟩ := cas_no (n := P.n) (f := f) (a := 9 + p0) (cur h).hand 0 (u64 ((cur h).e + 1)) (by omega) hc
        rw [c1] at hx
        rw [c2] at hf
        subst hf
        have e5 : eends r (cur h) x = true := by simp [eends, kk, hst]
        rw [e5]
        refine ⟨?_, .inl rfl⟩
        simp only [if_true]
        refine I.over hh hd hwd (told_b W hr2 e5) (Int.le_refl _) (by omega) rfl hini (fun p hp => ?_)
        have ea : (enext r (cur h) x).told = ⟨false, 0⟩ := by rw [← hx]; simp [enext, kk, hst]
        rw [ea, ← hj]
        have b := bz (by omega) p
        simp [gv, rp, kk, b]
  · have n1 : ¬ (cur h).j.kind = 1 := by omega
    have n2 : ¬ (cur h).j.kind = 2 := by omega
    have n3 : ¬ (cur h).j.kind = 3 := by omega
    obtain hst | hst | hst | hst | hst | hst : (cur h).st = 0 ∨ (cur h).st = 1 ∨ (cur h).st = 2 ∨ (cur h).st = 3 ∨ (cur h).st = 4 ∨ (cur h).st = 5 := by omega
    · skip
      have e4 : ereq (cur h) = ⟨(cur h).hand, 1, ((0 : Nat) : Int), 0, 0, true⟩ := by simp [ereq, n1, n2, n3, hst]
      rw [e4] at hx hf
      rw [ld_step _ (by omega)] at hx
      rw [ld_words _ (by omega)] at hf
      subst hf
      subst hx
      have e7 : enext r (cur h) ⟨(cur h).hand, 1, ((0 : Nat) : Int), f 0, f 0, true⟩ = { cur h with e := f 0, nx := 0, st := 1 } := by simp [enext, n1, n2, n3, hst]
      have e5 : eends r (cur h) ⟨(cur h).hand, 1, ((0 : Nat) : Int), f 0, f 0, true⟩ = false := by simp [eends, n1, n2, n3, hst]
      have W' := enext_wf (r := r) ⟨by omega, by omega⟩ W hxb (by rw [e5]; decide)
      have ej := enext_j r (cur h) ⟨(cur h).hand, 1, ((0 : Nat) : Int), f 0, f 0, true⟩
      have eh := enext_hand r (cur h) ⟨(cur h).hand, 1, ((0 : Nat) : Int), f 0, f 0, true⟩
      rw [e7] at W' ej eh
      rw [e5, e7]
      exact ⟨I.goes hh hd hwd ej W' eh (Int.le_refl _) (by omega) ⟨Int.le_refl _, ep2⟩ (fun h => absurd h (by show ¬ (1 : Int) = 5; decide)) (fun p hp => absurd (bz (by omega) p) (by show ¬ bit p (cur h).mask = 0; have : bit p (cur h).mask = 1 := hp; omega)) (fun p hp => rfl), .inl rfl⟩
    · obtain ⟨q, hq⟩ : ∃ q : Nat, (cur h).nx = q := ⟨(cur h).nx.toNat, by have := W.nx; omega⟩
      have hq8 := W.nx1 hst
      have e4 : ereq (cur h) = ⟨(cur h).hand, 1, ((1 + q : Nat) : Int), 0, 0, true⟩ := by simp [ereq, kk, hst, hq]
      rw [e4] at hx hf
      rw [ld_words _ (by omega)] at hf
      subst hf
      obtain ⟨v, hv, hv2⟩ : ∃ v : Int, (if bars x.had (cur h).e then 3 else if (cur h).nx + 1 = 8 then 2 else 1) = v ∧ (v = 3 ∨ v = 2 ∨ v = 1) := ⟨_, rfl, by
        split
        · exact .inl rfl
        · split
          · exact .inr (.inl rfl)
          · exact .inr (.inr rfl)⟩
      have e7 : enext r (cur h) x = { cur h with nx := (cur h).nx + 1, st := v } := by rw [← hv]; simp [enext, kk, hst]
      have e5 : eends r (cur h) x = false := by simp [eends, kk, hst]
      have W' := enext_wf (r := r) ⟨by omega, by omega⟩ W hxb (by rw [e5]; decide)
      have ej := enext_j r (cur h) x
      have eh := enext_hand r (cur h) x
      rw [e7] at W' ej eh
      rw [e5, e7]
      exact ⟨I.goes hh hd hwd ej W' eh (Int.le_refl _) (by omega) ⟨ep1, ep2⟩ (fun h => absurd h (by show ¬ v = 5; omega)) (fun p hp => absurd (bz (by omega) p) (by show ¬ bit p (cur h).mask = 0; have : bit p (cur h).mask = 1 := hp; omega)) (fun p hp => rfl), .inl rfl⟩
    · have e4 : ereq (cur h) = ⟨(cur h).hand, 5, ((0 : Nat) : Int), (cur h).e, u64 ((cur h).e + 1), true⟩ := by simp [ereq, kk, hst]
      have eu : u64 ((cur h).e + 1) = (cur h).e + 1 := u64_id (by have := W.e; omega)
      have e7 : enext r (cur h) x = { cur h with st := 3 } := by simp [enext, kk, hst]
      rw [e4] at hx hf
      by_cases hc : f 0 = (cur h).e
      · obtain ⟨c1, c2⟩ := cas_yes (n := P.n) (f := f) (a := 0) (cur h).hand (cur h).e (u64 ((cur h).e + 1)) (by omega) hc
        rw [c2] at hf
        have z0 : f' 0 = f 0 + 1 := by rw [← hf, putF_same, eu, hc]
        have zp : ∀ p, f' (9 + p) = f (9 + p) := fun p => by rw [← hf]; exact putF_other (by omega)
        have e5 : eends r (cur h) x = false := by simp [eends, kk, hst]
        have W' := enext_wf (r := r) ⟨by omega, by omega⟩ W hxb (by rw [e5]; decide)
        have ej := enext_j r (cur h) x
        have eh := enext_hand r (cur h) x
        rw [e7] at W' ej eh
        rw [e5, e7]
        exact ⟨I.goes hh hd hwd ej W' eh (by omega) (by omega) ⟨by show (cur h).e ≤ _; omega, by show (cur h).f ≤ _; omega⟩ (fun h => absurd h (by show ¬ (3 : Int) = 5; decide)) (fun p hp => absurd (bz (by omega) p) (by show ¬ bit p (cur h).mask = 0; have : bit p (cur h).mask = 1 := hp; omega)) (fun p hp => by show bit p (cur h).mask + _ = bit p (cur h).mask + _; rw [zp p]), .inr (by rw [z0]; exact (u64_id (by omega)).symm)⟩
      · obtain ⟨c1, c2⟩ := cas_no (n := P.n) (f := f) (a := 0) (cur h).hand (cur h).e (u64 ((cur h).e + 1)) (by omega) hc
        rw [c2] at hf
        subst hf
        have e5 : eends r (cur h) x = false := by simp [eends, kk, hst]
        have W' := enext_wf (r := r) ⟨by omega, by omega⟩ W hxb (by rw [e5]; decide)
        have ej := enext_j r (cur h) x
        have eh := enext_hand r (cur h) x
        rw [e7] at W' ej eh
        rw [e5, e7]
        exact ⟨I.goes hh hd hwd ej W' eh (Int.le_refl _) (by omega) ⟨ep1, ep2⟩ (fun h => absurd h (by show ¬ (3 : Int) = 5; decide)) (fun p hp => absurd (bz (by omega) p) (by show ¬ bit p (cur h).mask = 0; have : bit p (cur h).mask = 1 := hp; omega)) (fun p hp => rfl), .inl rfl⟩
    · skip
      have e4 : ereq (cur h) = ⟨(cur h).hand, 1, ((0 : Nat) : Int), 0, 0, true⟩ := by simp [ereq, n1, n2, n3, hst]
      rw [e4] at hx hf
      rw [ld_step _ (by omega)] at hx
      rw [ld_words _ (by omega)] at hf
      subst hf
      subst hx
      have e7 : enext r (cur h) ⟨(cur h).hand, 1, ((0 : Nat) : Int), f 0, f 0, true⟩ = { cur h with f := f 0, nx := 0, st := 4 } := by simp [enext, n1, n2, n3, hst]
      have e5 : eends r (cur h) ⟨(cur h).hand, 1, ((0 : Nat) : Int), f 0, f 0, true⟩ = false := by simp [eends, n1, n2, n3, hst]
      have W' := enext_wf (r := r) ⟨by omega, by omega⟩ W hxb (by rw [e5]; decide)
      have ej := enext_j r (cur h) ⟨(cur h).hand, 1, ((0 : Nat) : Int), f 0, f 0, true⟩
      have eh := enext_hand r (cur h) ⟨(cur h).hand, 1, ((0 : Nat) : Int), f 0, f 0, true⟩
      rw [e7] at W' ej eh
      rw [e5, e7]
      exact ⟨I.goes hh hd hwd ej W' eh (Int.le_refl _) (by omega) ⟨ep1, Int.le_refl _⟩ (fun h => absurd h (by show ¬ (4 : Int) = 5; decide)) (fun p hp => absurd (bz (by omega) p) (by show ¬ bit p (cur h).mask = 0; have : bit p (cur h).mask = 1 := hp; omega)) (fun p hp => rfl), .inl rfl⟩
    · obtain ⟨q, hq⟩ : ∃ q : Nat, (cur h).nx = q := ⟨(cur h).nx.toNat, by have := W.nx; omega⟩
      have hq4 := W.nx4 (by omega)
      have e4 : ereq (cur h) = ⟨(cur h).hand, 1, ((9 + q : Nat) : Int), 0, 0, true⟩ := by simp [ereq, kk, hst, hq]
      rw [e4] at hx hf
      rw [ld_words _ (by omega)] at hf
      subst hf
      by_cases d : due x.had (cur h).f
      · have e7 : enext r (cur h) x = { cur h with w := x.had, given := x.had, st := 5 } := by simp [enext, kk, hst, d]
        have e5 : eends r (cur h) x = false := by simp [eends, kk, hst, d]
        have W' := enext_wf (r := r) ⟨by omega, by omega⟩ W hxb (by rw [e5]; decide)
        have ej := enext_j r (cur h) x
        have eh := enext_hand r (cur h) x
        rw [e7] at W' ej eh
        rw [e5, e7]
        exact ⟨I.goes hh hd hwd ej W' eh (Int.le_refl _) (by omega) ⟨ep1, ep2⟩ (fun _ => d.1) (fun p hp => ⟨by show (4 : Int) ≤ 5; decide, (M p hp).2⟩) (fun p hp => rfl), .inl rfl⟩
      · by_cases a9 : (cur h).nx + 1 < r
        · have e7 : enext r (cur h) x = { cur h with w := x.had, nx := (cur h).nx + 1 } := by simp [enext, kk, hst, d, a9]
          have e5 : eends r (cur h) x = false := by simp [eends, kk, hst, d, a9]
          have W' := enext_wf (r := r) ⟨by omega, by omega⟩ W hxb (by rw [e5]; decide)
          have ej := enext_j r (cur h) x
          have eh := enext_hand r (cur h) x
          rw [e7] at W' ej eh
          rw [e5, e7]
          exact ⟨I.goes hh hd hwd ej W' eh (Int.le_refl _) (by omega) ⟨ep1, ep2⟩ (fun h => absurd h (by show ¬ (cur _).st = 5; omega)) (fun p hp => ⟨by show (4 : Int) ≤ (cur h).st; omega, by have := (M p hp).2; show (p : Int) < (cur h).nx + 1; omega⟩) (fun p hp => rfl), .inl rfl⟩
        · skip
          have e5 : eends r (cur h) x = true := by simp [eends, kk, hst, d, a9]
          rw [e5]
          refine ⟨?_, .inl rfl⟩
          simp only [if_true]
          refine I.over hh hd hwd (told_b W hr2 e5) (Int.le_refl _) (by omega) rfl hini (fun p hp => ?_)
          have ea : (enext r (cur h) x).told = ⟨true, (cur h).mask⟩ := by simp [enext, kk, hst, d, a9]
          rw [ea, ← hj]
          simp [gv, rp, kk]
          omega
    · obtain ⟨q, hq⟩ : ∃ q : Nat, (cur h).nx = q := ⟨(cur h).nx.toNat, by have := W.nx; omega⟩
      have hq4 := W.nx4 (by omega)
      have e4 : ereq (cur h) = ⟨(cur h).hand, 5, ((9 + q : Nat) : Int), (cur h).given, 0, true⟩ := by simp [ereq, kk, hst, hq]
      have g0 := gz hst
      have qb : bit (cur h).nx.toNat (cur h).mask = 0 := by
        have := bit_le (cur h).nx.toNat (cur h).mask
        rcases Nat.lt_or_ge (bit (cur h).nx.toNat (cur h).mask) 1 with l | l
        · omega
        · exact absurd (M (cur h).nx.toNat (by omega)).2 (by omega)
      have bp : ∀ p, bit p (mput (cur h).mask (cur h).nx) = bit p (cur h).mask + (if (p : Int) = (cur h).nx then 1 else 0) := fun p => bit_put p (by omega) qb
      rw [e4] at hx hf
      by_cases hc : f (9 + q) = (cur h).given
      · obtain ⟨c1, c2⟩ := cas_yes (n := P.n) (f := f) (a := 9 + q) (cur h).hand (cur h).given 0 (by omega) hc
        rw [c1] at hx
        rw [c2] at hf
        have z0 : f' 0 = f 0 := by rw [← hf]; exact putF_other (by omega)
        have xo : x.ok = true := by rw [← hx]
        have zp : ∀ p : Nat, (if (p : Int) = (cur h).nx then 1 else 0) + nz (f' (9 + p)) = nz (f (9 + p)) := fun p => by
          by_cases e : p = q
          · subst e
            rw [← hf, putF_same, if_pos hq.symm, hc]
            simp [nz, g0]
          · rw [← hf, putF_other (by omega), if_neg (by omega)]
            omega
        by_cases a9 : (cur h).nx + 1 < r
        · have e7 : enext r (cur h) x = { cur h with mask := mput (cur h).mask (cur h).nx, nx := (cur h).nx + 1, st := 4 } := by simp [enext, kk, hst, xo, a9]
          have e5 : eends r (cur h) x = false := by simp [eends, kk, hst, a9]
          have W' := enext_wf (r := r) ⟨by omega, by omega⟩ W hxb (by rw [e5]; decide)
          have ej := enext_j r (cur h) x
          have eh := enext_hand r (cur h) x
          rw [e7] at W' ej eh
          rw [e5, e7]
          exact ⟨I.goes hh hd hwd ej W' eh (by omega) (by omega) ⟨by show (cur h).e ≤ _; omega, by show (cur h).f ≤ _; omega⟩ (fun h => absurd h (by show ¬ (4 : Int) = 5; decide)) (fun p hp => ⟨by show (4 : Int) ≤ 4; decide, by
            have hp' : bit p (mput (cur h).mask (cur h).nx) = 1 := hp
            rw [bp p] at hp'
            show (p : Int) < (cur h).nx + 1
            by_cases e : (p : Int) = (cur h).nx
            · omega
            · rw [if_neg e] at hp'
              have := (M p (by omega)).2
              omega⟩) (fun p hp => by have := bp p; have := zp p; show bit p (cur h).mask + _ = bit p (mput (cur h).mask (cur h).nx) + _; omega), .inl z0⟩
        · skip
          have e5 : eends r (cur h) x = true := by simp [eends, kk, hst, a9]
          rw [e5]
          refine ⟨?_, .inl z0⟩
          simp only [if_true]
          refine I.over hh hd hwd (told_b W hr2 e5) (by omega) (by omega) rfl hini (fun p hp => ?_)
          have ea : (enext r (cur h) x).told = ⟨true, mput (cur h).mask (cur h).nx⟩ := by simp [enext, kk, hst, xo, a9]
          rw [ea, ← hj]
          have b1 := bp p
          have b2 := zp p
          simp only [gv, rp, kk]
          simp
          omega
      · obtain ⟨c1, c2⟩ := cas_no (n := P.n) (f := f) (a := 9 + q) (cur h).hand (cur h).given 0 (by omega) hc
        rw [c1] at hx
        rw [c2] at hf
        subst hf
        have xo : x.ok = false := by rw [← hx]
        by_cases a9 : (cur h).nx + 1 < r
        · have e7 : enext r (cur h) x = { cur h with nx := (cur h).nx + 1, st := 4 } := by simp [enext, kk, hst, xo, a9]
          have e5 : eends r (cur h) x = false := by simp [eends, kk, hst, a9]
          have W' := enext_wf (r := r) ⟨by omega, by omega⟩ W hxb (by rw [e5]; decide)
          have ej := enext_j r (cur h) x
          have eh := enext_hand r (cur h) x
          rw [e7] at W' ej eh
          rw [e5, e7]
          exact ⟨I.goes hh hd hwd ej W' eh (Int.le_refl _) (by omega) ⟨ep1, ep2⟩ (fun h => absurd h (by show ¬ (4 : Int) = 5; decide)) (fun p hp => ⟨by show (4 : Int) ≤ 4; decide, by have := (M p hp).2; show (p : Int) < (cur h).nx + 1; omega⟩) (fun p hp => rfl), .inl rfl⟩
        · skip
          have e5 : eends r (cur h) x = true := by simp [eends, kk, hst, a9]
          rw [e5]
          refine ⟨?_, .inl rfl⟩
          simp only [if_true]
          refine I.over hh hd hwd (told_b W hr2 e5) (Int.le_refl _) (by omega) rfl hini (fun p hp => ?_)
          have ea : (enext r (cur h) x).told = ⟨true, (cur h).mask⟩ := by simp [enext, kk, hst, xo, a9]
          rw [ea, ← hj]
          simp [gv, rp, kk]
          omega

end Epoch
end Go.Proofs.Ytbohmahjpolapaa

/-
  EpochSafe, without a program: what the law keeps along a run from fresh words, and why it never says no.
-/
namespace Go.Proofs.Ytbohmahjpolapaa
open Go.RowKit
set_option linter.unusedVariables false
set_option linter.unusedSimpArgs false
set_option maxRecDepth 20000
namespace Epoch

/-- The last load of the epoch among a job's steps but the first. -/
def lf (g : Nat → Stp) : Nat → Int
  | 0 => 0
  | n + 1 => if 1 ≤ n ∧ (g n).at_ = 0 ∧ (g n).act = 1 then (g n).had else lf g n
theorem lf_congr {g g' : Nat → Stp} : ∀ n, (∀ i, i < n → g i = g' i) → lf g n = lf g' n
  | 0, _ => rfl
  | n + 1, h => by
    unfold lf
    rw [h n (by omega), lf_congr n (fun i hi => h i (by omega))]
theorem lf_put (g : Nat → Stp) (n : Nat) (x : Stp) : lf (upd g n x) (n + 1) = if 1 ≤ n ∧ x.at_ = 0 ∧ x.act = 1 then x.had else lf g n := by
  show (if 1 ≤ n ∧ (upd g n x n).at_ = 0 ∧ (upd g n x n).act = 1 then (upd g n x n).had else lf (upd g n x) n) = _
  rw [upd_same, lf_congr n (fun i hi => upd_other _ _ (show i ≠ n by omega))]

/-- What the law keeps. -/
structure Lw where
  ins : Nat → Nat
  giv : Nat → Nat
  beg : Nat → Nat
  ml : Nat → Nat
  md : Nat → Nat → Stp

/-- Does the law say that a job's last step ends it? n steps were made ahead of it. -/
def lends (r : Nat) (kind : Int) (g : Nat → Stp) (n : Nat) (x : Stp) : Bool :=
  if kind = 1 ∨ kind = 3 then decide (n = 1) else if kind = 2 then true
  else if ¬ x.at_ = 8 + (r : Int) ∨ n < 2 then false
  else decide (x.act = 5 ∨ x.had = 0 ∨ lf (upd g n x) (n + 1) < u64 (x.had + 1))

def Lw.beg' (L : Lw) (h k : Nat) : Nat → Nat := if L.ml h = 0 then upd L.beg h (k + 1) else L.beg
def Lw.ins' (L : Lw) (h : Nat) (kind : Int) : Nat → Nat := if L.ml h = 0 ∧ (kind = 1 ∨ kind = 2) then upd L.ins h 0 else L.ins
def Lw.giv' (L : Lw) (h k : Nat) (kind : Int) (x : Stp) : Nat → Nat := if x.act = 5 ∧ 9 ≤ x.at_ ∧ x.ok = true then upd L.giv (x.at_ - 9).toNat (if kind = 3 then L.beg' h k h else 0) else L.giv
/-- What the law keeps behind a step. -/
def Lw.next (L : Lw) (h k : Nat) (kind : Int) (x : Stp) (en : Bool) : Lw :=
  ⟨if en = true ∧ kind = 1 then upd (L.ins' h kind) h (k + 1) else L.ins' h kind, L.giv' h k kind x, L.beg' h k, upd L.ml h (if en = true then 0 else L.ml h + 1), upd L.md h (upd (L.md h) (L.ml h) x)⟩

/-- A job under way. -/
structure HQ (h : Nat) (s : EpS) (ins : Nat → Nat) (E0 : Nat → Int) (bg ml : Nat) (g : Nat → Stp) : Prop where
  c1 : s.j.kind = 1 → s.st = 1 → ins h = 0
  c3 : s.j.kind = 3 → s.st = 1 → ∀ k, 0 < ins k → ins k < bg → E0 k ≤ s.e
  c4 : s.j.kind = 4 → ∀ k, k < 8 → 0 < ins k → (s.st = 2 ∨ s.st = 1 ∧ (k : Int) < s.nx) → s.e ≤ E0 k
  c5 : s.st = 5 → s.given + 1 ≤ s.f
  m0 : ml = 0 ↔ s.st = 0
  m1 : s.j.kind = 1 ∨ s.j.kind = 3 → s.st = 1 → ml = 1
  m4 : 4 ≤ s.st → 2 ≤ ml ∧ lf g ml = s.f
  b : ¬ s.st = 0 → 1 ≤ bg

theorem HQ.init (h : Nat) (h' : Int) (j : Jb) (ins : Nat → Nat) (E0 : Nat → Int) (bg : Nat) (g : Nat → Stp) : HQ h (einit h' j) ins E0 bg 0 g :=
  ⟨fun _ e => absurd e (by show ¬ (0 : Int) = 1; decide), fun _ e => absurd e (by show ¬ (0 : Int) = 1; decide), fun _ k _ _ e => absurd e (by show ¬ ((0 : Int) = 2 ∨ (0 : Int) = 1 ∧ _); simp), fun e => absurd e (by show ¬ (0 : Int) = 5; decide), ⟨fun _ => rfl, fun _ => rfl⟩, fun _ e => absurd e (by show ¬ (0 : Int) = 1; decide), fun e => absurd e (by show ¬ (4 : Int) ≤ 0; decide), fun e => absurd rfl e⟩

/-- Who is inside behind a step: as before, or the hand whose Enter ended. -/
def Nw (ins ins' : Nat → Nat) (E0 E0' : Nat → Int) (h k : Nat) (f0 : Int) : Prop := ∀ i, 0 < ins' i → (0 < ins i ∧ ins' i = ins i ∧ E0' i = E0 i) ∨ (i = h ∧ ins' i = k + 1 ∧ E0' i = f0)
theorem Nw.refl (ins : Nat → Nat) (E0 : Nat → Int) (h k : Nat) (f0 : Int) : Nw ins ins E0 E0 h k f0 := fun i hi => .inl ⟨hi, rfl, rfl⟩

theorem HQ.keep {i h k : Nat} {s : EpS} {ins ins' : Nat → Nat} {E0 E0' : Nat → Int} {bg ml : Nat} {g : Nat → Stp} {f0 : Int} (H : HQ i s ins E0 bg ml g) (N : Nw ins ins' E0 E0' h k f0) (hi : i ≠ h) (hb : bg ≤ k) (he : s.e ≤ f0) : HQ i s ins' E0' bg ml g where
  c1 a b := by
    rcases Nat.eq_zero_or_pos (ins' i) with e | e
    · exact e
    · rcases N i e with ⟨c, _⟩ | ⟨c, _⟩
      · have := H.c1 a b; omega
      · exact absurd c hi
  c3 a b q hq hl := by
    rcases N q hq with ⟨c, d, e⟩ | ⟨c, d, e⟩
    · rw [e]; exact H.c3 a b q c (by omega)
    · omega
  c4 a q h8 hq hs := by
    rcases N q hq with ⟨c, d, e⟩ | ⟨c, d, e⟩
    · rw [e]; exact H.c4 a q h8 c hs
    · rw [e]; exact he
  c5 := H.c5
  m0 := H.m0
  m1 := H.m1
  m4 := H.m4
  b := H.b

structure Sv (r : Nat) (P : Par) (f : Nat → Int) (done : Nat → Nat) (cur : Nat → EpS) (L : Lw) (E0 : Nat → Int) (k : Nat) : Prop where
  ib : ∀ i, L.ins i ≤ k
  i8 : ∀ i, 0 < L.ins i → i < 8
  ow : ∀ i, 0 < L.ins i → 1 ≤ f (1 + i) ∧ f (1 + i) ≤ E0 i + 1 ∧ E0 i ≤ f 0 ∧ f 0 ≤ E0 i + 1
  bb : ∀ h, L.beg h ≤ k
  gb : ∀ p, p < r → L.giv p ≤ k ∧ (L.giv p = 0 ↔ f (9 + p) = 0) ∧ f (9 + p) ≤ f 0 + 1
  gk : ∀ p, p < r → ∀ i, 0 < L.ins i → L.ins i < L.giv p → E0 i + 1 ≤ f (9 + p)
  hq : ∀ h, h < P.nh → done h < P.jn h → HQ h (cur h) L.ins E0 (L.beg h) (L.ml h) (L.md h)
  mz : ∀ h, h < P.nh → ¬ done h < P.jn h → L.ml h = 0
  mb : ∀ h, L.ml h ≤ k

section
variable {r : Nat} {P : Par} {f f' : Nat → Int} {done done' : Nat → Nat} {cur cur' : Nat → EpS} {ans : Nat → Nat → Ans} {k h : Nat} {L L' : Lw} {E0 E0' : Nat → Int}

/-- Behind a step: the words' part and the stepping hand's own are to be given. -/
theorem Sv.on (S : Sv r P f done cur L E0 k) (I : Iv r P f done cur ans k) (hh : h < P.nh) (N : Nw L.ins L'.ins E0 E0' h k (f 0)) (h8 : h < 8)
    (ow : ∀ i, 0 < L'.ins i → 1 ≤ f' (1 + i) ∧ f' (1 + i) ≤ E0' i + 1 ∧ E0' i ≤ f' 0 ∧ f' 0 ≤ E0' i + 1)
    (bo : ∀ i, i ≠ h → L'.beg i = L.beg i) (bh : L'.beg h ≤ k + 1) (gb : ∀ p, p < r → L'.giv p ≤ k + 1 ∧ (L'.giv p = 0 ↔ f' (9 + p) = 0) ∧ f' (9 + p) ≤ f' 0 + 1)
    (gk : ∀ p, p < r → ∀ i, 0 < L'.ins i → L'.ins i < L'.giv p → E0' i + 1 ≤ f' (9 + p))
    (dn : ∀ i, i ≠ h → done' i = done i) (cn : ∀ i, i ≠ h → cur' i = cur i) (mo : ∀ i, i ≠ h → L'.ml i = L.ml i ∧ L'.md i = L.md i) (mh : L'.ml h ≤ k + 1)
    (hq : done' h < P.jn h → HQ h (cur' h) L'.ins E0' (L'.beg h) (L'.ml h) (L'.md h)) (mz : ¬ done' h < P.jn h → L'.ml h = 0) : Sv r P f' done' cur' L' E0' (k + 1) where
  ib i := by
    rcases Nat.eq_zero_or_pos (L'.ins i) with e | e
    · omega
    · rcases N i e with ⟨c, d, _⟩ | ⟨c, d, _⟩
      · have := S.ib i; omega
      · omega
  i8 i hi := by
    rcases N i hi with ⟨c, d, _⟩ | ⟨c, d, _⟩
    · exact S.i8 i c
    · omega
  ow := ow
  bb i := by
    by_cases e : i = h
    · subst e; exact bh
    · rw [bo i e]; have := S.bb i; omega
  gb := gb
  gk := gk
  hq i hi hd := by
    by_cases e : i = h
    · subst e; exact hq hd
    · rw [dn i e] at hd
      rw [cn i e, bo i e, (mo i e).1, (mo i e).2]
      exact (S.hq i hi hd).keep N e (S.bb i) (I.ep i hi hd).1
  mz i hi hd := by
    by_cases e : i = h
    · subst e; exact mz hd
    · rw [dn i e] at hd
      rw [(mo i e).1]
      exact S.mz i hi hd
  mb i := by
    by_cases e : i = h
    · subst e; exact mh
    · rw [(mo i e).1]; have := S.mb i; omega

theorem next_beg_o (L : Lw) (k : Nat) (kind : Int) (x : Stp) (en : Bool) {i : Nat} (hi : i ≠ h) : (L.next h k kind x en).beg i = L.beg i := by
  show L.beg' h k i = _
  unfold Lw.beg'
  split
  · exact upd_other _ _ hi
  · rfl
theorem next_beg_h (L : Lw) (k : Nat) (kind : Int) (x : Stp) (en : Bool) : (L.next h k kind x en).beg h = if L.ml h = 0 then k + 1 else L.beg h := by
  show L.beg' h k h = _
  unfold Lw.beg'
  split
  · exact upd_same _ _ _
  · rfl

/-- Behind a step of a hand, in the law's own words. -/
theorem Sv.nx (S : Sv r P f done cur L E0 k) (I : Iv r P f done cur ans k) (hh : h < P.nh) (hd : done h < P.jn h) (h8 : h < 8) {kind : Int} {x : Stp} {en : Bool} {s' : EpS} (N : Nw L.ins (L.next h k kind x en).ins E0 E0' h k (f 0))
    (ow : ∀ i, 0 < (L.next h k kind x en).ins i → 1 ≤ f' (1 + i) ∧ f' (1 + i) ≤ E0' i + 1 ∧ E0' i ≤ f' 0 ∧ f' 0 ≤ E0' i + 1)
    (gb : ∀ p, p < r → (L.next h k kind x en).giv p ≤ k + 1 ∧ ((L.next h k kind x en).giv p = 0 ↔ f' (9 + p) = 0) ∧ f' (9 + p) ≤ f' 0 + 1)
    (gk : ∀ p, p < r → ∀ i, 0 < (L.next h k kind x en).ins i → (L.next h k kind x en).ins i < (L.next h k kind x en).giv p → E0' i + 1 ≤ f' (9 + p))
    (hq : en = false → HQ h s' (L.next h k kind x en).ins E0' (if L.ml h = 0 then k + 1 else L.beg h) (L.ml h + 1) (upd (L.md h) (L.ml h) x)) :
    Sv r P f' (if en = true then upd done h (done h + 1) else done) (upd cur h (if en = true then einit h (P.jb h (done h + 1)) else s')) (L.next h k kind x en) E0' (k + 1) := by
  have bh : (L.next h k kind x en).beg h ≤ k + 1 := by rw [next_beg_h]; have := S.bb h; split <;> omega
  have mo : ∀ i, i ≠ h → (L.next h k kind x en).ml i = L.ml i ∧ (L.next h k kind x en).md i = L.md i := fun i hi => ⟨upd_other _ _ hi, upd_other _ _ hi⟩
  have mh : (L.next h k kind x en).ml h = if en = true then 0 else L.ml h + 1 := upd_same _ _ _
  have mk : (L.next h k kind x en).md h = upd (L.md h) (L.ml h) x := upd_same _ _ _
  refine S.on I hh N h8 ow (fun i hi => next_beg_o L k kind x en hi) bh gb gk ?_ (fun i hi => upd_other _ _ hi) mo ?_ ?_ ?_
  · intro i hi
    split
    · exact upd_other _ _ hi
    · rfl
  · rw [mh]; have := S.mb h; split <;> omega
  · rw [upd_same, mh, mk, next_beg_h]
    cases en with
    | true => intro _; exact HQ.init _ _ _ _ _ _ _
    | false => intro _; exact hq rfl
  · rw [mh]
    cases en with
    | true => intro _; rfl
    | false => intro hz; exact absurd hd hz

/-- The same, where the hands' and the places' words stand as they were. -/
theorem Sv.nx1 (S : Sv r P f done cur L E0 k) (I : Iv r P f done cur ans k) (hh : h < P.nh) (hd : done h < P.jn h) (h8 : h < 8) {kind : Int} {x : Stp} {en : Bool} {s' : EpS} (ne : ¬ (en = true ∧ kind = 1)) (gi : L.giv' h k kind x = L.giv)
    (w1 : ∀ i, f' (1 + i) = f (1 + i)) (w0 : f 0 ≤ f' 0) (w0' : ∀ i, 0 < L.ins i → f' 0 ≤ E0 i + 1)
    (hq : en = false → HQ h s' (L.ins' h kind) E0 (if L.ml h = 0 then k + 1 else L.beg h) (L.ml h + 1) (upd (L.md h) (L.ml h) x)) :
    Sv r P f' (if en = true then upd done h (done h + 1) else done) (upd cur h (if en = true then einit h (P.jb h (done h + 1)) else s')) (L.next h k kind x en) E0 (k + 1) := by
  have ei : (L.next h k kind x en).ins = L.ins' h kind := if_neg ne
  have eg : (L.next h k kind x en).giv = L.giv := gi
  have sub : ∀ i, 0 < L.ins' h kind i → L.ins' h kind i = L.ins i := fun i hi => by
    unfold Lw.ins' at hi ⊢
    split at hi
    · rename_i c
      rw [if_pos c]
      by_cases e : i = h
      · subst e; rw [upd_same] at hi; omega
      · exact upd_other _ _ e
    · rename_i c
      rw [if_neg c]
  refine S.nx I hh hd h8 ?_ ?_ ?_ ?_ ?_
  · rw [ei]; exact fun i hi => .inl ⟨by rw [sub i hi] at hi; exact hi, sub i hi, rfl⟩
  · rw [ei]; intro i hi
    have hi' : 0 < L.ins i := by rw [sub i hi] at hi; exact hi
    obtain ⟨a, b, c, d⟩ := S.ow i hi'
    rw [w1 i]
    exact ⟨a, b, by omega, w0' i hi'⟩
  · rw [eg]; intro p hp
    obtain ⟨a, b, c⟩ := S.gb p hp
    have : f' (9 + p) = f (9 + p) := by have := w1 (8 + p); rw [show 1 + (8 + p) = 9 + p by omega] at this; exact this
    rw [this]
    exact ⟨by omega, b, by omega⟩
  · rw [eg, ei]; intro p hp i hi hl
    have : f' (9 + p) = f (9 + p) := by have := w1 (8 + p); rw [show 1 + (8 + p) = 9 + p by omega] at this; exact this
    rw [this]
    have e := sub i hi
    rw [e] at hi hl
    exact S.gk p hp i hi hl
  · rw [ei]; exact hq

theorem giv_same {L : Lw} {h k : Nat} {kind : Int} {x : Stp} (hx : ¬ (x.act = 5 ∧ 9 ≤ x.at_ ∧ x.ok = true)) : L.giv' h k kind x = L.giv := if_neg hx
theorem ins_same {L : Lw} {h : Nat} {kind : Int} (hx : ¬ (L.ml h = 0 ∧ (kind = 1 ∨ kind = 2))) : L.ins' h kind = L.ins := if_neg hx
theorem ins_zero {L : Lw} {h : Nat} {kind : Int} (hx : L.ml h = 0 ∧ (kind = 1 ∨ kind = 2)) : L.ins' h kind = upd L.ins h 0 := if_pos hx

set_option maxHeartbeats 4000000 in
theorem Sv.step (hr1 : 1 ≤ r) (hr2 : r ≤ 64) (hn : P.n = 9 + r) (hok : ∀ h, h < P.nh → ∀ j, j < P.jn h → eerr r h (P.jb h j) = 0 ∧ (P.jb h j).wf) (hk : k ≤ 65536) (I : Iv r P f done cur ans k) (S : Sv r P f done cur L E0 k) (hh : h < P.nh) (hd : done h < P.jn h) {x : Stp} (hx : stepOf P.n f (ereq (cur h)) = x) (hf : wordsOf P.n f (ereq (cur h)) = f') :
    (∃ E0', Sv r P f' (if eends r (cur h) x = true then upd done h (done h + 1) else done) (upd cur h (if eends r (cur h) x = true then einit h (P.jb h (done h + 1)) else enext r (cur h) x)) (L.next h k (cur h).j.kind x (eends r (cur h) x)) E0' (k + 1)) ∧
    lends r (cur h).j.kind (L.md h) (L.ml h) x = eends r (cur h) x ∧
    ((cur h).j.kind = 4 → x.act = 5 → 9 ≤ x.at_ → x.ok = true → ¬ L.giv (x.at_ - 9).toNat = 0 ∧ ∀ i, ¬ (0 < L.ins i ∧ L.ins i < L.giv (x.at_ - 9).toNat)) := by
  obtain ⟨hj, W, hha⟩ := I.wf h hh hd
  obtain ⟨ep1, ep2⟩ := I.ep h hh hd
  have Q := S.hq h hh hd
  have hf0 := I.f0
  have h8 : h < 8 := by have := (eerr_cases (hok h hh _ hd).1).2; omega
  have hwe := W.e
  have own : ∀ v, wordsOf P.n f ⟨(cur h).hand, 2, 1 + (cur h).hand, 0, v, true⟩ = putF f (1 + h) v ∧ stepOf P.n f ⟨(cur h).hand, 2, 1 + (cur h).hand, 0, v, true⟩ = ⟨(cur h).hand, 2, ((1 + h : Nat) : Int), f (1 + h), v, true⟩ := fun v => by
    rw [hha]
    have a := st_words (n := P.n) (f := f) (a := 1 + h) (h : Int) v (by omega)
    have b := st_step (n := P.n) (f := f) (a := 1 + h) (h : Int) v (by omega)
    exact ⟨by simpa using a, by simpa using b⟩
  rcases W.st with ⟨kk, hst⟩ | ⟨kk, hst⟩ | ⟨kk, hja, hst⟩ | ⟨kk, hst⟩
  · rcases hst with hst | hst
    · have ml : L.ml h = 0 := Q.m0.2 hst
      have e4 : ereq (cur h) = ⟨(cur h).hand, 1, ((0 : Nat) : Int), 0, 0, true⟩ := by simp [ereq, kk, hst]
      rw [e4, ld_step _ (by omega)] at hx
      rw [e4, ld_words _ (by omega)] at hf
      subst hf
      have e7 : enext r (cur h) x = { cur h with e := x.had, st := 1 } := by simp [enext, kk, hst]
      have e5 : eends r (cur h) x = false := by simp [eends, kk, hst]
      rw [e5]
      refine ⟨⟨E0, S.nx1 I hh hd h8 (by simp) (giv_same (by rw [← hx]; simp)) (fun _ => rfl) (Int.le_refl _) (fun i hi => (S.ow i hi).2.2.2) (fun _ => ?_)⟩, by simp [lends, kk, ml], fun e => absurd e (by omega)⟩
      rw [e7, ins_zero ⟨ml, .inl kk⟩, ml]
      exact ⟨fun _ _ => upd_same _ _ _, fun e => absurd e (by show ¬ (cur h).j.kind = 3; omega), fun e => absurd e (by show ¬ (cur h).j.kind = 4; omega), fun e => absurd e (by show ¬ (1 : Int) = 5; decide), by show (0 + 1 = 0 ↔ (1 : Int) = 0); decide, fun _ _ => rfl, fun e => absurd e (by show ¬ (4 : Int) ≤ 1; decide), fun _ => by simp⟩
    · have ml : L.ml h = 1 := Q.m1 (.inl kk) hst
      have e4 : ereq (cur h) = ⟨(cur h).hand, 2, 1 + (cur h).hand, 0, u64 ((cur h).e + 1), true⟩ := by simp [ereq, kk, hst]
      have eu : u64 ((cur h).e + 1) = (cur h).e + 1 := u64_id (by omega)
      rw [e4, (own _).1, eu] at hf
      rw [e4, (own _).2, eu] at hx
      have e5 : eends r (cur h) x = true := by simp [eends, kk, hst]
      rw [e5]
      have ei : (L.next h k (cur h).j.kind x true).ins = upd L.ins h (k + 1) := by
        show (if true = true ∧ (cur h).j.kind = 1 then upd (L.ins' h (cur h).j.kind) h (k + 1) else _) = _
        rw [if_pos ⟨rfl, kk⟩, ins_same (by omega)]
      have eg : (L.next h k (cur h).j.kind x true).giv = L.giv := giv_same (by rw [← hx]; simp)
      have z0 : f' 0 = f 0 := by rw [← hf]; exact putF_other (by omega)
      have zp : ∀ p, f' (9 + p) = f (9 + p) := fun p => by rw [← hf]; exact putF_other (by omega)
      refine ⟨⟨upd E0 h (f 0), S.nx I hh hd h8 ?_ ?_ ?_ ?_ (fun e => absurd e (by decide))⟩, by simp [lends, kk, ml], fun e => absurd e (by omega)⟩
      · rw [ei]; intro i hi
        by_cases e : i = h
        · subst e; exact .inr ⟨rfl, upd_same _ _ _, upd_same _ _ _⟩
        · rw [upd_other _ _ e] at hi ⊢; rw [upd_other _ _ e]; exact .inl ⟨hi, rfl, rfl⟩
      · rw [ei]; intro i hi
        by_cases e : i = h
        · subst e
          have z1 : f' (1 + i) = (cur i).e + 1 := by rw [← hf]; exact putF_same
          rw [upd_same, z1, z0]
          omega
        · rw [upd_other _ _ e] at hi
          rw [upd_other _ _ e]
          have z1 : f' (1 + i) = f (1 + i) := by rw [← hf]; exact putF_other (by omega)
          rw [z1, z0]
          exact S.ow i hi
      · rw [eg]; intro p hp; obtain ⟨a, b, c⟩ := S.gb p hp; rw [zp p, z0]; exact ⟨by omega, b, c⟩
      · rw [eg, ei]; intro p hp i hi hl
        by_cases e : i = h
        · subst e; rw [upd_same] at hl; have := (S.gb p hp).1; omega
        · rw [upd_other _ _ e] at hi hl ⊢; rw [zp p]; exact S.gk p hp i hi hl
  · have ml : L.ml h = 0 := Q.m0.2 hst
    have e4 : ereq (cur h) = ⟨(cur h).hand, 2, 1 + (cur h).hand, 0, 0, true⟩ := by simp [ereq, kk]
    rw [e4, (own _).1] at hf
    rw [e4, (own _).2] at hx
    have e5 : eends r (cur h) x = true := by simp [eends, kk]
    rw [e5]
    have ei : (L.next h k (cur h).j.kind x true).ins = upd L.ins h 0 := by
      show (if true = true ∧ (cur h).j.kind = 1 then upd (L.ins' h (cur h).j.kind) h (k + 1) else L.ins' h (cur h).j.kind) = _
      rw [if_neg (by omega), ins_zero ⟨ml, .inr kk⟩]
    have eg : (L.next h k (cur h).j.kind x true).giv = L.giv := giv_same (by rw [← hx]; simp)
    have z0 : f' 0 = f 0 := by rw [← hf]; exact putF_other (by omega)
    have zp : ∀ p, f' (9 + p) = f (9 + p) := fun p => by rw [← hf]; exact putF_other (by omega)
    have ne : ∀ i, 0 < upd L.ins h 0 i → i ≠ h := fun i hi e => by subst e; rw [upd_same] at hi; omega
    refine ⟨⟨E0, S.nx I hh hd h8 ?_ ?_ ?_ ?_ (fun e => absurd e (by decide))⟩, by simp [lends, kk], fun e => absurd e (by omega)⟩
    · rw [ei]; intro i hi
      have e := ne i hi
      rw [upd_other _ _ e] at hi ⊢; exact .inl ⟨hi, rfl, rfl⟩
    · rw [ei]; intro i hi
      have e := ne i hi
      rw [upd_other _ _ e] at hi
      have z1 : f' (1 + i) = f (1 + i) := by rw [← hf]; exact putF_other (by omega)
      rw [z1, z0]
      exact S.ow i hi
    · rw [eg]; intro p hp; obtain ⟨a, b, c⟩ := S.gb p hp; rw [zp p, z0]; exact ⟨by omega, b, c⟩
    · rw [eg, ei]; intro p hp i hi hl
      have e := ne i hi
      rw [upd_other _ _ e] at hi hl; rw [zp p]; exact S.gk p hp i hi hl
  · have ein : L.ins' h (cur h).j.kind = L.ins := ins_same (by omega)
    rcases hst with hst | hst
    · have ml : L.ml h = 0 := Q.m0.2 hst
      have e4 : ereq (cur h) = ⟨(cur h).hand, 1, ((0 : Nat) : Int), 0, 0, true⟩ := by simp [ereq, kk, hst]
      rw [e4, ld_step _ (by omega)] at hx
      rw [e4, ld_words _ (by omega)] at hf
      subst hf
      have e7 : enext r (cur h) x = { cur h with e := x.had, st := 1 } := by simp [enext, kk, hst]
      have e5 : eends r (cur h) x = false := by simp [eends, kk, hst]
      rw [e5]
      refine ⟨⟨E0, S.nx1 I hh hd h8 (by simp) (giv_same (by rw [← hx]; simp)) (fun _ => rfl) (Int.le_refl _) (fun i hi => (S.ow i hi).2.2.2) (fun _ => ?_)⟩, by simp [lends, kk, ml], fun e => absurd e (by omega)⟩
      rw [e7, ein, ml]
      exact ⟨fun e => absurd e (by show ¬ (cur h).j.kind = 1; omega), fun _ _ i hi _ => by show E0 i ≤ x.had; rw [← hx]; exact (S.ow i hi).2.2.1, fun e => absurd e (by show ¬ (cur h).j.kind = 4; omega), fun e => absurd e (by show ¬ (1 : Int) = 5; decide), by show (0 + 1 = 0 ↔ (1 : Int) = 0); decide, fun _ _ => rfl, fun e => absurd e (by show ¬ (4 : Int) ≤ 1; decide), fun _ => by simp⟩
    · have ml : L.ml h = 1 := Q.m1 (.inr kk) hst
      have bg := Q.b (by omega)
      obtain ⟨p0, hp0⟩ : ∃ p0 : Nat, (cur h).j.a = p0 := ⟨(cur h).j.a.toNat, by omega⟩
      have e4 : ereq (cur h) = ⟨(cur h).hand, 5, ((9 + p0 : Nat) : Int), 0, u64 ((cur h).e + 1), true⟩ := by simp [ereq, kk, hst, hp0]
      have eu : u64 ((cur h).e + 1) = (cur h).e + 1 := u64_id (by omega)
      have e5 : eends r (cur h) x = true := by simp [eends, kk, hst]
      rw [e4, eu] at hx hf
      rw [e5]
      by_cases hc : f (9 + p0) = 0
      · obtain ⟨c1, c2⟩ := cas_yes (n := P.n) (f := f) (a := 9 + p0) (cur h).hand 0 ((cur h).e + 1) (by omega) hc
        rw [c1] at hx
        rw [c2] at hf
        have ei : (L.next h k (cur h).j.kind x true).ins = L.ins := by
          show (if true = true ∧ (cur h).j.kind = 1 then upd (L.ins' h (cur h).j.kind) h (k + 1) else L.ins' h (cur h).j.kind) = _
          rw [if_neg (by omega), ein]
        have eg : (L.next h k (cur h).j.kind x true).giv = upd L.giv p0 (L.beg h) := by
          show L.giv' h k (cur h).j.kind x = _
          unfold Lw.giv'
          rw [if_pos (by rw [← hx]; exact ⟨rfl, by show (9 : Int) ≤ ((9 + p0 : Nat) : Int); omega, rfl⟩), if_pos kk]
          have : (x.at_ - 9).toNat = p0 := by rw [← hx]; show (((9 + p0 : Nat) : Int) - 9).toNat = p0; omega
          rw [this]
          unfold Lw.beg'
          rw [if_neg (by omega)]
        have z0 : f' 0 = f 0 := by rw [← hf]; exact putF_other (by omega)
        refine ⟨⟨E0, S.nx I hh hd h8 (by rw [ei]; exact Nw.refl _ _ _ _ _) ?_ ?_ ?_ (fun e => absurd e (by decide))⟩, by simp [lends, kk, ml], fun e => absurd e (by omega)⟩
        · rw [ei]; intro i hi
          have := S.i8 i hi
          have z1 : f' (1 + i) = f (1 + i) := by rw [← hf]; exact putF_other (by omega)
          rw [z1, z0]
          exact S.ow i hi
        · rw [eg]; intro p hp
          by_cases e : p = p0
          · subst e
            have z1 : f' (9 + p) = (cur h).e + 1 := by rw [← hf]; exact putF_same
            rw [upd_same, z1, z0]
            have := S.bb h
            exact ⟨by omega, ⟨fun e => by omega, fun e => by omega⟩, by omega⟩
          · have z1 : f' (9 + p) = f (9 + p) := by rw [← hf]; exact putF_other (by omega)
            rw [upd_other _ _ e, z1, z0]
            obtain ⟨a, b, c⟩ := S.gb p hp
            exact ⟨by omega, b, c⟩
        · rw [eg, ei]; intro p hp i hi hl
          by_cases e : p = p0
          · subst e
            have z1 : f' (9 + p) = (cur h).e + 1 := by rw [← hf]; exact putF_same
            rw [upd_same] at hl
            rw [z1]
            have := Q.c3 kk hst i hi hl
            omega
          · have z1 : f' (9 + p) = f (9 + p) := by rw [← hf]; exact putF_other (by omega)
            rw [upd_other _ _ e] at hl
            rw [z1]
            exact S.gk p hp i hi hl
      · obtain ⟨c1, c2⟩ := cas_no (n := P.n) (f := f) (a := 9 + p0) (cur h).hand 0 ((cur h).e + 1) (by omega) hc
        rw [c1] at hx
        rw [c2] at hf
        subst hf
        exact ⟨⟨E0, S.nx1 I hh hd h8 (by omega) (giv_same (by rw [← hx]; simp)) (fun _ => rfl) (Int.le_refl _) (fun i hi => (S.ow i hi).2.2.2) (fun e => absurd e (by decide))⟩, by simp [lends, kk, ml], fun e => absurd e (by omega)⟩
  · have n1 : ¬ (cur h).j.kind = 1 := by omega
    have n2 : ¬ (cur h).j.kind = 2 := by omega
    have n3 : ¬ (cur h).j.kind = 3 := by omega
    have ein : L.ins' h (cur h).j.kind = L.ins := ins_same (by omega)
    have m0 := Q.m0
    obtain hst | hst | hst | hst | hst | hst : (cur h).st = 0 ∨ (cur h).st = 1 ∨ (cur h).st = 2 ∨ (cur h).st = 3 ∨ (cur h).st = 4 ∨ (cur h).st = 5 := by omega
    · have ml : L.ml h = 0 := Q.m0.2 hst
      have e4 : ereq (cur h) = ⟨(cur h).hand, 1, ((0 : Nat) : Int), 0, 0, true⟩ := by simp [ereq, kk, hst]
      rw [e4, ld_step _ (by omega)] at hx
      rw [e4, ld_words _ (by omega)] at hf
      subst hf
      have e7 : enext r (cur h) x = { cur h with e := x.had, nx := 0, st := 1 } := by simp [enext, kk, hst]
      have e5 : eends r (cur h) x = false := by simp [eends, kk, hst]
      rw [e5]
      refine ⟨⟨E0, S.nx1 I hh hd h8 (by simp) (giv_same (by rw [← hx]; simp)) (fun _ => rfl) (Int.le_refl _) (fun i hi => (S.ow i hi).2.2.2) (fun _ => ?_)⟩, by simp [lends, kk, ml], fun _ e => absurd e (by rw [← hx]; show ¬ (1 : Int) = 5; decide)⟩
      rw [e7, ein, ml]
      exact ⟨fun e => absurd e n1, fun e => absurd e n3, fun _ i _ _ e => absurd e (by show ¬ ((1 : Int) = 2 ∨ (1 : Int) = 1 ∧ (i : Int) < 0); omega), fun e => absurd e (by show ¬ (1 : Int) = 5; decide), by show (0 + 1 = 0 ↔ (1 : Int) = 0); decide, fun _ _ => rfl, fun e => absurd e (by show ¬ (4 : Int) ≤ 1; decide), fun _ => by simp⟩
    · have ml : ¬ L.ml h = 0 := fun e => by have := m0.1 e; omega
      obtain ⟨q, hq⟩ : ∃ q : Nat, (cur h).nx = q := ⟨(cur h).nx.toNat, by have := W.nx; omega⟩
      have hq8 := W.nx1 hst
      have e4 : ereq (cur h) = ⟨(cur h).hand, 1, ((1 + q : Nat) : Int), 0, 0, true⟩ := by simp [ereq, kk, hst, hq]
      rw [e4, ld_step _ (by omega)] at hx
      rw [e4, ld_words _ (by omega)] at hf
      subst hf
      obtain ⟨v, hv⟩ : ∃ v : Int, (if bars x.had (cur h).e then 3 else if (cur h).nx + 1 = 8 then 2 else 1) = v := ⟨_, rfl⟩
      have hv2 : (bars x.had (cur h).e ∧ v = 3) ∨ (¬ bars x.had (cur h).e ∧ (((cur h).nx + 1 = 8 ∧ v = 2) ∨ (¬ (cur h).nx + 1 = 8 ∧ v = 1))) := by
        by_cases b : bars x.had (cur h).e
        · rw [if_pos b] at hv; exact .inl ⟨b, hv.symm⟩
        · rw [if_neg b] at hv
          by_cases c : (cur h).nx + 1 = 8
          · rw [if_pos c] at hv; exact .inr ⟨b, .inl ⟨c, hv.symm⟩⟩
          · rw [if_neg c] at hv; exact .inr ⟨b, .inr ⟨c, hv.symm⟩⟩
      have e7 : enext r (cur h) x = { cur h with nx := (cur h).nx + 1, st := v } := by rw [← hv]; simp [enext, kk, hst]
      have e5 : eends r (cur h) x = false := by simp [eends, kk, hst]
      have xa : x.at_ = 1 + (q : Int) := by rw [← hx]; show ((1 + q : Nat) : Int) = _; omega
      have xh : x.had = f (1 + q) := by rw [← hx]
      rw [e5]
      refine ⟨⟨E0, S.nx1 I hh hd h8 (by simp) (giv_same (by rw [← hx]; simp)) (fun _ => rfl) (Int.le_refl _) (fun i hi => (S.ow i hi).2.2.2) (fun _ => ?_)⟩, ?_, fun _ e => absurd e (by rw [← hx]; show ¬ (1 : Int) = 5; decide)⟩
      · rw [e7, ein, if_neg ml]
        have vb : v = 1 ∨ v = 2 ∨ v = 3 := by omega
        refine ⟨fun e => absurd e n1, fun e => absurd e n3, fun _ i i8 hi e => ?_, fun e => absurd e (by show ¬ v = 5; omega), ⟨fun e => by omega, fun e => absurd e (by show ¬ v = 0; omega)⟩, fun e => absurd e (by show ¬ ((cur h).j.kind = 1 ∨ (cur h).j.kind = 3); omega), fun e => absurd e (by show ¬ 4 ≤ v; omega), fun _ => Q.b (by omega)⟩
        have e : v = 2 ∨ v = 1 ∧ (i : Int) < (cur h).nx + 1 := e
        show (cur h).e ≤ E0 i
        by_cases c : (i : Int) < (cur h).nx
        · exact Q.c4 kk i i8 hi (.inr ⟨hst, c⟩)
        · have iq : i = q := by omega
          subst iq
          have nb : ¬ bars x.had (cur h).e := fun b => by
            rcases hv2 with ⟨_, c⟩ | ⟨c, _⟩
            · omega
            · exact c b
          obtain ⟨o1, o2, _⟩ := S.ow i hi
          have : x.had = u64 ((cur h).e + 1) := by
            rcases Classical.em (x.had = u64 ((cur h).e + 1)) with t | t
            · exact t
            · exact absurd ⟨show ¬ x.had = 0 by omega, t⟩ nb
          rw [u64_id (by omega)] at this
          omega
      · have : ¬ x.at_ = 8 + (r : Int) := by omega
        simp [lends, kk, this]
    · have ml : ¬ L.ml h = 0 := fun e => by have := m0.1 e; omega
      have e4 : ereq (cur h) = ⟨(cur h).hand, 5, ((0 : Nat) : Int), (cur h).e, u64 ((cur h).e + 1), true⟩ := by simp [ereq, kk, hst]
      have eu : u64 ((cur h).e + 1) = (cur h).e + 1 := u64_id (by omega)
      have e7 : enext r (cur h) x = { cur h with st := 3 } := by simp [enext, kk, hst]
      have e5 : eends r (cur h) x = false := by simp [eends, kk, hst]
      have xa : x.at_ = 0 := by rw [← hx, (step_at _ _ _).1, e4]; rfl
      rw [e4, eu] at hf
      rw [e5]
      have key : (∀ i, f' (1 + i) = f (1 + i)) ∧ f 0 ≤ f' 0 ∧ (∀ i, 0 < L.ins i → f' 0 ≤ E0 i + 1) := by
        by_cases hc : f 0 = (cur h).e
        · rw [(cas_yes (n := P.n) (f := f) (a := 0) (cur h).hand (cur h).e ((cur h).e + 1) (by omega) hc).2] at hf
          have z0 : f' 0 = (cur h).e + 1 := by rw [← hf]; exact putF_same
          refine ⟨fun i => by rw [← hf]; exact putF_other (by omega), by omega, fun i hi => ?_⟩
          have := Q.c4 kk i (S.i8 i hi) hi (.inl hst)
          omega
        · rw [(cas_no (n := P.n) (f := f) (a := 0) (cur h).hand (cur h).e ((cur h).e + 1) (by omega) hc).2] at hf
          subst hf
          exact ⟨fun _ => rfl, Int.le_refl _, fun i hi => (S.ow i hi).2.2.2⟩
      refine ⟨⟨E0, S.nx1 I hh hd h8 (by simp) (giv_same (by rw [xa]; omega)) key.1 key.2.1 key.2.2 (fun _ => ?_)⟩, ?_, fun _ _ e => absurd e (by rw [xa]; omega)⟩
      · rw [e7, ein, if_neg ml]
        exact ⟨fun e => absurd e n1, fun e => absurd e n3, fun _ i _ _ e => absurd e (by show ¬ ((3 : Int) = 2 ∨ (3 : Int) = 1 ∧ _); simp), fun e => absurd e (by show ¬ (3 : Int) = 5; decide), ⟨fun e => by omega, fun e => absurd e (by show ¬ (3 : Int) = 0; decide)⟩, fun _ e => absurd e (by show ¬ (3 : Int) = 1; decide), fun e => absurd e (by show ¬ (4 : Int) ≤ 3; decide), fun _ => Q.b (by omega)⟩
      · have : ¬ x.at_ = 8 + (r : Int) := by omega
        simp [lends, kk, this]
    · have ml : ¬ L.ml h = 0 := fun e => by have := m0.1 e; omega
      have e4 : ereq (cur h) = ⟨(cur h).hand, 1, ((0 : Nat) : Int), 0, 0, true⟩ := by simp [ereq, kk, hst]
      rw [e4, ld_step _ (by omega)] at hx
      rw [e4, ld_words _ (by omega)] at hf
      subst hf
      have e7 : enext r (cur h) x = { cur h with f := x.had, nx := 0, st := 4 } := by simp [enext, kk, hst]
      have e5 : eends r (cur h) x = false := by simp [eends, kk, hst]
      have xa : x.at_ = 0 ∧ x.act = 1 := by rw [← hx]; exact ⟨rfl, rfl⟩
      rw [e5]
      refine ⟨⟨E0, S.nx1 I hh hd h8 (by simp) (giv_same (by rw [← hx]; simp)) (fun _ => rfl) (Int.le_refl _) (fun i hi => (S.ow i hi).2.2.2) (fun _ => ?_)⟩, ?_, fun _ e => absurd e (by rw [← hx]; show ¬ (1 : Int) = 5; decide)⟩
      · rw [e7, ein, if_neg ml]
        exact ⟨fun e => absurd e n1, fun e => absurd e n3, fun _ i _ _ e => absurd e (by show ¬ ((4 : Int) = 2 ∨ (4 : Int) = 1 ∧ _); simp), fun e => absurd e (by show ¬ (4 : Int) = 5; decide), ⟨fun e => by omega, fun e => absurd e (by show ¬ (4 : Int) = 0; decide)⟩, fun _ e => absurd e (by show ¬ (4 : Int) = 1; decide), fun _ => ⟨by omega, by rw [lf_put, if_pos ⟨by omega, xa⟩]⟩, fun _ => Q.b (by omega)⟩
      · have : ¬ x.at_ = 8 + (r : Int) := by omega
        simp [lends, kk, this]
    · have ml : ¬ L.ml h = 0 := fun e => by have := m0.1 e; omega
      obtain ⟨q, hq⟩ : ∃ q : Nat, (cur h).nx = q := ⟨(cur h).nx.toNat, by have := W.nx; omega⟩
      have hq4 := W.nx4 (by omega)
      obtain ⟨m2, mf⟩ := Q.m4 (by omega)
      have e4 : ereq (cur h) = ⟨(cur h).hand, 1, ((9 + q : Nat) : Int), 0, 0, true⟩ := by simp [ereq, kk, hst, hq]
      rw [e4, ld_step _ (by omega)] at hx
      rw [e4, ld_words _ (by omega)] at hf
      subst hf
      have xa : x.at_ = 9 + (q : Int) := by rw [← hx]; show ((9 + q : Nat) : Int) = _; omega
      have xc : x.act = 1 := by rw [← hx]
      have xh : x.had = f (9 + q) := by rw [← hx]
      have gb := (S.gb q (by omega)).2.2
      have eu : u64 (x.had + 1) = x.had + 1 := u64_id (by have := I.wd (9 + q) (by omega); omega)
      have l1 : lf (upd (L.md h) (L.ml h) x) (L.ml h + 1) = (cur h).f := by rw [lf_put, if_neg (by omega), mf]
      have n5 : ¬ x.act = 5 := by omega
      have m2' : ¬ L.ml h < 2 := by omega
      by_cases d : due x.had (cur h).f
      · have e7 : enext r (cur h) x = { cur h with w := x.had, given := x.had, st := 5 } := by simp [enext, kk, hst, d]
        have e5 : eends r (cur h) x = false := by simp [eends, kk, hst, d]
        obtain ⟨d1, d2⟩ := d
        rw [eu] at d2
        rw [e5]
        refine ⟨⟨E0, S.nx1 I hh hd h8 (by simp) (giv_same (by omega)) (fun _ => rfl) (Int.le_refl _) (fun i hi => (S.ow i hi).2.2.2) (fun _ => ?_)⟩, ?_, fun _ e => absurd e n5⟩
        · rw [e7, ein, if_neg ml]
          exact ⟨fun e => absurd e n1, fun e => absurd e n3, fun _ i _ _ e => absurd e (by show ¬ ((5 : Int) = 2 ∨ (5 : Int) = 1 ∧ _); simp), fun _ => d2, ⟨fun e => by omega, fun e => absurd e (by show ¬ (5 : Int) = 0; decide)⟩, fun _ e => absurd e (by show ¬ (5 : Int) = 1; decide), fun _ => ⟨by omega, l1⟩, fun _ => Q.b (by omega)⟩
        · have nl : ¬ (cur h).f < x.had + 1 := by omega
          simp only [lends, kk, l1, eu, n5, d1, nl]
          simp
      · have nd : x.had = 0 ∨ (cur h).f < x.had + 1 := by
          rcases Classical.em (x.had = 0) with t | t
          · exact .inl t
          · refine .inr ?_
            rcases Int.lt_or_le (cur h).f (x.had + 1) with u | u
            · exact u
            · exact absurd ⟨t, by rw [eu]; exact u⟩ d
        by_cases a9 : (cur h).nx + 1 < r
        · have e7 : enext r (cur h) x = { cur h with w := x.had, nx := (cur h).nx + 1 } := by simp [enext, kk, hst, d, a9]
          have e5 : eends r (cur h) x = false := by simp [eends, kk, hst, d, a9]
          rw [e5]
          refine ⟨⟨E0, S.nx1 I hh hd h8 (by simp) (giv_same (by omega)) (fun _ => rfl) (Int.le_refl _) (fun i hi => (S.ow i hi).2.2.2) (fun _ => ?_)⟩, ?_, fun _ e => absurd e n5⟩
          · rw [e7, ein, if_neg ml]
            exact ⟨fun e => absurd e n1, fun e => absurd e n3, fun _ i _ _ e => absurd e (by show ¬ ((cur h).st = 2 ∨ (cur h).st = 1 ∧ _); omega), fun e => absurd e (by show ¬ (cur h).st = 5; omega), ⟨fun e => by omega, fun e => absurd e (by show ¬ (cur h).st = 0; omega)⟩, fun _ e => absurd e (by show ¬ (cur h).st = 1; omega), fun _ => ⟨by omega, l1⟩, fun _ => Q.b (by omega)⟩
          · have : ¬ x.at_ = 8 + (r : Int) := by omega
            simp [lends, kk, this]
        · have e5 : eends r (cur h) x = true := by simp [eends, kk, hst, d, a9]
          rw [e5]
          refine ⟨⟨E0, S.nx1 I hh hd h8 (by omega) (giv_same (by omega)) (fun _ => rfl) (Int.le_refl _) (fun i hi => (S.ow i hi).2.2.2) (fun e => absurd e (by decide))⟩, ?_, fun _ e => absurd e n5⟩
          have at8 : ¬ (¬ x.at_ = 8 + (r : Int) ∨ L.ml h < 2) := by omega
          simp only [lends, kk, l1, eu, if_neg at8]
          simp
          exact .inr nd
    · have ml : ¬ L.ml h = 0 := fun e => by have := m0.1 e; omega
      obtain ⟨q, hq⟩ : ∃ q : Nat, (cur h).nx = q := ⟨(cur h).nx.toNat, by have := W.nx; omega⟩
      have hq4 := W.nx4 (by omega)
      obtain ⟨m2, mf⟩ := Q.m4 (by omega)
      have c5 := Q.c5 hst
      have g0 := I.gz h hh hd hst
      have e4 : ereq (cur h) = ⟨(cur h).hand, 5, ((9 + q : Nat) : Int), (cur h).given, 0, true⟩ := by simp [ereq, kk, hst, hq]
      have xa : x.at_ = 9 + (q : Int) := by rw [← hx, (step_at _ _ _).1, e4]; show ((9 + q : Nat) : Int) = _; omega
      have l1 : lf (upd (L.md h) (L.ml h) x) (L.ml h + 1) = (cur h).f := by rw [lf_put, if_neg (by omega), mf]
      have ea : (x.at_ - 9).toNat = q := by omega
      have nn : ∀ i, 0 < L.ins i → L.ins i < L.giv q → ¬ f (9 + q) = (cur h).given := fun i hi hl e => by
        have := S.gk q (by omega) i hi hl
        obtain ⟨o1, o2, o3, o4⟩ := S.ow i hi
        omega
      obtain ⟨mm, hmm⟩ : ∃ mm, (if x.ok = true then mput (cur h).mask (cur h).nx else (cur h).mask) = mm := ⟨_, rfl⟩
      have sec : lends r (cur h).j.kind (L.md h) (L.ml h) x = eends r (cur h) x := by
        have xc : x.act = 5 := by
          rw [← hx, e4]
          unfold stepOf
          split <;> rfl
        by_cases a9 : (cur h).nx + 1 < r
        · have : ¬ x.at_ = 8 + (r : Int) := by omega
          simp [lends, eends, kk, hst, this, a9]
        · have at8 : ¬ (¬ x.at_ = 8 + (r : Int) ∨ L.ml h < 2) := by omega
          simp only [lends, kk, if_neg at8, xc]
          simp [eends, kk, hst, a9]
      have hqn : eends r (cur h) x = false → HQ h (enext r (cur h) x) L.ins E0 (if L.ml h = 0 then k + 1 else L.beg h) (L.ml h + 1) (upd (L.md h) (L.ml h) x) := fun e => by
        have a9 : (cur h).nx + 1 < r := by simpa [eends, kk, hst] using e
        have e7 : enext r (cur h) x = { cur h with mask := mm, nx := (cur h).nx + 1, st := 4 } := by rw [← hmm]; simp [enext, kk, hst, a9]
        rw [e7, if_neg ml]
        exact ⟨fun e => absurd e n1, fun e => absurd e n3, fun _ i _ _ e => absurd e (by show ¬ ((4 : Int) = 2 ∨ (4 : Int) = 1 ∧ _); simp), fun e => absurd e (by show ¬ (4 : Int) = 5; decide), ⟨fun e => by omega, fun e => absurd e (by show ¬ (4 : Int) = 0; decide)⟩, fun _ e => absurd e (by show ¬ (4 : Int) = 1; decide), fun _ => ⟨by omega, l1⟩, fun _ => Q.b (by omega)⟩
      rw [e4] at hx hf
      by_cases hc : f (9 + q) = (cur h).given
      · obtain ⟨c1, c2⟩ := cas_yes (n := P.n) (f := f) (a := 9 + q) (cur h).hand (cur h).given 0 (by omega) hc
        rw [c1] at hx
        rw [c2] at hf
        obtain ⟨en, hen⟩ : ∃ en, eends r (cur h) x = en := ⟨_, rfl⟩
        have ei : (L.next h k (cur h).j.kind x en).ins = L.ins := by
          show (if en = true ∧ (cur h).j.kind = 1 then upd (L.ins' h (cur h).j.kind) h (k + 1) else L.ins' h (cur h).j.kind) = _
          rw [if_neg (by omega), ein]
        have eg : (L.next h k (cur h).j.kind x en).giv = upd L.giv q 0 := by
          show L.giv' h k (cur h).j.kind x = _
          unfold Lw.giv'
          rw [if_pos ⟨by rw [← hx], by omega, by rw [← hx]⟩, if_neg n3, ea]
        have z0 : f' 0 = f 0 := by rw [← hf]; exact putF_other (by omega)
        refine ⟨⟨E0, ?_⟩, sec, fun _ _ _ _ => ?_⟩
        · rw [hen] at hqn ⊢
          refine S.nx I hh hd h8 (by rw [ei]; exact Nw.refl _ _ _ _ _) ?_ ?_ ?_ (by rw [ei]; exact hqn)
          · rw [ei]; intro i hi
            have := S.i8 i hi
            have z1 : f' (1 + i) = f (1 + i) := by rw [← hf]; exact putF_other (by omega)
            rw [z1, z0]
            exact S.ow i hi
          · rw [eg]; intro p hp
            by_cases e : p = q
            · subst e
              have z1 : f' (9 + p) = 0 := by rw [← hf]; exact putF_same
              rw [upd_same, z1, z0]
              exact ⟨by omega, ⟨fun _ => rfl, fun _ => rfl⟩, by omega⟩
            · have z1 : f' (9 + p) = f (9 + p) := by rw [← hf]; exact putF_other (by omega)
              rw [upd_other _ _ e, z1, z0]
              obtain ⟨a, b, c⟩ := S.gb p hp
              exact ⟨by omega, b, c⟩
          · rw [eg, ei]; intro p hp i hi hl
            by_cases e : p = q
            · subst e; rw [upd_same] at hl; omega
            · have z1 : f' (9 + p) = f (9 + p) := by rw [← hf]; exact putF_other (by omega)
              rw [upd_other _ _ e] at hl
              rw [z1]
              exact S.gk p hp i hi hl
        · rw [ea]
          refine ⟨fun e => g0 ?_, fun i ⟨hi, hl⟩ => nn i hi hl hc⟩
          rw [← hc]
          exact (S.gb q (by omega)).2.1.1 e
      · obtain ⟨c1, c2⟩ := cas_no (n := P.n) (f := f) (a := 9 + q) (cur h).hand (cur h).given 0 (by omega) hc
        rw [c1] at hx
        rw [c2] at hf
        subst hf
        have xo : x.ok = false := by rw [← hx]
        refine ⟨⟨E0, ?_⟩, sec, fun _ _ _ e => absurd e (by rw [xo]; decide)⟩
        exact S.nx1 I hh hd h8 (by omega) (giv_same (by rw [xo]; simp)) (fun _ => rfl) (Int.le_refl _) (fun i hi => (S.ow i hi).2.2.2) (by rw [ein]; exact hqn)
end
end Epoch
end Go.Proofs.Ytbohmahjpolapaa
