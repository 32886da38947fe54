/-
  Lemmas: Kd, Spec, Picks, Runs, Goods, Steps0.
-/
import Derived.Test.YtchhkoalibapiaaTp03
import Derived.Test.YtchhkoalibapiaaTp04
import Derived.Test.YtchhkoalibapiaaTp02
import Derived.Deep.RegionHeld
import Derived.Test.YtchhkoalibapiaaTp01
import Derived.Deep.Cut
import Derived.Deep.RegionLaw
/-
  Jobs, answers, kinds of tasks: what a kind is, and what its maker, its Step and its Answer do.
-/
namespace Go.Proofs.Ytchhkoalibapiaa
open Go.RowKit
set_option linter.unusedVariables false
set_option linter.unusedSimpArgs false
set_option maxRecDepth 20000

structure Jb where
  kind : Int
  a : Int
  b : Int
  c : Int
  h : Int
def Jb.val (j : Jb) : Value := .agg #[.int .i64 j.kind, .int .i64 j.a, .int .i64 j.b, .int .i64 j.c, .int .u64 j.h]
def Jb.cell (j : Jb) (i : Nat) : Value := match i with | 0 => .int .i64 j.kind | 1 => .int .i64 j.a | 2 => .int .i64 j.b | 3 => .int .i64 j.c | _ => .int .u64 j.h
def Jb.wf (j : Jb) : Prop := 0 ≤ j.h ∧ j.h ≤ 18446744073709551615

structure Ans where
  ok : Bool
  val : Int
def Ans.value (x : Ans) : Value := .agg #[.bool x.ok, .int .u64 x.val]
def Ans.cells (x : Ans) : List Value := [.bool x.ok, .int .u64 x.val]

/-- A kind of tasks: what makes one, what act it does next, what comes of the step, when it ends, what it tells; and how the task of a job lies in memory. -/
structure Kd where
  σ : Type
  err : Int → Jb → Int
  init : Int → Jb → σ
  req : σ → Stp
  next : σ → Stp → σ
  ends : σ → Stp → Bool
  tell : σ → Ans
  tid : Jb → TypeId
  t : Jb → TypeId
  n : Jb → Nat
  fs : Jb → FuncId
  fa : Jb → FuncId
  cell : Nat → σ → Nat → Value
  wf : Jb → σ → Prop

/-- A job that the kind takes. -/
def Kd.fine (K : Kd) (j : Jb) : Prop := j.wf ∧ ∃ h, K.err h j = 0

structure Kd.Ok (K : Kd) : Prop where
  init : ∀ h j, K.fine j → K.wf j (K.init h j)
  next : ∀ j s n f, (∀ i, i < n → 0 ≤ f i ∧ f i ≤ 18446744073709551615) → K.wf j s → ¬ K.ends s (stepOf n f (K.req s)) = true → K.wf j (K.next s (stepOf n f (K.req s)))

/-- A task behind a step: one that may have ended. -/
def Kd.wfE (K : Kd) (j : Jb) (s : K.σ) : Prop := ∃ s0 n f, (∀ i, i < n → 0 ≤ f i ∧ f i ≤ 18446744073709551615) ∧ K.wf j s0 ∧ s = K.next s0 (stepOf n f (K.req s0))

theorem rowIs_cells {w : World} (vs : Array Value) (t : TypeId) (f : Nat → Value) (n : Nat) (hn : vs.size = n) (hc : ∀ i, i < n → vs[i]? = some (f i)) : (w.alloc (.cells vs t)).rowIs w.heap.size t n f := by
  subst hn
  exact World.rowIs_alloc w vs t f hc

theorem func_nil (f : FuncId) (w : World) : (binOp .eql 97 (.func (.func f) #[] #[]) .nilFunc).run Try.prog w = .ok (.bool false) w := by kernel_rfl
theorem iface_nil (t : TypeId) (v : Value) (w : World) : (binOp .eql 101 (.iface t v) .nilIface).run Try.prog w = .ok (.bool false) w := by kernel_rfl
theorem iface_none (w : World) : (binOp .eql 101 .nilIface .nilIface).run Try.prog w = .ok (.bool true) w := by kernel_rfl

def zcell : Nat → Value := fun i => match i with | 0 => .int .i64 0 | 1 => .int .i64 0 | 2 => .int .i64 0 | 3 => .int .u64 0 | 4 => .int .u64 0 | _ => .bool false
theorem row0 (w : World) : (w.alloc (.cells #[.int .i64 0, .int .i64 0, .int .i64 0, .int .u64 0, .int .u64 0, .bool false] 57)).rowIs w.heap.size 57 6 zcell :=
  rowIs_cells _ 57 zcell 6 rfl (fun i hi => by
    match i, hi with
    | 0, _ | 1, _ | 2, _ | 3, _ | 4, _ | 5, _ => rfl)
theorem row0n (w : World) (o : Obj) : ((w.alloc o).alloc (.cells #[.int .i64 0, .int .i64 0, .int .i64 0, .int .u64 0, .int .u64 0, .bool false] 57)).rowIs (w.heap.size + 1) 57 6 zcell := by
  have := row0 (w.alloc o)
  simpa using this


/-- What makeTask does in a world with this maker. -/
def MakesAt (K : Kd) (mk : Value) (w : World) : Prop :=
  ∀ (hand : Int) (j : Jb), 0 ≤ hand → hand < 8 → j.wf →
    (K.err hand j = 0 → Calls Try.prog 53 #[mk, .int .i64 hand, j.val] w fun e w' => ∃ b, e = .returned (.tuple #[.iface (K.tid j) (.pointer (some ⟨b, 0, none⟩)), .int .i64 0]) ∧
      w'.rowIs b (K.t j) (K.n j) (K.cell b (K.init hand j)) ∧ w.heap.size ≤ b ∧ w.grownBy w' none) ∧
    (¬ K.err hand j = 0 → Calls Try.prog 53 #[mk, .int .i64 hand, j.val] w fun e w' => e = .returned (.tuple #[.nilIface, .int .i64 (K.err hand j)]) ∧ w.grownBy w' none)

/-- What the methods of a kind's tasks do. -/
structure IsKind (K : Kd) : Prop where
  ok : K.Ok
  step : ∀ {w : World} {b bm bw n : Nat} {f : Nat → Int} {s : K.σ} {j : Jb}, K.fine j → K.wf j s → w.rowIs b (K.t j) (K.n j) (K.cell b s) → IsMem w bm bw n f → b ≠ bm → b ≠ bw →
    Calls Try.prog (K.fs j) #[.pointer (some ⟨b, 0, none⟩), .pointer (some ⟨bm, 0, none⟩)] w fun e w' => e = .returned (.tuple #[(stepOf n f (K.req s)).val, .int .i64 (if K.ends s (stepOf n f (K.req s)) = true then 1 else 0)]) ∧
      w'.rowIs b (K.t j) (K.n j) (K.cell b (K.next s (stepOf n f (K.req s)))) ∧ IsMem w' bm bw n (wordsOf n f (K.req s)) ∧ Touch w w' (fun k => k = b ∨ k = bw)
  ans : ∀ {w : World} {b : Nat} {s : K.σ} {j : Jb}, K.fine j → K.wfE j s → w.rowIs b (K.t j) (K.n j) (K.cell b s) →
    Calls Try.prog (K.fa j) #[.pointer (some ⟨b, 0, none⟩)] w fun e w' => e = .returned (K.tell s).value ∧ w.grownBy w' none
  mstep : ∀ j, K.fine j → ∀ (b : Nat) (w : World), (method 269 (K.tid j) (.pointer (some ⟨b, 0, none⟩)) "Step").run Try.prog w = .ok (K.fs j, .pointer (some ⟨b, 0, none⟩)) w
  mans : ∀ j, K.fine j → ∀ (b : Nat) (w : World), (method 269 (K.tid j) (.pointer (some ⟨b, 0, none⟩)) "Answer").run Try.prog w = .ok (K.fa j, .pointer (some ⟨b, 0, none⟩)) w
  cstep : ∀ j, K.fine j → ∀ (args : Array Value) (w : World), (callFunc (K.fs j) args).run Try.prog w = .ok (.enter (K.fs j) args) w
  cans : ∀ j, K.fine j → ∀ (args : Array Value) (w : World), (callFunc (K.fa j) args).run Try.prog w = .ok (.enter (K.fa j) args) w
/-- The same, where a task that has ended is one as before it. -/
structure IsKindO (K : Kd) : Prop where
  ok : (∀ h j, K.fine j → K.wf j (K.init h j)) ∧ ∀ j s n f, (∀ i, i < n → 0 ≤ f i ∧ f i ≤ 18446744073709551615) → K.wf j s → K.wf j (K.next s (stepOf n f (K.req s)))
  step : ∀ {w : World} {b bm bw n : Nat} {f : Nat → Int} {s : K.σ} {j : Jb}, K.fine j → K.wf j s → w.rowIs b (K.t j) (K.n j) (K.cell b s) → IsMem w bm bw n f → b ≠ bm → b ≠ bw →
    Calls Try.prog (K.fs j) #[.pointer (some ⟨b, 0, none⟩), .pointer (some ⟨bm, 0, none⟩)] w fun e w' => e = .returned (.tuple #[(stepOf n f (K.req s)).val, .int .i64 (if K.ends s (stepOf n f (K.req s)) = true then 1 else 0)]) ∧
      w'.rowIs b (K.t j) (K.n j) (K.cell b (K.next s (stepOf n f (K.req s)))) ∧ IsMem w' bm bw n (wordsOf n f (K.req s)) ∧ Touch w w' (fun k => k = b ∨ k = bw)
  ans : ∀ {w : World} {b : Nat} {s : K.σ} {j : Jb}, K.fine j → K.wf j s → w.rowIs b (K.t j) (K.n j) (K.cell b s) →
    Calls Try.prog (K.fa j) #[.pointer (some ⟨b, 0, none⟩)] w fun e w' => e = .returned (K.tell s).value ∧ w.grownBy w' none
  mstep : ∀ j, K.fine j → ∀ (b : Nat) (w : World), (method 269 (K.tid j) (.pointer (some ⟨b, 0, none⟩)) "Step").run Try.prog w = .ok (K.fs j, .pointer (some ⟨b, 0, none⟩)) w
  mans : ∀ j, K.fine j → ∀ (b : Nat) (w : World), (method 269 (K.tid j) (.pointer (some ⟨b, 0, none⟩)) "Answer").run Try.prog w = .ok (K.fa j, .pointer (some ⟨b, 0, none⟩)) w
  cstep : ∀ j, K.fine j → ∀ (args : Array Value) (w : World), (callFunc (K.fs j) args).run Try.prog w = .ok (.enter (K.fs j) args) w
  cans : ∀ j, K.fine j → ∀ (args : Array Value) (w : World), (callFunc (K.fa j) args).run Try.prog w = .ok (.enter (K.fa j) args) w
theorem IsKindO.to {K : Kd} (H : IsKindO K) : IsKind K :=
  ⟨⟨H.ok.1, fun j s n f hf hw _ => H.ok.2 j s n f hf hw⟩, H.step, fun hf hw h => H.ans hf (by obtain ⟨s0, n, f, h1, h2, rfl⟩ := hw; exact H.ok.2 _ _ _ _ h1 h2) h, H.mstep, H.mans, H.cstep, H.cans⟩
end Go.Proofs.Ytchhkoalibapiaa

/-
  Who is picked: the number of those that go on, the place-th of them, the next one behind a hand. No program here.
-/
namespace Go.Proofs.Ytchhkoalibapiaa
set_option linter.unusedVariables false

/-- How many of the first i go on. -/
def cnt (g : Nat → Bool) : Nat → Nat
  | 0 => 0
  | i + 1 => cnt g i + (if g i then 1 else 0)

theorem cnt_le (g : Nat → Bool) : ∀ i, cnt g i ≤ i
  | 0 => Nat.le_refl _
  | i + 1 => by have := cnt_le g i; simp only [cnt]; split <;> omega

theorem cnt_mono (g : Nat → Bool) {i j : Nat} (h : i ≤ j) : cnt g i ≤ cnt g j := by
  induction h with
  | refl => exact Nat.le_refl _
  | step _ ih => simp only [cnt]; omega

theorem cnt_true {g : Nat → Bool} {i : Nat} (h : g i = true) : cnt g (i + 1) = cnt g i + 1 := by simp [cnt, h]
theorem cnt_false {g : Nat → Bool} {i : Nat} (h : g i = false) : cnt g (i + 1) = cnt g i := by simp [cnt, h]
theorem cnt_congr {g g' : Nat → Bool} {n : Nat} (h : ∀ i, i < n → g i = g' i) : cnt g n = cnt g' n := by
  induction n with
  | zero => rfl
  | succ n ih => simp only [cnt, ih (fun i hi => h i (by omega)), h n (by omega)]

structure IsPick (n : Nat) (g : Nat → Bool) (k i : Nat) : Prop where
  lt : i < n
  on : g i = true
  rank : cnt g i = k

theorem IsPick.one {n : Nat} {g : Nat → Bool} {k i j : Nat} (h : IsPick n g k i) (h' : IsPick n g k j) : i = j := by
  rcases Nat.lt_trichotomy i j with l | e | l
  · have := cnt_mono g (show i + 1 ≤ j by omega); rw [cnt_true h.on, h.rank, h'.rank] at this; omega
  · exact e
  · have := cnt_mono g (show j + 1 ≤ i by omega); rw [cnt_true h'.on, h.rank, h'.rank] at this; omega

theorem exists_pick (g : Nat → Bool) (k : Nat) : ∀ n, k < cnt g n → ∃ i, IsPick n g k i
  | 0, h => by simp [cnt] at h
  | n + 1, h => by
    by_cases h1 : k < cnt g n
    · obtain ⟨i, hi⟩ := exists_pick g k n h1
      exact ⟨i, by have := hi.lt; omega, hi.on, hi.rank⟩
    · cases hg : g n with
      | false => rw [cnt_false hg] at h; omega
      | true => rw [cnt_true hg] at h; exact ⟨n, by omega, hg, by omega⟩

/-- The place-th, modulo how many go on, of those that go on; -1, if none does. -/
def pickOf (n : Nat) (g : Nat → Bool) (place : Int) : Int :=
  if cnt g n = 0 then -1 else
  match (List.range n).find? (fun i => g i && cnt g i == (place % (cnt g n : Int)).toNat) with
  | some i => i
  | none => -1

theorem find_range {p : Nat → Bool} {n i : Nat} (hi : i < n) (hp : p i = true) (h : ∀ j, j < i → p j = false) : (List.range n).find? p = some i := by
  rw [List.find?_range_eq_some]
  exact ⟨hp, by simpa using hi, fun j hj => by simp [h j hj]⟩
theorem find_range_none {p : Nat → Bool} {n : Nat} (h : ∀ j, j < n → p j = false) : (List.range n).find? p = none := by
  rw [List.find?_eq_none]
  intro x hx
  simp [h x (by simpa using hx)]

theorem pickOf_none {n : Nat} {g : Nat → Bool} {place : Int} (h : cnt g n = 0) : pickOf n g place = -1 := by simp [pickOf, h]
theorem pickOf_some {n : Nat} {g : Nat → Bool} {place : Int} {k i : Nat} (h0 : cnt g n ≠ 0) (hk : place % (cnt g n : Int) = k) (h : IsPick n g k i) : pickOf n g place = i := by
  have hf := find_range (p := fun i => g i && cnt g i == (place % (cnt g n : Int)).toNat) h.lt (by simp [h.on, h.rank, hk]) (fun j hj => by
    cases hg : g j with
    | false => rfl
    | true =>
      have := cnt_mono g (show j + 1 ≤ i by omega)
      rw [cnt_true hg, h.rank] at this
      simp [hk]; omega)
  simp only [pickOf, h0, if_false, hf]
theorem emod_cnt {c : Nat} (place : Int) (h0 : c ≠ 0) : ∃ k : Nat, place % (c : Int) = k ∧ k < c := by
  have h1 := Int.emod_nonneg place (show (c : Int) ≠ 0 by omega)
  have h2 := Int.emod_lt_of_pos place (show 0 < (c : Int) by omega)
  exact ⟨(place % (c : Int)).toNat, by omega, by omega⟩

/-- The first that goes on behind this one, around the end. -/
def behindOf (n : Nat) (g : Nat → Bool) (hand : Int) : Int :=
  match (List.range n).find? (fun i => g (((hand + 1).toNat + i) % n)) with
  | some i => (((hand + 1).toNat + i) % n : Nat)
  | none => -1

theorem behindOf_some {n : Nat} {g : Nat → Bool} {hand : Int} {i : Nat} (hi : i < n) (hg : g (((hand + 1).toNat + i) % n) = true) (h : ∀ j, j < i → g (((hand + 1).toNat + j) % n) = false) :
    behindOf n g hand = (((hand + 1).toNat + i) % n : Nat) := by
  simp only [behindOf, find_range (p := fun i => g (((hand + 1).toNat + i) % n)) hi hg h]
theorem behindOf_none {n : Nat} {g : Nat → Bool} {hand : Int} (h : ∀ j, j < n → g (((hand + 1).toNat + j) % n) = false) : behindOf n g hand = -1 := by
  simp only [behindOf, find_range_none (p := fun i => g (((hand + 1).toNat + i) % n)) h]

theorem behindOf_first {n : Nat} {g : Nat → Bool} {p : Nat} (h : IsPick n g 0 p) : behindOf n g (-1) = p := by
  have hp := h.lt
  have e : ∀ j, j < n → ((-1 + 1 : Int).toNat + j) % n = j := fun j hj => by simp [Nat.mod_eq_of_lt hj]
  rw [behindOf_some (i := p) hp (by rw [e p hp]; exact h.on) (fun j hj => by
    rw [e j (by omega)]
    cases hg : g j with
    | false => rfl
    | true => have := cnt_mono g (show j + 1 ≤ p by omega); rw [cnt_true hg, h.rank] at this; omega), e p hp]

theorem behindOf_next {n : Nat} {g : Nat → Bool} {j h p : Nat} (hh : IsPick n g j h) (hp : IsPick n g (j + 1) p) : behindOf n g h = p := by
  have l1 := hh.lt
  have l2 := hp.lt
  have lt : h < p := by
    rcases Nat.lt_or_ge h p with l | l
    · exact l
    · have := cnt_mono g l; rw [hh.rank, hp.rank] at this; omega
  have e : ∀ i, h + 1 + i < n → (((h : Int) + 1).toNat + i) % n = h + 1 + i := fun i hi => by
    rw [show ((h : Int) + 1).toNat = h + 1 by omega, Nat.mod_eq_of_lt hi]
  rw [behindOf_some (i := p - h - 1) (by omega) (by rw [e _ (by omega), show h + 1 + (p - h - 1) = p by omega]; exact hp.on) (fun i hi => by
    rw [e i (by omega)]
    cases hg : g (h + 1 + i) with
    | false => rfl
    | true =>
      have a := cnt_mono g (show h + 1 ≤ h + 1 + i by omega)
      have b := cnt_mono g (show h + 1 + i + 1 ≤ p by omega)
      rw [cnt_true hh.on, hh.rank] at a
      rw [cnt_true hg, hp.rank] at b
      omega), e _ (by omega), show h + 1 + (p - h - 1) = p by omega]

/-- Whoever is picked goes on. -/
theorem pickOf_ok {n : Nat} {g : Nat → Bool} (place : Int) : pickOf n g place = -1 ∧ cnt g n = 0 ∨ ∃ i : Nat, pickOf n g place = i ∧ i < n ∧ g i = true := by
  by_cases h0 : cnt g n = 0
  · exact .inl ⟨pickOf_none h0, h0⟩
  · obtain ⟨k, hk, hl⟩ := emod_cnt place h0
    obtain ⟨i, hi⟩ := exists_pick g k n hl
    exact .inr ⟨i, pickOf_some h0 hk hi, hi.lt, hi.on⟩

theorem cnt_zero {g : Nat → Bool} {n : Nat} (h : cnt g n = 0) : ∀ i, i < n → g i = false := by
  intro i hi
  cases hg : g i with
  | false => rfl
  | true => have := cnt_mono g (show i + 1 ≤ n by omega); rw [cnt_true hg] at this; omega
theorem cnt_none {g : Nat → Bool} {n : Nat} (h : ∀ i, i < n → g i = false) : cnt g n = 0 := by
  induction n with
  | zero => rfl
  | succ n ih => rw [cnt_false (h n (by omega)), ih (fun i hi => h i (by omega))]

theorem behindOf_ok {n : Nat} {g : Nat → Bool} (hand : Int) : behindOf n g hand = -1 ∧ cnt g n = 0 ∨ ∃ i : Nat, behindOf n g hand = i ∧ i < n ∧ g i = true := by
  by_cases h : ∃ j, j < n ∧ g (((hand + 1).toNat + j) % n) = true
  · right
    unfold behindOf
    cases hf : (List.range n).find? (fun i => g (((hand + 1).toNat + i) % n)) with
    | none =>
      obtain ⟨j, hj, hg⟩ := h
      rw [List.find?_eq_none] at hf
      exact absurd hg (by simpa using hf j (by simpa using hj))
    | some i =>
      have h1 := List.find?_some hf
      have h2 := List.mem_of_find?_eq_some hf
      have : 0 < n := by have := List.mem_range.1 h2; omega
      exact ⟨_, rfl, Nat.mod_lt _ this, h1⟩
  · left
    have hn : ∀ j, j < n → g (((hand + 1).toNat + j) % n) = false := fun j hj => by
      cases hg : g (((hand + 1).toNat + j) % n) with
      | false => rfl
      | true => exact absurd ⟨j, hj, hg⟩ h
    refine ⟨behindOf_none hn, cnt_none fun i hi => ?_⟩
    -- i is met at j = (i + n - s % n) % n
    have hs : (hand + 1).toNat % n < n := Nat.mod_lt _ (by omega)
    have key : ∃ j, j < n ∧ ((hand + 1).toNat + j) % n = i := by
      generalize hsd : (hand + 1).toNat % n = s at hs
      by_cases hsi : s ≤ i
      · refine ⟨i - s, by omega, ?_⟩
        rw [Nat.add_mod, hsd, Nat.mod_eq_of_lt (show i - s < n by omega), show s + (i - s) = i by omega, Nat.mod_eq_of_lt hi]
      · refine ⟨i + n - s, by omega, ?_⟩
        rw [Nat.add_mod, hsd, Nat.mod_eq_of_lt (show i + n - s < n by omega), show s + (i + n - s) = i + n by omega, Nat.add_mod_right, Nat.mod_eq_of_lt hi]
    obtain ⟨j, hj, rfl⟩ := key
    exact hn j hj
theorem cnt_pos_of {g : Nat → Bool} {n i : Nat} (hi : i < n) (hg : g i = true) : cnt g n ≠ 0 := fun h => by have := cnt_zero h i hi; rw [hg] at this; cases this
end Go.Proofs.Ytchhkoalibapiaa

/-
  Who is picked: the program's count, behind and Next, the document's Pick and After, each by its contract.
-/
namespace Go.Proofs.Ytchhkoalibapiaa
open Go.RowKit
set_option linter.unusedVariables false
set_option linter.unusedSimpArgs false
set_option maxRecDepth 20000

/-- A slice at ao of n bools, readable below block B: place j is 'g j'. -/
def SeesB (w : World) (B : Nat) (ao : Option Addr) (n : Nat) (g : Nat → Bool) : Prop :=
  ∀ j, j < n → ∃ b off, ao = some ⟨b, off, none⟩ ∧ b < B ∧ w.cell? ⟨b, off + j, none⟩ = some (.bool (g j))
theorem SeesB.below {w w' : World} {B C : Nat} {ao : Option Addr} {n : Nat} {g : Nat → Bool} (h : SeesB w B ao n g) (hb : Below C w w') (hBC : B ≤ C) : SeesB w' B ao n g :=
  fun j hj => by obtain ⟨b, off, e, hl, hc⟩ := h j hj; exact ⟨b, off, e, hl, (hb.cell (p := ⟨b, off + j, none⟩) (by show b < C; omega)).trans hc⟩

theorem count_any {w : World} {B : Nat} {ao : Option Addr} {n cap : Nat} {g : Nat → Bool} (h : SeesB w B ao n g) (hn : n ≤ 9223372036854775807) :
    Calls Try.prog 58 #[.slice ao n cap] w fun e w' => e = .returned (.int .i64 (cnt g n)) ∧ w' = w := by
  have H := hide h
  clear h
  go_enter Try.func58, Try.ntmps58
  go_wp2_with fail
  go_loopw [3, 8] (fun c i wr => ∃ k : Nat, k ≤ n ∧ i = .int .i64 k ∧ c = .int .i64 (cnt g k) ∧ wr = w) (fun _ i _ => n - (intOf i).toNat)
  case atStart => exact ⟨0, Nat.zero_le _, rfl, rfl, rfl⟩
  case round =>
    obtain ⟨k, hk, rfl, rfl, rfl⟩ := hrel
    by_cases hlt : k < n
    · obtain ⟨b, off, rfl, hbl, hcc⟩ := H.out k hlt
      have hkn : (k : Int) < (n : Int) := by omega
      have hcl := cnt_le g k
      cases hg : g k with
      | true =>
        rw [hg] at hcc
        have hct := cnt_true hg
        go_wp2
        go_roundw
        case rel => exact ⟨k + 1, by omega, by go_num, by rw [hct]; go_num, by first | rfl | trivial⟩
        case measure => simp [intOf]; omega
      | false =>
        rw [hg] at hcc
        have hct := cnt_false hg
        go_wp2
        go_roundw
        case rel => exact ⟨k + 1, by omega, by go_num, by rw [hct], by first | rfl | trivial⟩
        case measure => simp [intOf]; omega
    · obtain rfl : k = n := by omega
      go_wp2
      go_ret
      exact ⟨rfl, rfl⟩

theorem tmod_nat (a n : Nat) : Int.tmod (a : Int) (n : Int) = ((a % n : Nat) : Int) := by
  rw [Int.tmod_eq_emod_of_nonneg (by omega)]; omega

theorem behind_any {w : World} {B : Nat} {ao : Option Addr} {n cap : Nat} {g : Nat → Bool} (h : SeesB w B ao n g) (hn : n ≤ 4611686018427387903) (hand : Int) (h1 : -1 ≤ hand) (h2 : hand < n) :
    Calls Try.prog 55 #[.slice ao n cap, .int .i64 hand] w fun e w' => e = .returned (.int .i64 (behindOf n g hand)) ∧ w' = w := by
  have H := hide h
  clear h
  obtain ⟨s, hs⟩ : ∃ s : Nat, hand + 1 = s := ⟨(hand + 1).toNat, by omega⟩
  have hst : (hand + 1).toNat = s := by omega
  go_enter Try.func55, Try.ntmps55
  go_wp2_with fail
  go_loopw [9] (fun i wr => ∃ k : Nat, k ≤ n ∧ i = .int .i64 k ∧ (∀ j, j < k → g ((s + j) % n) = false) ∧ wr = w) (fun i _ => n - (intOf i).toNat)
  case atStart => exact ⟨0, Nat.zero_le _, rfl, fun j hj => by omega, rfl⟩
  case round =>
    obtain ⟨k, hk, rfl, hno, rfl⟩ := hrel
    by_cases hlt : k < n
    · obtain ⟨r, hr⟩ : ∃ r, r = (s + k) % n := ⟨_, rfl⟩
      have hm : r < n := by rw [hr]; exact Nat.mod_lt _ (by omega)
      obtain ⟨b, off, rfl, hbl, hcc⟩ := H.out _ hm
      have hkn : (k : Int) < (n : Int) := by omega
      have hn0 : ¬ (n : Int) = 0 := by omega
      have ha1 : hand + 1 = (s : Int) := hs
      have hmod : ((s : Int) + k) % (n : Int) = (r : Int) := by rw [hr]; simp
      have hrn : (r : Int) < (n : Int) := by omega
      have HR := hide hr
      have HN := hide hno
      clear hr hno
      cases hg : g r with
      | true =>
        rw [hg] at hcc
        go_wp2_with fail
        go_ret
        exact ⟨by rw [behindOf_some hlt (by rw [hst, ← HR.out]; exact hg) (by rw [hst]; exact HN.out), hst, ← HR.out, ← hmod]; rfl, rfl⟩
      | false =>
        rw [hg] at hcc
        go_wp2_with fail
        go_roundw
        case rel => exact ⟨k + 1, by omega, by go_num, fun j hj => by rcases Nat.lt_succ_iff_lt_or_eq.1 hj with h | rfl; exact HN.out j h; rw [← HR.out]; exact hg, by first | rfl | trivial⟩
        case measure => simp [intOf]; omega
    · obtain rfl : k = n := by omega
      go_wp2
      go_ret
      exact ⟨by rw [behindOf_none (by rw [hst]; exact hno)]; rfl, rfl⟩

theorem tmod_emod (p : Int) (c : Nat) (hc : 0 < c) : (Int.tmod p c < 0 ∧ p % (c : Int) = Int.tmod p c + c) ∨ (¬ Int.tmod p c < 0 ∧ p % (c : Int) = Int.tmod p c) := by
  have h := Int.tmod_eq_emod (a := p) (b := c)
  have h1 := Int.emod_nonneg p (show (c : Int) ≠ 0 by omega)
  have h2 := Int.emod_lt_of_pos p (show 0 < (c : Int) by omega)
  have h3 : ((c : Int).natAbs : Int) = c := by omega
  by_cases hp : 0 ≤ p ∨ (c : Int) ∣ p
  · rw [if_pos hp] at h; right; omega
  · rw [if_neg hp] at h
    have : p % (c : Int) ≠ 0 := fun h0 => hp (.inr (Int.dvd_of_emod_eq_zero h0))
    omega

/-- Next. -/
theorem next_any {w : World} {B : Nat} {ao : Option Addr} {n cap : Nat} {g : Nat → Bool} (h : SeesB w B ao n g) (hn : n ≤ 4611686018427387903) (place : Int) :
    Calls Try.prog 54 #[.slice ao n cap, .int .i64 place] w fun e w' => e = .returned (.int .i64 (pickOf n g place)) ∧ w' = w := by
  have hcl := cnt_le g n
  by_cases h0 : cnt g n = 0
  · go_enter Try.func54, Try.ntmps54
    go_wp2_with (go_at_call 58; refine (count_any h (by omega)).mono ?_; rintro e w' ⟨rfl, hw⟩; obtain rfl := hw.symm; rw [h0])
    go_ret
    exact ⟨by rw [pickOf_none h0]; rfl, rfl⟩
  · obtain ⟨k, hk, hkl⟩ := emod_cnt place h0
    obtain ⟨i, hi⟩ := exists_pick g k n hkl
    rw [pickOf_some h0 hk hi]
    obtain ⟨p0, hp0⟩ := exists_pick g 0 n (by omega)
    have e0 := behindOf_first hp0
    have hp0l := hp0.lt
    obtain ⟨c, hc⟩ : ∃ c, c = cnt g n := ⟨_, rfl⟩
    have hc0 : ¬ (c : Int) = 0 := by omega
    have hkc : k < c := by omega
    have ht := tmod_emod place c (by omega)
    rw [hc, hk, ← hc] at ht
    have H := hide h
    have HI := hide hi
    have HP := hide hp0
    have HC := hide hc
    have hcn : c ≤ n := by omega
    clear h hi hp0 hk h0 hkl hcl hc
    obtain ⟨t, htt⟩ : ∃ t, t = Int.tmod place c := ⟨_, rfl⟩
    have key : Calls Try.prog 54 #[.slice ao n cap, .int .i64 place] w fun e w' => e = .returned (.int .i64 i) ∧ w' = w := by
      go_enter Try.func54, Try.ntmps54
      go_wp2_with (first
        | (go_at_call 58; refine (count_any H.out (by omega)).mono ?_; rintro e w' ⟨rfl, hw⟩; obtain rfl := hw.symm; rw [← HC.out])
        | (go_at_call 55; refine (behind_any H.out (by omega) (-1) (by omega) (by omega)).mono ?_; rintro e w' ⟨rfl, hw⟩; obtain rfl := hw.symm; rw [e0]))
      all_goals (first | rw [show place.tmod c + c = (k : Int) by omega] | rw [show place.tmod c = (k : Int) by omega])
      all_goals clear ht htt e0
      all_goals
        go_loopw [7, 23] (fun hd i wr => ∃ j q : Nat, j ≤ k ∧ i = .int .i64 j ∧ hd = .int .i64 q ∧ Hid (IsPick n g j q) ∧ wr = w) (fun _ i _ => k - (intOf i).toNat)
        case atStart => exact ⟨0, p0, Nat.zero_le _, rfl, rfl, HP, rfl⟩
        case round =>
          obtain ⟨j, q, hj, rfl, rfl, HQ, rfl⟩ := hrel
          by_cases hlt : j < k
          · obtain ⟨q', hq'⟩ := exists_pick g (j + 1) n (by have := HC.out; omega)
            have e1 := behindOf_next HQ.out hq'
            have hql := HQ.out.lt
            have hjk : (j : Int) < (k : Int) := by omega
            have HQ' := hide hq'
            clear hq'
            go_wp2_with (go_at_call 55; refine (behind_any H.out (by omega) q (by omega) (by omega)).mono ?_; rintro e w' ⟨rfl, hw⟩; obtain rfl := hw.symm; rw [e1])
            go_roundw
            case rel => exact ⟨j + 1, q', by omega, by go_num, rfl, HQ', by first | rfl | trivial⟩
            case measure => simp [intOf]; omega
          · obtain rfl : j = k := by omega
            have eq := HQ.out.one HI.out
            go_wp2
            go_ret
            exact ⟨by rw [← eq]; rfl, rfl⟩
    exact key

/-- The document's Pick. -/
theorem rpick_any {w : World} {B : Nat} {ao : Option Addr} {n cap : Nat} {g : Nat → Bool} (h : SeesB w B ao n g) (hn : n ≤ 4611686018427387903) (place : Int) :
    Calls Try.prog 38 #[.slice ao n cap, .int .i64 place] w fun e w' => e = .returned (.int .i64 (pickOf n g place)) ∧ w' = w := by
  have H := hide h
  clear h
  obtain ⟨ans, hans⟩ : ∃ a, a = pickOf n g place := ⟨_, rfl⟩
  rw [← hans]
  have HA := hide hans
  clear hans
  go_enter Try.func38, Try.ntmps38
  go_wp2_with fail
  go_loopw [5, 6] (fun c i wr => ∃ k : Nat, k ≤ n ∧ i = .int .i64 k ∧ c = .int .i64 (cnt g k) ∧ wr = w) (fun _ i _ => n - (intOf i).toNat)
  case atStart => exact ⟨0, Nat.zero_le _, rfl, rfl, rfl⟩
  case round =>
    obtain ⟨k, hk, rfl, rfl, rfl⟩ := hrel
    by_cases hlt : k < n
    · obtain ⟨b, off, rfl, hbl, hcc⟩ := H.out k hlt
      have hkn : (k : Int) < (n : Int) := by omega
      have hcl := cnt_le g k
      cases hg : g k with
      | true =>
        rw [hg] at hcc
        have hct := cnt_true hg
        go_wp2
        go_roundw
        case rel => exact ⟨k + 1, by omega, by go_num, by rw [hct]; go_num, by first | rfl | trivial⟩
        case measure => simp [intOf]; omega
      | false =>
        rw [hg] at hcc
        have hct := cnt_false hg
        go_wp2
        go_roundw
        case rel => exact ⟨k + 1, by omega, by go_num, by rw [hct], by first | rfl | trivial⟩
        case measure => simp [intOf]; omega
    · obtain rfl : k = n := by omega
      have hcl := cnt_le g k
      by_cases h0 : cnt g k = 0
      · rw [h0]
        have ea := HA.out.trans (pickOf_none h0)
        clear HA
        go_wp2
        go_ret
        exact ⟨by rw [ea]; rfl, rfl⟩
      · obtain ⟨m, hm, hml⟩ := emod_cnt place h0
        obtain ⟨i, hi⟩ := exists_pick g m k hml
        have ea := HA.out.trans (pickOf_some h0 hm hi)
        clear HA
        subst ea
        obtain ⟨c, hc⟩ : ∃ c, c = cnt g k := ⟨_, rfl⟩
        have hc0 : ¬ (c : Int) = 0 := by omega
        have hkc : m < c := by omega
        have ht := tmod_emod place c (by omega)
        rw [hc, hm, ← hc] at ht
        rw [← hc]
        have HI := hide hi
        have HC := hide hc
        have hcn : c ≤ k := by omega
        clear hi hm h0 hml hcl hc
        go_wp2_with fail
        all_goals (first | rw [show place.tmod c + c = (m : Int) by omega] | rw [show place.tmod c = (m : Int) by omega])
        all_goals clear ht
        all_goals
          go_loopw [7, 8] (fun x i wr' => ∃ j : Nat, j ≤ k ∧ i = .int .i64 j ∧ cnt g j ≤ m ∧ x = .int .i64 ((m - cnt g j : Nat) : Int) ∧ wr' = wr) (fun _ i _ => k - (intOf i).toNat)
          case atStart => exact ⟨0, Nat.zero_le _, rfl, Nat.zero_le _, rfl, rfl⟩
          case round =>
            obtain ⟨j, hj, rfl, hcm, rfl, rfl⟩ := hrel
            by_cases hlt2 : j < k
            · obtain ⟨b, off, rfl, hbl, hcc⟩ := H.out j hlt2
              have hkn : (j : Int) < (k : Int) := by omega
              cases hg : g j with
              | true =>
                rw [hg] at hcc
                have hct := cnt_true hg
                by_cases he : cnt g j = m
                · obtain rfl := IsPick.one ⟨hlt2, hg, he⟩ HI.out
                  rw [show m - cnt g j = 0 by omega]
                  go_wp2
                  go_ret
                  exact ⟨rfl, rfl⟩
                · obtain ⟨x, hx⟩ : ∃ x, x = m - cnt g j := ⟨_, rfl⟩
                  have hx0 : ¬ (x : Int) = 0 := by omega
                  have hxm : x ≤ m := by omega
                  rw [← hx]
                  have HX := hide hx
                  clear hx
                  go_wp2
                  go_roundw
                  case rel => exact ⟨j + 1, by omega, by go_num, by omega, by rw [hct, show m - (cnt g j + 1) = x - 1 by have := HX.out; omega, Int.ofNat_sub (by omega)]; go_num, by first | rfl | trivial⟩
                  case measure => simp [intOf]; omega
              | false =>
                rw [hg] at hcc
                have hct := cnt_false hg
                go_wp2
                go_roundw
                case rel => exact ⟨j + 1, by omega, by go_num, by omega, by rw [hct], by first | rfl | trivial⟩
                case measure => simp [intOf]; omega
            · obtain rfl : j = k := by omega
              have := HC.out
              omega

/-- The document's After. -/
theorem after_any {w : World} {B : Nat} {ao : Option Addr} {n cap : Nat} {g : Nat → Bool} (h : SeesB w B ao n g) (hn : n ≤ 4611686018427387903) (hand : Int) (h1 : -1 ≤ hand) (h2 : hand < n) :
    Calls Try.prog 40 #[.slice ao n cap, .int .i64 hand] w fun e w' => e = .returned (.int .i64 (behindOf n g hand)) ∧ w' = w := by
  have H := hide h
  clear h
  obtain ⟨s, hs⟩ : ∃ s : Nat, hand + 1 = s := ⟨(hand + 1).toNat, by omega⟩
  have hst : (hand + 1).toNat = s := by omega
  go_enter Try.func40, Try.ntmps40
  go_wp2_with fail
  go_loopw [6] (fun i wr => ∃ k : Nat, k ≤ n ∧ i = .int .i64 (k + 1) ∧ (∀ j, j < k → g ((s + j) % n) = false) ∧ wr = w) (fun i _ => n + 1 - (intOf i).toNat)
  case atStart => exact ⟨0, Nat.zero_le _, rfl, fun j hj => by omega, rfl⟩
  case round =>
    obtain ⟨k, hk, rfl, hno, rfl⟩ := hrel
    by_cases hlt : k < n
    · obtain ⟨r, hr⟩ : ∃ r, r = (s + k) % n := ⟨_, rfl⟩
      have hm : r < n := by rw [hr]; exact Nat.mod_lt _ (by omega)
      obtain ⟨b, off, rfl, hbl, hcc⟩ := H.out _ hm
      have hkn : (k : Int) + 1 ≤ (n : Int) := by omega
      have hn0 : ¬ (n : Int) = 0 := by omega
      have ha1 : hand + ((k : Int) + 1) = (s : Int) + k := by omega
      have hmod : ((s : Int) + k) % (n : Int) = (r : Int) := by rw [hr]; simp
      have hrn : (r : Int) < (n : Int) := by omega
      have HR := hide hr
      have HN := hide hno
      clear hr hno
      cases hg : g r with
      | true =>
        rw [hg] at hcc
        go_wp2_with fail
        go_ret
        exact ⟨by rw [behindOf_some hlt (by rw [hst, ← HR.out]; exact hg) (by rw [hst]; exact HN.out), hst, ← HR.out, ← hmod]; rfl, rfl⟩
      | false =>
        rw [hg] at hcc
        go_wp2_with fail
        go_roundw
        case rel => exact ⟨k + 1, by omega, by go_num, fun j hj => by rcases Nat.lt_succ_iff_lt_or_eq.1 hj with h | rfl; exact HN.out j h; rw [← HR.out]; exact hg, by first | rfl | trivial⟩
        case measure => simp [intOf]; omega
    · obtain rfl : k = n := by omega
      go_wp2
      go_ret
      exact ⟨by rw [behindOf_none (by rw [hst]; exact hno)]; rfl, rfl⟩

end Go.Proofs.Ytchhkoalibapiaa

/-
  A run by a schedule, told without a program: its state, its step, the hand that is picked; and how the program's run lies in memory.
-/
namespace Go.Proofs.Ytchhkoalibapiaa
open Go.RowKit
set_option linter.unusedVariables false
set_option linter.unusedSimpArgs false
set_option linter.unusedSectionVars false

/-- What a run is of: n words, nh hands, hand h has jn h jobs; ns numbers of a schedule. -/
structure Par where
  n : Nat
  nh : Nat
  jn : Nat → Nat
  jb : Nat → Nat → Jb
  ns : Nat
  sched : Nat → Int

structure St (K : Kd) where
  f : Nat → Int
  done : Nat → Nat
  cur : Nat → K.σ
  k : Nat
  s : Nat → Stp
  ans : Nat → Nat → Ans
  last : Int

def St.going {K : Kd} (P : Par) (st : St K) (h : Nat) : Bool := decide (st.done h < P.jn h)

def st0 (K : Kd) (P : Par) (f : Nat → Int) : St K :=
  { f := f, done := fun _ => 0, cur := fun h => K.init h (P.jb h 0), k := 0, s := fun _ => ⟨0, 0, 0, 0, 0, false⟩, ans := fun _ _ => ⟨false, 0⟩, last := -1 }

def stepSt {K : Kd} (P : Par) (st : St K) (h : Nat) : St K :=
  { f := wordsOf P.n st.f (K.req (st.cur h))
    done := if K.ends (st.cur h) (stepOf P.n st.f (K.req (st.cur h))) = true then upd st.done h (st.done h + 1) else st.done
    cur := upd st.cur h (if K.ends (st.cur h) (stepOf P.n st.f (K.req (st.cur h))) = true then K.init h (P.jb h (st.done h + 1)) else K.next (st.cur h) (stepOf P.n st.f (K.req (st.cur h))))
    k := st.k + 1
    s := upd st.s st.k (stepOf P.n st.f (K.req (st.cur h)))
    ans := if K.ends (st.cur h) (stepOf P.n st.f (K.req (st.cur h))) = true then upd st.ans h (upd (st.ans h) (st.done h) (K.tell (K.next (st.cur h) (stepOf P.n st.f (K.req (st.cur h)))))) else st.ans
    last := h }

/-- The hand whose turn it is; -1: none goes on. -/
def St.turn {K : Kd} (P : Par) (st : St K) : Int := if st.k < P.ns then pickOf P.nh (st.going P) (P.sched st.k) else behindOf P.nh (st.going P) st.last

/-- Behind m steps, or fewer, where none goes on. -/
def runSt {K : Kd} (P : Par) (st : St K) : Nat → St K
  | 0 => st
  | m + 1 => if (runSt P st m).turn P < 0 then runSt P st m else stepSt P (runSt P st m) ((runSt P st m).turn P).toNat

theorem turn_ok {K : Kd} (P : Par) (st : St K) : (st.turn P = -1 ∧ cnt (st.going P) P.nh = 0) ∨ ∃ h : Nat, st.turn P = h ∧ h < P.nh ∧ st.done h < P.jn h := by
  unfold St.turn
  split
  · rcases pickOf_ok (n := P.nh) (g := st.going P) (P.sched st.k) with h | ⟨i, h1, h2, h3⟩
    · exact .inl h
    · exact .inr ⟨i, h1, h2, by simpa [St.going] using h3⟩
  · rcases behindOf_ok (n := P.nh) (g := st.going P) st.last with h | ⟨i, h1, h2, h3⟩
    · exact .inl h
    · exact .inr ⟨i, h1, h2, by simpa [St.going] using h3⟩

/-- Once none goes on, nothing more is done. -/
theorem runSt_stuck {K : Kd} {P : Par} {st : St K} {m : Nat} (h : (runSt P st m).turn P < 0) : ∀ j, runSt P st (m + j) = runSt P st m
  | 0 => rfl
  | j + 1 => by
    have ih := runSt_stuck h j
    show (if (runSt P st (m + j)).turn P < 0 then runSt P st (m + j) else _) = _
    rw [ih, if_pos h]

/-! How the program's run lies in memory. -/
inductive Rl where
  | mem | words | run | tasks | going | answers | steps
  | trow (h : Nat) | task (h j : Nat) | arow (h : Nat)
  deriving DecidableEq

def ansCells (a : Nat → Ans) : Nat → List Value
  | 0 => []
  | k + 1 => ansCells a k ++ (a k).cells
theorem ansCells_length (a : Nat → Ans) (k : Nat) : (ansCells a k).length = k * 2 := by
  induction k with
  | zero => rfl
  | succ k ih => simp [ansCells, ih, Ans.cells]; omega
theorem ansCells_congr {a b : Nat → Ans} {k : Nat} (h : ∀ j, j < k → a j = b j) : ansCells a k = ansCells b k := by
  induction k with
  | zero => rfl
  | succ k ih => simp only [ansCells]; rw [ih (fun j hj => h j (by omega)), h k (by omega)]

def Stp.cells (s : Stp) : List Value := [.int .i64 s.hand, .int .i64 s.act, .int .i64 s.at_, .int .u64 s.had, .int .u64 s.put, .bool s.ok]
def stepCells (s : Nat → Stp) : Nat → List Value
  | 0 => []
  | k + 1 => stepCells s k ++ (s k).cells
theorem stepCells_length (s : Nat → Stp) (k : Nat) : (stepCells s k).length = k * 6 := by
  induction k with
  | zero => rfl
  | succ k ih => simp [stepCells, ih, Stp.cells]; omega
theorem stepCells_congr {a b : Nat → Stp} {k : Nat} (h : ∀ j, j < k → a j = b j) : stepCells a k = stepCells b k := by
  induction k with
  | zero => rfl
  | succ k ih => simp only [stepCells]; rw [ih (fun j hj => h j (by omega)), h k (by omega)]

/-- A slice of the run's own that grows by append: k elements of sz cells, the cells xs, in role r's block. -/
def Grows (blk : Rl → Nat) (c : Rl → Option Row) (r : Rl) (e : TypeId) (sz k : Nat) (xs : List Value) (v : Value) : Prop :=
  (k = 0 ∧ v = .slice none 0 0 ∧ c r = none) ∨
  ∃ cap F, v = .slice (some ⟨blk r, 0, none⟩) k cap ∧ c r = some ⟨e, cap * sz, F⟩ ∧ k ≤ cap ∧ cap ≤ maxLen ∧ Pre F xs

theorem Grows.owns {blk : Rl → Nat} {c : Rl → Option Row} {r : Rl} {e : TypeId} {sz k : Nat} {xs : List Value} {v : Value} {w : World} {base : Nat} (h : Grows blk c r e sz k xs v) (hh : Has w base blk c) (hl : xs.length = k * sz) :
    w.ownsRow base e sz v k xs := by
  rcases h with ⟨rfl, rfl, _⟩ | ⟨cap, F, rfl, hc, hk, hm, hp⟩
  · have : xs = [] := List.eq_nil_of_length_eq_zero (by simpa using hl)
    subst this
    exact World.ownsRow_nil w base e sz
  · exact owns_of_row (hh.row r _ hc) hp hl hk hm (hh.new r _ hc)

/-- What 'append' to such a slice leaves. -/
theorem Grows.appended {blk : Rl → Nat} {c : Rl → Option Row} {r : Rl} {e : TypeId} {sz k : Nat} {xs news : List Value} {v v' : Value} {w w0 w' : World} {base : Nat} (h : Grows blk c r e sz k xs v) (hh : Has w0 base blk c)
    (hb : base ≤ w0.heap.size) (h0 : Touch w0 w (fun _ => False)) (hown : w'.ownsRow base e sz v' (k + 1) (xs ++ news)) (hg : w.grownBy w' v.ownBlock) (hat : v'.ownBlock = v.ownBlock ∨ v'.ownBlock = some w.heap.size) :
    ∃ nb F cap, v' = .slice (some ⟨nb, 0, none⟩) (k + 1) cap ∧ Has w' base (upd blk r nb) (upd c r (some ⟨e, cap * sz, F⟩)) ∧ Grows (upd blk r nb) (upd c r (some ⟨e, cap * sz, F⟩)) r e sz (k + 1) (xs ++ news) v' ∧ base ≤ nb ∧ (nb = blk r ∧ (∃ x, c r = some x) ∨ w0.heap.size ≤ nb) := by
  obtain ⟨nb, cap, F, rfl, hbn, hrow, hpre, hkc, hcm⟩ := row_of_owns hown (by omega)
  have hh' := hh.touch h0 (fun _ _ _ => id)
  have hsz := h0.size
  have key : ∀ r' x', r' ≠ r → c r' = some x' → ¬ (some (blk r') = v.ownBlock) := by
    intro r' x' hne e' he
    rcases h with ⟨_, rfl, _⟩ | ⟨cap', F', rfl, hc, _⟩
    · simp [Value.ownBlock] at he
    · simp only [Value.ownBlock, Option.some.injEq] at he
      exact hh.ne e' hc hne he
  refine ⟨nb, F, cap, rfl, hh'.move r nb _ (Touch.of_grown hg) key ?_ hrow hbn, .inr ⟨cap, F, by simp, by simp, hkc, hcm, hpre⟩, hbn, ?_⟩
  · intro r' x' hne e' he
    rcases hat with hat | hat
    · simp only [Value.ownBlock] at hat
      exact key r' x' hne e' (by rw [he]; exact hat)
    · simp only [Value.ownBlock, Option.some.injEq] at hat
      have := hh'.lt e'
      omega
  · rcases hat with hat | hat
    · left
      rcases h with ⟨_, rfl, _⟩ | ⟨cap', F', rfl, hc, _⟩
      · simp [Value.ownBlock] at hat
      · simp only [Value.ownBlock, Option.some.injEq] at hat
        exact ⟨hat, _, hc⟩
    · right
      simp only [Value.ownBlock, Option.some.injEq] at hat
      omega

/-- The run under way in memory, as the state st tells it. -/
structure Good (K : Kd) (P : Par) (blk : Rl → Nat) (c : Rl → Option Row) (st : St K) : Prop where
  mem : c .mem = some ⟨126, 1, fun _ => .slice (some ⟨blk .words, 0, none⟩) P.n P.n⟩
  words : c .words = some ⟨131, P.n, fun i => .int .u64 (st.f i)⟩
  most : P.n ≤ 4096
  word : ∀ i, i < P.n → 0 ≤ st.f i ∧ st.f i ≤ 18446744073709551615
  run : ∃ sv RF, c .run = some ⟨119, 5, RF⟩ ∧ RF 0 = .slice (some ⟨blk .tasks, 0, none⟩) P.nh P.nh ∧ RF 1 = .slice (some ⟨blk .going, 0, none⟩) P.nh P.nh ∧ RF 2 = .int .i64 st.last ∧ RF 3 = sv ∧
    RF 4 = .slice (some ⟨blk .answers, 0, none⟩) P.nh P.nh ∧ Grows blk c .steps 57 6 st.k (stepCells st.s st.k) sv
  tasks : ∃ T, c .tasks = some ⟨135, P.nh, T⟩ ∧ ∀ h, h < P.nh → (st.done h < P.jn h → ∃ cap, P.jn h - st.done h ≤ cap ∧ T h = .slice (some ⟨blk (.trow h), st.done h, none⟩) (P.jn h - st.done h) cap) ∧ (st.done h = P.jn h → ∃ ao cap, T h = .slice ao 0 cap)
  going : ∃ G, c .going = some ⟨4, P.nh, G⟩ ∧ ∀ h, h < P.nh → G h = .bool (st.going P h)
  answers : ∃ A, c .answers = some ⟨63, P.nh, A⟩ ∧ ∀ h, h < P.nh → Grows blk c (.arow h) 65 2 (st.done h) (ansCells (st.ans h) (st.done h)) (A h)
  trow : ∀ h, h < P.nh → 0 < P.jn h → ∃ cap F, c (.trow h) = some ⟨101, cap, F⟩ ∧ P.jn h ≤ cap ∧ ∀ j, j < P.jn h → F j = .iface (K.tid (P.jb h j)) (.pointer (some ⟨blk (.task h j), 0, none⟩))
  task : ∀ h, h < P.nh → ∀ j, st.done h ≤ j → j < P.jn h → c (.task h j) = some ⟨K.t (P.jb h j), K.n (P.jb h j), K.cell (blk (.task h j)) (if j = st.done h then st.cur h else K.init h (P.jb h j))⟩
  doneLe : ∀ h, h < P.nh → st.done h ≤ P.jn h
  jobs : ∀ h, h < P.nh → P.jn h ≤ 256
  hands : P.nh ≤ 8
  wf : ∀ h, h < P.nh → st.done h < P.jn h → K.wf (P.jb h (st.done h)) (st.cur h)
  jwf : ∀ h, h < P.nh → ∀ j, j < P.jn h → K.fine (P.jb h j)
  lastOk : -1 ≤ st.last ∧ st.last < P.nh
end Go.Proofs.Ytchhkoalibapiaa

/-
  The run in memory behind a step, from what the step left in each role's block.
-/
namespace Go.Proofs.Ytchhkoalibapiaa
open Go.RowKit
set_option linter.unusedVariables false
set_option linter.unusedSimpArgs false

theorem Grows.congr {blk blk' : Rl → Nat} {c c' : Rl → Option Row} {r : Rl} {e : TypeId} {sz k : Nat} {xs : List Value} {v : Value} (h : Grows blk c r e sz k xs v) (h1 : blk' r = blk r) (h2 : c' r = c r) : Grows blk' c' r e sz k xs v := by
  unfold Grows at h ⊢
  rw [h1, h2]
  exact h

variable {K : Kd} {P : Par} {blk blk' : Rl → Nat} {c c' : Rl → Option Row} {st : St K} {h : Nat} {x : Stp} {f' : Nat → Int}

/-- A step behind which the task goes on. -/
theorem Good.goesOn (G : Good K P blk c st) (hK : K.Ok) (hh : h < P.nh) (hd : st.done h < P.jn h) (hx : stepOf P.n st.f (K.req (st.cur h)) = x) (hf : wordsOf P.n st.f (K.req (st.cur h)) = f')
    (hend : ¬ K.ends (st.cur h) x = true) (hw : ∀ i, i < P.n → 0 ≤ f' i ∧ f' i ≤ 18446744073709551615)
    (hb : ∀ r, r ≠ .steps → blk' r = blk r) (hc : ∀ r, r ≠ .steps → r ≠ .run → r ≠ .words → r ≠ .task h (st.done h) → c' r = c r)
    (eW : c' .words = some ⟨131, P.n, fun i => .int .u64 (f' i)⟩) (eK : c' (.task h (st.done h)) = some ⟨K.t (P.jb h (st.done h)), K.n (P.jb h (st.done h)), K.cell (blk (.task h (st.done h))) (K.next (st.cur h) x)⟩)
    {RF : Nat → Value} (eR : c' .run = some ⟨119, 5, RF⟩) (R0 : RF 0 = .slice (some ⟨blk .tasks, 0, none⟩) P.nh P.nh) (R1 : RF 1 = .slice (some ⟨blk .going, 0, none⟩) P.nh P.nh) (R2 : RF 2 = .int .i64 h)
    (R4 : RF 4 = .slice (some ⟨blk .answers, 0, none⟩) P.nh P.nh) (R3 : Grows blk' c' .steps 57 6 (st.k + 1) (stepCells st.s st.k ++ x.cells) (RF 3)) : Good K P blk' c' (stepSt P st h) := by
  have hdone : (stepSt P st h).done = st.done := by simp only [stepSt, hx]; rw [if_neg hend]
  have hans : (stepSt P st h).ans = st.ans := by simp only [stepSt, hx]; rw [if_neg hend]
  have hcur : (stepSt P st h).cur = upd st.cur h (K.next (st.cur h) x) := by simp only [stepSt, hx]; rw [if_neg hend]
  have hgo : (stepSt P st h).going P = st.going P := by funext i; simp only [St.going, hdone]
  refine ⟨?_, ?_, G.most, ?_, ?_, ?_, ?_, ?_, ?_, ?_, ?_, G.jobs, G.hands, ?_, G.jwf, ?_⟩
  · rw [hc _ (by simp) (by simp) (by simp) (by simp), hb _ (by simp)]; exact G.mem
  · rw [eW]; simp only [stepSt, hf]
  · simp only [stepSt, hf]; exact hw
  · refine ⟨RF 3, RF, eR, by rw [hb _ (by simp)]; exact R0, by rw [hb _ (by simp)]; exact R1, R2, rfl, by rw [hb _ (by simp)]; exact R4, ?_⟩
    have : stepCells (stepSt P st h).s (stepSt P st h).k = stepCells st.s st.k ++ x.cells := by
      simp only [stepSt, hx, stepCells, upd_same]
      rw [stepCells_congr (b := st.s) (fun j hj => upd_other _ _ (by omega))]
    rw [this]; exact R3
  · obtain ⟨T, eT, hT⟩ := G.tasks
    refine ⟨T, by rw [hc _ (by simp) (by simp) (by simp) (by simp)]; exact eT, ?_⟩
    rw [hdone]
    intro i hi
    rw [hb _ (by simp)]
    exact hT i hi
  · obtain ⟨Gf, eG, hG⟩ := G.going
    exact ⟨Gf, by rw [hc _ (by simp) (by simp) (by simp) (by simp)]; exact eG, by rw [hgo]; exact hG⟩
  · obtain ⟨A, eA, hA⟩ := G.answers
    refine ⟨A, by rw [hc _ (by simp) (by simp) (by simp) (by simp)]; exact eA, ?_⟩
    rw [hdone, hans]
    exact fun i hi => (hA i hi).congr (hb _ (by simp)) (hc _ (by simp) (by simp) (by simp) (by simp))
  · intro i hi hj
    obtain ⟨cap, F, e1, e2, e3⟩ := G.trow i hi hj
    exact ⟨cap, F, by rw [hc _ (by simp) (by simp) (by simp) (by simp)]; exact e1, e2, fun j hj => by rw [hb _ (by simp)]; exact e3 j hj⟩
  · intro i hi j h1 h2
    rw [hdone] at h1 ⊢
    rw [hcur]
    by_cases hih : i = h
    · subst hih
      by_cases hj : j = st.done i
      · subst hj; rw [if_pos rfl, upd_same, hb _ (by simp)]; exact eK
      · rw [if_neg hj, hc _ (by simp) (by simp) (by simp) (by simp [hj]), hb _ (by simp)]
        have := G.task i hi j h1 h2
        rwa [if_neg hj] at this
    · rw [upd_other _ _ hih, hc _ (by simp) (by simp) (by simp) (by simp [hih]), hb _ (by simp)]
      exact G.task i hi j h1 h2
  · rw [hdone]; exact G.doneLe
  · rw [hdone, hcur]
    intro i hi hl
    by_cases hih : i = h
    · subst hih; rw [upd_same]; have hend' := hend; rw [← hx] at hend' ⊢; exact hK.next _ _ _ _ G.word (G.wf i hi hl) hend'
    · rw [upd_other _ _ hih]; exact G.wf i hi hl
  · simp only [stepSt]; omega

/-- A step behind which the task has ended. -/
theorem Good.ended (G : Good K P blk c st) (hK : K.Ok) (hh : h < P.nh) (hd : st.done h < P.jn h) (hx : stepOf P.n st.f (K.req (st.cur h)) = x) (hf : wordsOf P.n st.f (K.req (st.cur h)) = f')
    (hend : K.ends (st.cur h) x = true) (hw : ∀ i, i < P.n → 0 ≤ f' i ∧ f' i ≤ 18446744073709551615)
    (hb : ∀ r, r ≠ .steps → r ≠ .arow h → blk' r = blk r)
    (hc : ∀ r, r ≠ .steps → r ≠ .run → r ≠ .words → r ≠ .task h (st.done h) → r ≠ .arow h → r ≠ .answers → r ≠ .tasks → r ≠ .going → c' r = c r)
    (eW : c' .words = some ⟨131, P.n, fun i => .int .u64 (f' i)⟩)
    {RF : Nat → Value} (eR : c' .run = some ⟨119, 5, RF⟩) (R0 : RF 0 = .slice (some ⟨blk .tasks, 0, none⟩) P.nh P.nh) (R1 : RF 1 = .slice (some ⟨blk .going, 0, none⟩) P.nh P.nh) (R2 : RF 2 = .int .i64 h)
    (R4 : RF 4 = .slice (some ⟨blk .answers, 0, none⟩) P.nh P.nh) (R3 : Grows blk' c' .steps 57 6 (st.k + 1) (stepCells st.s st.k ++ x.cells) (RF 3))
    {T T' : Nat → Value} (eT : c .tasks = some ⟨135, P.nh, T⟩) (eT' : c' .tasks = some ⟨135, P.nh, T'⟩) (hT' : ∀ i, i ≠ h → T' i = T i) {ao : Option Addr} {tc : Nat} (hTh : T' h = .slice ao (P.jn h - (st.done h + 1)) tc)
    (hao : st.done h + 1 < P.jn h → ao = some ⟨blk (.trow h), st.done h + 1, none⟩ ∧ P.jn h - (st.done h + 1) ≤ tc)
    {Gf Gf' : Nat → Value} (eG : c .going = some ⟨4, P.nh, Gf⟩) (eG' : c' .going = some ⟨4, P.nh, Gf'⟩) (hG' : ∀ i, i ≠ h → Gf' i = Gf i) (hGh : Gf' h = .bool (decide (st.done h + 1 < P.jn h)))
    {A A' : Nat → Value} (eA : c .answers = some ⟨63, P.nh, A⟩) (eA' : c' .answers = some ⟨63, P.nh, A'⟩) (hA' : ∀ i, i ≠ h → A' i = A i)
    (hAh : Grows blk' c' (.arow h) 65 2 (st.done h + 1) (ansCells (st.ans h) (st.done h) ++ (K.tell (K.next (st.cur h) x)).cells) (A' h)) : Good K P blk' c' (stepSt P st h) := by
  have hdone : (stepSt P st h).done = upd st.done h (st.done h + 1) := by simp only [stepSt, hx]; rw [if_pos hend]
  have hans : (stepSt P st h).ans = upd st.ans h (upd (st.ans h) (st.done h) (K.tell (K.next (st.cur h) x))) := by simp only [stepSt, hx]; rw [if_pos hend]
  have hcur : (stepSt P st h).cur = upd st.cur h (K.init h (P.jb h (st.done h + 1))) := by simp only [stepSt, hx]; rw [if_pos hend]
  have d1 : ∀ i, i ≠ h → (stepSt P st h).done i = st.done i := fun i hi => by rw [hdone, upd_other _ _ hi]
  have d2 : (stepSt P st h).done h = st.done h + 1 := by rw [hdone, upd_same]
  refine ⟨?_, ?_, G.most, ?_, ?_, ?_, ?_, ?_, ?_, ?_, ?_, G.jobs, G.hands, ?_, G.jwf, ?_⟩
  · rw [hc _ (by simp) (by simp) (by simp) (by simp) (by simp) (by simp) (by simp) (by simp), hb _ (by simp) (by simp)]; exact G.mem
  · rw [eW]; simp only [stepSt, hf]
  · simp only [stepSt, hf]; exact hw
  · refine ⟨RF 3, RF, eR, by rw [hb _ (by simp) (by simp)]; exact R0, by rw [hb _ (by simp) (by simp)]; exact R1, R2, rfl, by rw [hb _ (by simp) (by simp)]; exact R4, ?_⟩
    have : stepCells (stepSt P st h).s (stepSt P st h).k = stepCells st.s st.k ++ x.cells := by
      simp only [stepSt, hx, stepCells, upd_same]
      rw [stepCells_congr (b := st.s) (fun j hj => upd_other _ _ (by omega))]
    rw [this]; exact R3
  · obtain ⟨T0, eT0, hT0⟩ := G.tasks
    obtain rfl : T = T0 := by rw [eT] at eT0; cases eT0; rfl
    refine ⟨T', eT', fun i hi => ?_⟩
    rw [hb _ (by simp) (by simp)]
    by_cases hih : i = h
    · subst hih
      rw [d2, hTh]
      refine ⟨fun hl => ?_, fun he => ⟨ao, tc, by rw [he, Nat.sub_self]⟩⟩
      obtain ⟨e, hle⟩ := hao hl
      exact ⟨tc, hle, by rw [e]⟩
    · rw [d1 i hih, hT' i hih]
      exact hT0 i hi
  · obtain ⟨G0, eG0, hG0⟩ := G.going
    obtain rfl : Gf = G0 := by rw [eG] at eG0; cases eG0; rfl
    refine ⟨Gf', eG', fun i hi => ?_⟩
    by_cases hih : i = h
    · subst hih
      rw [hGh]; simp only [St.going, d2]
    · rw [hG' i hih, hG0 i hi]; simp only [St.going, d1 i hih]
  · obtain ⟨A0, eA0, hA0⟩ := G.answers
    obtain rfl : A = A0 := by rw [eA] at eA0; cases eA0; rfl
    refine ⟨A', eA', fun i hi => ?_⟩
    by_cases hih : i = h
    · subst hih
      rw [d2]
      have : ansCells ((stepSt P st i).ans i) (st.done i + 1) = ansCells (st.ans i) (st.done i) ++ (K.tell (K.next (st.cur i) x)).cells := by
        rw [hans, upd_same]
        simp only [ansCells, upd_same]
        rw [ansCells_congr (b := st.ans i) (fun j hj => upd_other _ _ (by omega))]
      rw [this]; exact hAh
    · rw [d1 i hih, hA' i hih, hans, upd_other _ _ hih]
      exact (hA0 i hi).congr (hb _ (by simp) (by simp [hih])) (hc _ (by simp) (by simp) (by simp) (by simp) (by simp [hih]) (by simp) (by simp) (by simp))
  · intro i hi hj
    obtain ⟨cap, F, e1, e2, e3⟩ := G.trow i hi hj
    exact ⟨cap, F, by rw [hc _ (by simp) (by simp) (by simp) (by simp) (by simp) (by simp) (by simp) (by simp)]; exact e1, e2, fun j hj => by rw [hb _ (by simp) (by simp)]; exact e3 j hj⟩
  · intro i hi j h1 h2
    rw [hcur]
    by_cases hih : i = h
    · subst hih
      rw [d2] at h1 ⊢
      rw [upd_same, hc _ (by simp) (by simp) (by simp) (by simp; omega) (by simp) (by simp) (by simp) (by simp), hb _ (by simp) (by simp)]
      have := G.task i hi j (by omega) h2
      rw [if_neg (by omega)] at this
      rw [this]
      split
      · rename_i e; rw [e]
      · rfl
    · rw [d1 i hih] at h1 ⊢
      rw [upd_other _ _ hih, hc _ (by simp) (by simp) (by simp) (by simp [hih]) (by simp) (by simp) (by simp) (by simp), hb _ (by simp) (by simp)]
      exact G.task i hi j h1 h2
  · intro i hi
    by_cases hih : i = h
    · subst hih; rw [d2]; omega
    · rw [d1 i hih]; exact G.doneLe i hi
  · rw [hcur]
    intro i hi hl
    by_cases hih : i = h
    · subst hih; rw [d2] at hl ⊢; rw [upd_same]; exact hK.init _ _ (G.jwf i hi _ hl)
    · rw [upd_other _ _ hih]; rw [d1 i hih] at hl ⊢; exact G.wf i hi hl
  · simp only [stepSt]; omega
end Go.Proofs.Ytchhkoalibapiaa

/-
  What the step of a run needs: two blocks written at once, rows that grow, elements laid in blocks of their own.
-/
namespace Go.Proofs.Ytchhkoalibapiaa
open Go.RowKit
set_option linter.unusedVariables false
set_option linter.unusedSimpArgs false
set_option linter.unusedSectionVars false
set_option maxRecDepth 20000

theorem Has.write2 {ι : Type} [DecidableEq ι] {w w' : World} {base : Nat} {blk : ι → Nat} {c : ι → Option Row} (h : Has w base blk c) (r1 r2 : ι) (x1 x2 : Row) {y1 y2 : Row} (e1 : c r1 = some y1) (e2 : c r2 = some y2) (hne : r1 ≠ r2)
    (ht : Touch w w' (fun k => k = blk r1 ∨ k = blk r2)) (h1 : w'.rowIs (blk r1) x1.t x1.n x1.f) (h2 : w'.rowIs (blk r2) x2.t x2.n x2.f) : Has w' base blk (upd (upd c r1 (some x1)) r2 (some x2)) := by
  refine ⟨fun r r' x x' e e' hb => ?_, fun r x e => ?_, fun r x e => ?_⟩
  · have key : ∀ r x, upd (upd c r1 (some x1)) r2 (some x2) r = some x → ∃ y, c r = some y := by
      intro r x e
      by_cases hr2 : r = r2
      · subst hr2; exact ⟨_, e2⟩
      · rw [upd_other _ _ hr2] at e
        by_cases hr1 : r = r1
        · subst hr1; exact ⟨_, e1⟩
        · rw [upd_other _ _ hr1] at e; exact ⟨_, e⟩
    obtain ⟨y, hy⟩ := key r x e
    obtain ⟨y', hy'⟩ := key r' x' e'
    exact h.inj r r' y y' hy hy' hb
  · by_cases hr2 : r = r2
    · subst hr2; rw [upd_same] at e; cases e; exact h2
    · rw [upd_other _ _ hr2] at e
      by_cases hr1 : r = r1
      · subst hr1; rw [upd_same] at e; cases e; exact h1
      · rw [upd_other _ _ hr1] at e
        exact (h.row r x e).of_block (ht.block _ (h.lt e) (fun hk => by rcases hk with hk | hk; exact h.ne e e1 hr1 hk; exact h.ne e e2 hr2 hk))
  · by_cases hr2 : r = r2
    · subst hr2; exact h.new _ _ e2
    · rw [upd_other _ _ hr2] at e
      by_cases hr1 : r = r1
      · subst hr1; exact h.new _ _ e1
      · rw [upd_other _ _ hr1] at e; exact h.new _ _ e

theorem Good.isMem {K : Kd} {P : Par} {blk : Rl → Nat} {c : Rl → Option Row} {st : St K} {w : World} {base : Nat} (G : Good K P blk c st) (H : Has w base blk c) : IsMem w (blk .mem) (blk .words) P.n st.f :=
  ⟨H.row _ _ G.mem, H.row _ _ G.words, G.most, G.word⟩

theorem Grows.upd {blk : Rl → Nat} {c : Rl → Option Row} {r r' : Rl} {e : TypeId} {sz k : Nat} {xs : List Value} {v : Value} (h : Grows blk c r e sz k xs v) (hne : r ≠ r') (x : Option Row) (nb : Nat) : Grows (upd blk r' nb) (upd c r' x) r e sz k xs v := by
  unfold Grows at h ⊢
  rw [upd_other _ _ hne, upd_other _ _ hne]
  exact h
theorem Grows.upd' {blk : Rl → Nat} {c : Rl → Option Row} {r r' : Rl} {e : TypeId} {sz k : Nat} {xs : List Value} {v : Value} (h : Grows blk c r e sz k xs v) (hne : r ≠ r') (x : Option Row) : Grows blk (Ytchhkoalibapiaa.upd c r' x) r e sz k xs v := by
  unfold Grows at h ⊢
  rw [upd_other _ _ hne]
  exact h

theorem info48z : (Try.prog.info? 57).map (fun i => (i.zero, i.size, i.bytes)) = some (some (.agg #[.int .i64 0, .int .i64 0, .int .i64 0, .int .u64 0, .int .u64 0, .bool false]), 6, 48) := by kernel_rfl
theorem info54z : (Try.prog.info? 65).map (fun i => (i.zero, i.size, i.bytes)) = some (some (.agg #[.bool false, .int .u64 0]), 2, 16) := by kernel_rfl

/-- An element laid in a new block of its own. -/
theorem cells_new (w : World) (vs : Array Value) (t : TypeId) : ∀ j u, vs.toList[j]? = some u → (w.alloc (.cells vs t)).cell? (Addr.add ⟨w.heap.size, 0, none⟩ j) = some u := by
  intro j u hj
  have hj' : vs[j]? = some u := by simpa using hj
  simp only [Addr.add, Nat.zero_add]
  by_cases h0 : j = 0
  · subst h0; simp [hj']
  · simp [h0, hj']
theorem step_one (x : Stp) : ∀ u ∈ x.cells, u.oneCell' = true := by
  intro u hu
  simp [Stp.cells] at hu
  rcases hu with rfl | rfl | rfl | rfl | rfl | rfl <;> rfl
theorem ans_one (x : Ans) : ∀ u ∈ x.cells, u.oneCell' = true := by
  intro u hu
  simp [Ans.cells] at hu
  rcases hu with rfl | rfl <;> rfl

theorem below_of_grown_none {a b : World} (h : a.grownBy b none) (B : Nat) (hB : B ≤ a.heap.size) : Below B a b := ⟨h.os, h.tape, h.output, h.size, fun k hk => h.block k (by omega) (by simp)⟩
end Go.Proofs.Ytchhkoalibapiaa
