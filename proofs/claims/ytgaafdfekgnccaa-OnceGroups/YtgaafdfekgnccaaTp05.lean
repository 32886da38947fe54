/-
  Lemmas: Kd, Picks, Runs, CopyW, RBegin, Lift.
-/
import Derived.Test.YtgaafdfekgnccaaTp03
import Derived.Test.YtgaafdfekgnccaaTp04
import Derived.Test.YtgaafdfekgnccaaTp02
import Derived.Deep.RegionHeld
import Derived.Laws.AppendOwnNone
import Derived.Deep.MidRow
import Derived.Test.YtgaafdfekgnccaaRows
import Derived.WalkKit
import Derived.ProofKit
import Derived.OpenShut
import Derived.ChangeOld
import Derived.Below
import Derived.JoinedCond
import Derived.Leaving
import Derived.Conc.LeavingOf
/-
  Jobs, answers, kinds of tasks: what a kind is, and what its maker, its Step and its Answer do.
-/
namespace Go.Proofs.Ytgaafdfekgnccaa
open Go.RowKit
set_option linter.unusedVariables false
set_option linter.unusedSimpArgs false
set_option maxRecDepth 20000

structure Jb where
  kind : Int
  a : Int
  b : Int
  c : Int
  h : Int
def Jb.val (j : Jb) : Value := .agg #[.int .i64 j.kind, .int .i64 j.a, .int .i64 j.b, .int .i64 j.c, .int .u64 j.h]
def Jb.cell (j : Jb) (i : Nat) : Value := match i with | 0 => .int .i64 j.kind | 1 => .int .i64 j.a | 2 => .int .i64 j.b | 3 => .int .i64 j.c | _ => .int .u64 j.h
def Jb.wf (j : Jb) : Prop := 0 ≤ j.h ∧ j.h ≤ 18446744073709551615

structure Ans where
  ok : Bool
  val : Int
def Ans.value (x : Ans) : Value := .agg #[.bool x.ok, .int .u64 x.val]
def Ans.cells (x : Ans) : List Value := [.bool x.ok, .int .u64 x.val]

/-- A kind of tasks: what makes one, what act it does next, what comes of the step, when it ends, what it tells; and how the task of a job lies in memory. -/
structure Kd where
  σ : Type
  err : Int → Jb → Int
  init : Int → Jb → σ
  req : σ → Stp
  next : σ → Stp → σ
  ends : σ → Stp → Bool
  tell : σ → Ans
  tid : Jb → TypeId
  t : Jb → TypeId
  n : Jb → Nat
  fs : Jb → FuncId
  fa : Jb → FuncId
  cell : Nat → σ → Nat → Value
  wf : Jb → σ → Prop

/-- A job that the kind takes. -/
def Kd.fine (K : Kd) (j : Jb) : Prop := j.wf ∧ ∃ h, K.err h j = 0

structure Kd.Ok (K : Kd) : Prop where
  init : ∀ h j, K.fine j → K.wf j (K.init h j)
  next : ∀ j s n f, (∀ i, i < n → 0 ≤ f i ∧ f i ≤ 18446744073709551615) → K.wf j s → ¬ K.ends s (stepOf n f (K.req s)) = true → K.wf j (K.next s (stepOf n f (K.req s)))

/-- A task behind a step: one that may have ended. -/
def Kd.wfE (K : Kd) (j : Jb) (s : K.σ) : Prop := ∃ s0 n f, (∀ i, i < n → 0 ≤ f i ∧ f i ≤ 18446744073709551615) ∧ K.wf j s0 ∧ s = K.next s0 (stepOf n f (K.req s0))

theorem rowIs_cells {w : World} (vs : Array Value) (t : TypeId) (f : Nat → Value) (n : Nat) (hn : vs.size = n) (hc : ∀ i, i < n → vs[i]? = some (f i)) : (w.alloc (.cells vs t)).rowIs w.heap.size t n f := by
  subst hn
  exact World.rowIs_alloc w vs t f hc

theorem func_nil (f : FuncId) (w : World) : (binOp .eql 80 (.func (.func f) #[] #[]) .nilFunc).run Try.prog w = .ok (.bool false) w := by kernel_rfl
theorem iface_nil (t : TypeId) (v : Value) (w : World) : (binOp .eql 83 (.iface t v) .nilIface).run Try.prog w = .ok (.bool false) w := by kernel_rfl
theorem iface_none (w : World) : (binOp .eql 83 .nilIface .nilIface).run Try.prog w = .ok (.bool true) w := by kernel_rfl

def zcell : Nat → Value := fun i => match i with | 0 => .int .i64 0 | 1 => .int .i64 0 | 2 => .int .i64 0 | 3 => .int .u64 0 | 4 => .int .u64 0 | _ => .bool false
theorem row0 (w : World) : (w.alloc (.cells #[.int .i64 0, .int .i64 0, .int .i64 0, .int .u64 0, .int .u64 0, .bool false] 122)).rowIs w.heap.size 122 6 zcell :=
  rowIs_cells _ 122 zcell 6 rfl (fun i hi => by
    match i, hi with
    | 0, _ | 1, _ | 2, _ | 3, _ | 4, _ | 5, _ => rfl)
theorem row0n (w : World) (o : Obj) : ((w.alloc o).alloc (.cells #[.int .i64 0, .int .i64 0, .int .i64 0, .int .u64 0, .int .u64 0, .bool false] 122)).rowIs (w.heap.size + 1) 122 6 zcell := by
  have := row0 (w.alloc o)
  simpa using this


/-- What makeTask does in a world with this maker. -/
def MakesAt (K : Kd) (mk : Value) (w : World) : Prop :=
  ∀ (hand : Int) (j : Jb), 0 ≤ hand → hand < 8 → j.wf →
    (K.err hand j = 0 → Calls Try.prog 43 #[mk, .int .i64 hand, j.val] w fun e w' => ∃ b, e = .returned (.tuple #[.iface (K.tid j) (.pointer (some ⟨b, 0, none⟩)), .int .i64 0]) ∧
      w'.rowIs b (K.t j) (K.n j) (K.cell b (K.init hand j)) ∧ w.heap.size ≤ b ∧ w.grownBy w' none) ∧
    (¬ K.err hand j = 0 → Calls Try.prog 43 #[mk, .int .i64 hand, j.val] w fun e w' => e = .returned (.tuple #[.nilIface, .int .i64 (K.err hand j)]) ∧ w.grownBy w' none)

/-- What the methods of a kind's tasks do. -/
structure IsKind (K : Kd) : Prop where
  ok : K.Ok
  step : ∀ {w : World} {b bm bw n : Nat} {f : Nat → Int} {s : K.σ} {j : Jb}, K.fine j → K.wf j s → w.rowIs b (K.t j) (K.n j) (K.cell b s) → IsMem w bm bw n f → b ≠ bm → b ≠ bw →
    Calls Try.prog (K.fs j) #[.pointer (some ⟨b, 0, none⟩), .pointer (some ⟨bm, 0, none⟩)] w fun e w' => e = .returned (.tuple #[(stepOf n f (K.req s)).val, .int .i64 (if K.ends s (stepOf n f (K.req s)) = true then 1 else 0)]) ∧
      w'.rowIs b (K.t j) (K.n j) (K.cell b (K.next s (stepOf n f (K.req s)))) ∧ IsMem w' bm bw n (wordsOf n f (K.req s)) ∧ Touch w w' (fun k => k = b ∨ k = bw)
  ans : ∀ {w : World} {b : Nat} {s : K.σ} {j : Jb}, K.fine j → K.wfE j s → w.rowIs b (K.t j) (K.n j) (K.cell b s) →
    Calls Try.prog (K.fa j) #[.pointer (some ⟨b, 0, none⟩)] w fun e w' => e = .returned (K.tell s).value ∧ w.grownBy w' none
  mstep : ∀ j, K.fine j → ∀ (b : Nat) (w : World), (method 266 (K.tid j) (.pointer (some ⟨b, 0, none⟩)) "Step").run Try.prog w = .ok (K.fs j, .pointer (some ⟨b, 0, none⟩)) w
  mans : ∀ j, K.fine j → ∀ (b : Nat) (w : World), (method 266 (K.tid j) (.pointer (some ⟨b, 0, none⟩)) "Answer").run Try.prog w = .ok (K.fa j, .pointer (some ⟨b, 0, none⟩)) w
  cstep : ∀ j, K.fine j → ∀ (args : Array Value) (w : World), (callFunc (K.fs j) args).run Try.prog w = .ok (.enter (K.fs j) args) w
  cans : ∀ j, K.fine j → ∀ (args : Array Value) (w : World), (callFunc (K.fa j) args).run Try.prog w = .ok (.enter (K.fa j) args) w
/-- The same, where a task that has ended is one as before it. -/
structure IsKindO (K : Kd) : Prop where
  ok : (∀ h j, K.fine j → K.wf j (K.init h j)) ∧ ∀ j s n f, (∀ i, i < n → 0 ≤ f i ∧ f i ≤ 18446744073709551615) → K.wf j s → K.wf j (K.next s (stepOf n f (K.req s)))
  step : ∀ {w : World} {b bm bw n : Nat} {f : Nat → Int} {s : K.σ} {j : Jb}, K.fine j → K.wf j s → w.rowIs b (K.t j) (K.n j) (K.cell b s) → IsMem w bm bw n f → b ≠ bm → b ≠ bw →
    Calls Try.prog (K.fs j) #[.pointer (some ⟨b, 0, none⟩), .pointer (some ⟨bm, 0, none⟩)] w fun e w' => e = .returned (.tuple #[(stepOf n f (K.req s)).val, .int .i64 (if K.ends s (stepOf n f (K.req s)) = true then 1 else 0)]) ∧
      w'.rowIs b (K.t j) (K.n j) (K.cell b (K.next s (stepOf n f (K.req s)))) ∧ IsMem w' bm bw n (wordsOf n f (K.req s)) ∧ Touch w w' (fun k => k = b ∨ k = bw)
  ans : ∀ {w : World} {b : Nat} {s : K.σ} {j : Jb}, K.fine j → K.wf j s → w.rowIs b (K.t j) (K.n j) (K.cell b s) →
    Calls Try.prog (K.fa j) #[.pointer (some ⟨b, 0, none⟩)] w fun e w' => e = .returned (K.tell s).value ∧ w.grownBy w' none
  mstep : ∀ j, K.fine j → ∀ (b : Nat) (w : World), (method 266 (K.tid j) (.pointer (some ⟨b, 0, none⟩)) "Step").run Try.prog w = .ok (K.fs j, .pointer (some ⟨b, 0, none⟩)) w
  mans : ∀ j, K.fine j → ∀ (b : Nat) (w : World), (method 266 (K.tid j) (.pointer (some ⟨b, 0, none⟩)) "Answer").run Try.prog w = .ok (K.fa j, .pointer (some ⟨b, 0, none⟩)) w
  cstep : ∀ j, K.fine j → ∀ (args : Array Value) (w : World), (callFunc (K.fs j) args).run Try.prog w = .ok (.enter (K.fs j) args) w
  cans : ∀ j, K.fine j → ∀ (args : Array Value) (w : World), (callFunc (K.fa j) args).run Try.prog w = .ok (.enter (K.fa j) args) w
theorem IsKindO.to {K : Kd} (H : IsKindO K) : IsKind K :=
  ⟨⟨H.ok.1, fun j s n f hf hw _ => H.ok.2 j s n f hf hw⟩, H.step, fun hf hw h => H.ans hf (by obtain ⟨s0, n, f, h1, h2, rfl⟩ := hw; exact H.ok.2 _ _ _ _ h1 h2) h, H.mstep, H.mans, H.cstep, H.cans⟩
end Go.Proofs.Ytgaafdfekgnccaa

/-
  Who is picked: the program's count, behind and Next, the document's Pick and After, each by its contract.
-/
namespace Go.Proofs.Ytgaafdfekgnccaa
open Go.RowKit
set_option linter.unusedVariables false
set_option linter.unusedSimpArgs false
set_option maxRecDepth 20000

/-- A slice at ao of n bools, readable below block B: place j is 'g j'. -/
def SeesB (w : World) (B : Nat) (ao : Option Addr) (n : Nat) (g : Nat → Bool) : Prop :=
  ∀ j, j < n → ∃ b off, ao = some ⟨b, off, none⟩ ∧ b < B ∧ w.cell? ⟨b, off + j, none⟩ = some (.bool (g j))
theorem SeesB.below {w w' : World} {B C : Nat} {ao : Option Addr} {n : Nat} {g : Nat → Bool} (h : SeesB w B ao n g) (hb : Below C w w') (hBC : B ≤ C) : SeesB w' B ao n g :=
  fun j hj => by obtain ⟨b, off, e, hl, hc⟩ := h j hj; exact ⟨b, off, e, hl, (hb.cell (p := ⟨b, off + j, none⟩) (by show b < C; omega)).trans hc⟩

theorem count_any {w : World} {B : Nat} {ao : Option Addr} {n cap : Nat} {g : Nat → Bool} (h : SeesB w B ao n g) (hn : n ≤ 9223372036854775807) :
    Calls Try.prog 48 #[.slice ao n cap] w fun e w' => e = .returned (.int .i64 (cnt g n)) ∧ w' = w := by
  have H := hide h
  clear h
  go_enter Try.func48, Try.ntmps48
  go_wp2_with fail
  go_loopw [3, 8] (fun c i wr => ∃ k : Nat, k ≤ n ∧ i = .int .i64 k ∧ c = .int .i64 (cnt g k) ∧ wr = w) (fun _ i _ => n - (intOf i).toNat)
  case atStart => exact ⟨0, Nat.zero_le _, rfl, rfl, rfl⟩
  case round =>
    obtain ⟨k, hk, rfl, rfl, rfl⟩ := hrel
    by_cases hlt : k < n
    · obtain ⟨b, off, rfl, hbl, hcc⟩ := H.out k hlt
      have hkn : (k : Int) < (n : Int) := by omega
      have hcl := cnt_le g k
      cases hg : g k with
      | true =>
        rw [hg] at hcc
        have hct := cnt_true hg
        go_wp2
        go_roundw
        case rel => exact ⟨k + 1, by omega, by go_num, by rw [hct]; go_num, by first | rfl | trivial⟩
        case measure => simp [intOf]; omega
      | false =>
        rw [hg] at hcc
        have hct := cnt_false hg
        go_wp2
        go_roundw
        case rel => exact ⟨k + 1, by omega, by go_num, by rw [hct], by first | rfl | trivial⟩
        case measure => simp [intOf]; omega
    · obtain rfl : k = n := by omega
      go_wp2
      go_ret
      exact ⟨rfl, rfl⟩

theorem tmod_nat (a n : Nat) : Int.tmod (a : Int) (n : Int) = ((a % n : Nat) : Int) := by
  rw [Int.tmod_eq_emod_of_nonneg (by omega)]; omega

theorem behind_any {w : World} {B : Nat} {ao : Option Addr} {n cap : Nat} {g : Nat → Bool} (h : SeesB w B ao n g) (hn : n ≤ 4611686018427387903) (hand : Int) (h1 : -1 ≤ hand) (h2 : hand < n) :
    Calls Try.prog 45 #[.slice ao n cap, .int .i64 hand] w fun e w' => e = .returned (.int .i64 (behindOf n g hand)) ∧ w' = w := by
  have H := hide h
  clear h
  obtain ⟨s, hs⟩ : ∃ s : Nat, hand + 1 = s := ⟨(hand + 1).toNat, by omega⟩
  have hst : (hand + 1).toNat = s := by omega
  go_enter Try.func45, Try.ntmps45
  go_wp2_with fail
  go_loopw [9] (fun i wr => ∃ k : Nat, k ≤ n ∧ i = .int .i64 k ∧ (∀ j, j < k → g ((s + j) % n) = false) ∧ wr = w) (fun i _ => n - (intOf i).toNat)
  case atStart => exact ⟨0, Nat.zero_le _, rfl, fun j hj => by omega, rfl⟩
  case round =>
    obtain ⟨k, hk, rfl, hno, rfl⟩ := hrel
    by_cases hlt : k < n
    · obtain ⟨r, hr⟩ : ∃ r, r = (s + k) % n := ⟨_, rfl⟩
      have hm : r < n := by rw [hr]; exact Nat.mod_lt _ (by omega)
      obtain ⟨b, off, rfl, hbl, hcc⟩ := H.out _ hm
      have hkn : (k : Int) < (n : Int) := by omega
      have hn0 : ¬ (n : Int) = 0 := by omega
      have ha1 : hand + 1 = (s : Int) := hs
      have hmod : ((s : Int) + k) % (n : Int) = (r : Int) := by rw [hr]; simp
      have hrn : (r : Int) < (n : Int) := by omega
      have HR := hide hr
      have HN := hide hno
      clear hr hno
      cases hg : g r with
      | true =>
        rw [hg] at hcc
        go_wp2_with fail
        go_ret
        exact ⟨by rw [behindOf_some hlt (by rw [hst, ← HR.out]; exact hg) (by rw [hst]; exact HN.out), hst, ← HR.out, ← hmod]; rfl, rfl⟩
      | false =>
        rw [hg] at hcc
        go_wp2_with fail
        go_roundw
        case rel => exact ⟨k + 1, by omega, by go_num, fun j hj => by rcases Nat.lt_succ_iff_lt_or_eq.1 hj with h | rfl; exact HN.out j h; rw [← HR.out]; exact hg, by first | rfl | trivial⟩
        case measure => simp [intOf]; omega
    · obtain rfl : k = n := by omega
      go_wp2
      go_ret
      exact ⟨by rw [behindOf_none (by rw [hst]; exact hno)]; rfl, rfl⟩

theorem tmod_emod (p : Int) (c : Nat) (hc : 0 < c) : (Int.tmod p c < 0 ∧ p % (c : Int) = Int.tmod p c + c) ∨ (¬ Int.tmod p c < 0 ∧ p % (c : Int) = Int.tmod p c) := by
  have h := Int.tmod_eq_emod (a := p) (b := c)
  have h1 := Int.emod_nonneg p (show (c : Int) ≠ 0 by omega)
  have h2 := Int.emod_lt_of_pos p (show 0 < (c : Int) by omega)
  have h3 : ((c : Int).natAbs : Int) = c := by omega
  by_cases hp : 0 ≤ p ∨ (c : Int) ∣ p
  · rw [if_pos hp] at h; right; omega
  · rw [if_neg hp] at h
    have : p % (c : Int) ≠ 0 := fun h0 => hp (.inr (Int.dvd_of_emod_eq_zero h0))
    omega

/-- Next. -/
theorem next_any {w : World} {B : Nat} {ao : Option Addr} {n cap : Nat} {g : Nat → Bool} (h : SeesB w B ao n g) (hn : n ≤ 4611686018427387903) (place : Int) :
    Calls Try.prog 44 #[.slice ao n cap, .int .i64 place] w fun e w' => e = .returned (.int .i64 (pickOf n g place)) ∧ w' = w := by
  have hcl := cnt_le g n
  by_cases h0 : cnt g n = 0
  · go_enter Try.func44, Try.ntmps44
    go_wp2_with (go_at_call 48; refine (count_any h (by omega)).mono ?_; rintro e w' ⟨rfl, hw⟩; obtain rfl := hw.symm; rw [h0])
    go_ret
    exact ⟨by rw [pickOf_none h0]; rfl, rfl⟩
  · obtain ⟨k, hk, hkl⟩ := emod_cnt place h0
    obtain ⟨i, hi⟩ := exists_pick g k n hkl
    rw [pickOf_some h0 hk hi]
    obtain ⟨p0, hp0⟩ := exists_pick g 0 n (by omega)
    have e0 := behindOf_first hp0
    have hp0l := hp0.lt
    obtain ⟨c, hc⟩ : ∃ c, c = cnt g n := ⟨_, rfl⟩
    have hc0 : ¬ (c : Int) = 0 := by omega
    have hkc : k < c := by omega
    have ht := tmod_emod place c (by omega)
    rw [hc, hk, ← hc] at ht
    have H := hide h
    have HI := hide hi
    have HP := hide hp0
    have HC := hide hc
    have hcn : c ≤ n := by omega
    clear h hi hp0 hk h0 hkl hcl hc
    obtain ⟨t, htt⟩ : ∃ t, t = Int.tmod place c := ⟨_, rfl⟩
    have key : Calls Try.prog 44 #[.slice ao n cap, .int .i64 place] w fun e w' => e = .returned (.int .i64 i) ∧ w' = w := by
      go_enter Try.func44, Try.ntmps44
      go_wp2_with (first
        | (go_at_call 48; refine (count_any H.out (by omega)).mono ?_; rintro e w' ⟨rfl, hw⟩; obtain rfl := hw.symm; rw [← HC.out])
        | (go_at_call 45; refine (behind_any H.out (by omega) (-1) (by omega) (by omega)).mono ?_; rintro e w' ⟨rfl, hw⟩; obtain rfl := hw.symm; rw [e0]))
      all_goals (first | rw [show place.tmod c + c = (k : Int) by omega] | rw [show place.tmod c = (k : Int) by omega])
      all_goals clear ht htt e0
      all_goals
        go_loopw [7, 23] (fun hd i wr => ∃ j q : Nat, j ≤ k ∧ i = .int .i64 j ∧ hd = .int .i64 q ∧ Hid (IsPick n g j q) ∧ wr = w) (fun _ i _ => k - (intOf i).toNat)
        case atStart => exact ⟨0, p0, Nat.zero_le _, rfl, rfl, HP, rfl⟩
        case round =>
          obtain ⟨j, q, hj, rfl, rfl, HQ, rfl⟩ := hrel
          by_cases hlt : j < k
          · obtain ⟨q', hq'⟩ := exists_pick g (j + 1) n (by have := HC.out; omega)
            have e1 := behindOf_next HQ.out hq'
            have hql := HQ.out.lt
            have hjk : (j : Int) < (k : Int) := by omega
            have HQ' := hide hq'
            clear hq'
            go_wp2_with (go_at_call 45; refine (behind_any H.out (by omega) q (by omega) (by omega)).mono ?_; rintro e w' ⟨rfl, hw⟩; obtain rfl := hw.symm; rw [e1])
            go_roundw
            case rel => exact ⟨j + 1, q', by omega, by go_num, rfl, HQ', by first | rfl | trivial⟩
            case measure => simp [intOf]; omega
          · obtain rfl : j = k := by omega
            have eq := HQ.out.one HI.out
            go_wp2
            go_ret
            exact ⟨by rw [← eq]; rfl, rfl⟩
    exact key

end Go.Proofs.Ytgaafdfekgnccaa

/-
  A run by a schedule, told without a program: its state, its step, the hand that is picked; and how the program's run lies in memory.
-/
namespace Go.Proofs.Ytgaafdfekgnccaa
open Go.RowKit
set_option linter.unusedVariables false
set_option linter.unusedSimpArgs false
set_option linter.unusedSectionVars false

/-- What a run is of: n words, nh hands, hand h has jn h jobs; ns numbers of a schedule. -/
structure Par where
  n : Nat
  nh : Nat
  jn : Nat → Nat
  jb : Nat → Nat → Jb
  ns : Nat
  sched : Nat → Int

structure St (K : Kd) where
  f : Nat → Int
  done : Nat → Nat
  cur : Nat → K.σ
  k : Nat
  s : Nat → Stp
  ans : Nat → Nat → Ans
  last : Int

def St.going {K : Kd} (P : Par) (st : St K) (h : Nat) : Bool := decide (st.done h < P.jn h)

def st0 (K : Kd) (P : Par) (f : Nat → Int) : St K :=
  { f := f, done := fun _ => 0, cur := fun h => K.init h (P.jb h 0), k := 0, s := fun _ => ⟨0, 0, 0, 0, 0, false⟩, ans := fun _ _ => ⟨false, 0⟩, last := -1 }

def stepSt {K : Kd} (P : Par) (st : St K) (h : Nat) : St K :=
  { f := wordsOf P.n st.f (K.req (st.cur h))
    done := if K.ends (st.cur h) (stepOf P.n st.f (K.req (st.cur h))) = true then upd st.done h (st.done h + 1) else st.done
    cur := upd st.cur h (if K.ends (st.cur h) (stepOf P.n st.f (K.req (st.cur h))) = true then K.init h (P.jb h (st.done h + 1)) else K.next (st.cur h) (stepOf P.n st.f (K.req (st.cur h))))
    k := st.k + 1
    s := upd st.s st.k (stepOf P.n st.f (K.req (st.cur h)))
    ans := if K.ends (st.cur h) (stepOf P.n st.f (K.req (st.cur h))) = true then upd st.ans h (upd (st.ans h) (st.done h) (K.tell (K.next (st.cur h) (stepOf P.n st.f (K.req (st.cur h)))))) else st.ans
    last := h }

/-- The hand whose turn it is; -1: none goes on. -/
def St.turn {K : Kd} (P : Par) (st : St K) : Int := if st.k < P.ns then pickOf P.nh (st.going P) (P.sched st.k) else behindOf P.nh (st.going P) st.last

/-- Behind m steps, or fewer, where none goes on. -/
def runSt {K : Kd} (P : Par) (st : St K) : Nat → St K
  | 0 => st
  | m + 1 => if (runSt P st m).turn P < 0 then runSt P st m else stepSt P (runSt P st m) ((runSt P st m).turn P).toNat

theorem turn_ok {K : Kd} (P : Par) (st : St K) : (st.turn P = -1 ∧ cnt (st.going P) P.nh = 0) ∨ ∃ h : Nat, st.turn P = h ∧ h < P.nh ∧ st.done h < P.jn h := by
  unfold St.turn
  split
  · rcases pickOf_ok (n := P.nh) (g := st.going P) (P.sched st.k) with h | ⟨i, h1, h2, h3⟩
    · exact .inl h
    · exact .inr ⟨i, h1, h2, by simpa [St.going] using h3⟩
  · rcases behindOf_ok (n := P.nh) (g := st.going P) st.last with h | ⟨i, h1, h2, h3⟩
    · exact .inl h
    · exact .inr ⟨i, h1, h2, by simpa [St.going] using h3⟩

/-- Once none goes on, nothing more is done. -/
theorem runSt_stuck {K : Kd} {P : Par} {st : St K} {m : Nat} (h : (runSt P st m).turn P < 0) : ∀ j, runSt P st (m + j) = runSt P st m
  | 0 => rfl
  | j + 1 => by
    have ih := runSt_stuck h j
    show (if (runSt P st (m + j)).turn P < 0 then runSt P st (m + j) else _) = _
    rw [ih, if_pos h]

/-! How the program's run lies in memory. -/
inductive Rl where
  | mem | words | run | tasks | going | answers | steps
  | trow (h : Nat) | task (h j : Nat) | arow (h : Nat)
  deriving DecidableEq

def ansCells (a : Nat → Ans) : Nat → List Value
  | 0 => []
  | k + 1 => ansCells a k ++ (a k).cells
theorem ansCells_length (a : Nat → Ans) (k : Nat) : (ansCells a k).length = k * 2 := by
  induction k with
  | zero => rfl
  | succ k ih => simp [ansCells, ih, Ans.cells]; omega
theorem ansCells_congr {a b : Nat → Ans} {k : Nat} (h : ∀ j, j < k → a j = b j) : ansCells a k = ansCells b k := by
  induction k with
  | zero => rfl
  | succ k ih => simp only [ansCells]; rw [ih (fun j hj => h j (by omega)), h k (by omega)]

def Stp.cells (s : Stp) : List Value := [.int .i64 s.hand, .int .i64 s.act, .int .i64 s.at_, .int .u64 s.had, .int .u64 s.put, .bool s.ok]
def stepCells (s : Nat → Stp) : Nat → List Value
  | 0 => []
  | k + 1 => stepCells s k ++ (s k).cells
theorem stepCells_length (s : Nat → Stp) (k : Nat) : (stepCells s k).length = k * 6 := by
  induction k with
  | zero => rfl
  | succ k ih => simp [stepCells, ih, Stp.cells]; omega
theorem stepCells_congr {a b : Nat → Stp} {k : Nat} (h : ∀ j, j < k → a j = b j) : stepCells a k = stepCells b k := by
  induction k with
  | zero => rfl
  | succ k ih => simp only [stepCells]; rw [ih (fun j hj => h j (by omega)), h k (by omega)]

/-- A slice of the run's own that grows by append: k elements of sz cells, the cells xs, in role r's block. -/
def Grows (blk : Rl → Nat) (c : Rl → Option Row) (r : Rl) (e : TypeId) (sz k : Nat) (xs : List Value) (v : Value) : Prop :=
  (k = 0 ∧ v = .slice none 0 0 ∧ c r = none) ∨
  ∃ cap F, v = .slice (some ⟨blk r, 0, none⟩) k cap ∧ c r = some ⟨e, cap * sz, F⟩ ∧ k ≤ cap ∧ cap ≤ maxLen ∧ Pre F xs

theorem Grows.owns {blk : Rl → Nat} {c : Rl → Option Row} {r : Rl} {e : TypeId} {sz k : Nat} {xs : List Value} {v : Value} {w : World} {base : Nat} (h : Grows blk c r e sz k xs v) (hh : Has w base blk c) (hl : xs.length = k * sz) :
    w.ownsRow base e sz v k xs := by
  rcases h with ⟨rfl, rfl, _⟩ | ⟨cap, F, rfl, hc, hk, hm, hp⟩
  · have : xs = [] := List.eq_nil_of_length_eq_zero (by simpa using hl)
    subst this
    exact World.ownsRow_nil w base e sz
  · exact owns_of_row (hh.row r _ hc) hp hl hk hm (hh.new r _ hc)

/-- What 'append' to such a slice leaves. -/
theorem Grows.appended {blk : Rl → Nat} {c : Rl → Option Row} {r : Rl} {e : TypeId} {sz k : Nat} {xs news : List Value} {v v' : Value} {w w0 w' : World} {base : Nat} (h : Grows blk c r e sz k xs v) (hh : Has w0 base blk c)
    (hb : base ≤ w0.heap.size) (h0 : Touch w0 w (fun _ => False)) (hown : w'.ownsRow base e sz v' (k + 1) (xs ++ news)) (hg : w.grownBy w' v.ownBlock) (hat : v'.ownBlock = v.ownBlock ∨ v'.ownBlock = some w.heap.size) :
    ∃ nb F cap, v' = .slice (some ⟨nb, 0, none⟩) (k + 1) cap ∧ Has w' base (upd blk r nb) (upd c r (some ⟨e, cap * sz, F⟩)) ∧ Grows (upd blk r nb) (upd c r (some ⟨e, cap * sz, F⟩)) r e sz (k + 1) (xs ++ news) v' ∧ base ≤ nb ∧ (nb = blk r ∧ (∃ x, c r = some x) ∨ w0.heap.size ≤ nb) := by
  obtain ⟨nb, cap, F, rfl, hbn, hrow, hpre, hkc, hcm⟩ := row_of_owns hown (by omega)
  have hh' := hh.touch h0 (fun _ _ _ => id)
  have hsz := h0.size
  have key : ∀ r' x', r' ≠ r → c r' = some x' → ¬ (some (blk r') = v.ownBlock) := by
    intro r' x' hne e' he
    rcases h with ⟨_, rfl, _⟩ | ⟨cap', F', rfl, hc, _⟩
    · simp [Value.ownBlock] at he
    · simp only [Value.ownBlock, Option.some.injEq] at he
      exact hh.ne e' hc hne he
  refine ⟨nb, F, cap, rfl, hh'.move r nb _ (Touch.of_grown hg) key ?_ hrow hbn, .inr ⟨cap, F, by simp, by simp, hkc, hcm, hpre⟩, hbn, ?_⟩
  · intro r' x' hne e' he
    rcases hat with hat | hat
    · simp only [Value.ownBlock] at hat
      exact key r' x' hne e' (by rw [he]; exact hat)
    · simp only [Value.ownBlock, Option.some.injEq] at hat
      have := hh'.lt e'
      omega
  · rcases hat with hat | hat
    · left
      rcases h with ⟨_, rfl, _⟩ | ⟨cap', F', rfl, hc, _⟩
      · simp [Value.ownBlock] at hat
      · simp only [Value.ownBlock, Option.some.injEq] at hat
        exact ⟨hat, _, hc⟩
    · right
      simp only [Value.ownBlock, Option.some.injEq] at hat
      omega

/-- The run under way in memory, as the state st tells it. -/
structure Good (K : Kd) (P : Par) (blk : Rl → Nat) (c : Rl → Option Row) (st : St K) : Prop where
  mem : c .mem = some ⟨112, 1, fun _ => .slice (some ⟨blk .words, 0, none⟩) P.n P.n⟩
  words : c .words = some ⟨115, P.n, fun i => .int .u64 (st.f i)⟩
  most : P.n ≤ 4096
  word : ∀ i, i < P.n → 0 ≤ st.f i ∧ st.f i ≤ 18446744073709551615
  run : ∃ sv RF, c .run = some ⟨100, 5, RF⟩ ∧ RF 0 = .slice (some ⟨blk .tasks, 0, none⟩) P.nh P.nh ∧ RF 1 = .slice (some ⟨blk .going, 0, none⟩) P.nh P.nh ∧ RF 2 = .int .i64 st.last ∧ RF 3 = sv ∧
    RF 4 = .slice (some ⟨blk .answers, 0, none⟩) P.nh P.nh ∧ Grows blk c .steps 122 6 st.k (stepCells st.s st.k) sv
  tasks : ∃ T, c .tasks = some ⟨119, P.nh, T⟩ ∧ ∀ h, h < P.nh → (st.done h < P.jn h → ∃ cap, P.jn h - st.done h ≤ cap ∧ T h = .slice (some ⟨blk (.trow h), st.done h, none⟩) (P.jn h - st.done h) cap) ∧ (st.done h = P.jn h → ∃ ao cap, T h = .slice ao 0 cap)
  going : ∃ G, c .going = some ⟨4, P.nh, G⟩ ∧ ∀ h, h < P.nh → G h = .bool (st.going P h)
  answers : ∃ A, c .answers = some ⟨51, P.nh, A⟩ ∧ ∀ h, h < P.nh → Grows blk c (.arow h) 53 2 (st.done h) (ansCells (st.ans h) (st.done h)) (A h)
  trow : ∀ h, h < P.nh → 0 < P.jn h → ∃ cap F, c (.trow h) = some ⟨83, cap, F⟩ ∧ P.jn h ≤ cap ∧ ∀ j, j < P.jn h → F j = .iface (K.tid (P.jb h j)) (.pointer (some ⟨blk (.task h j), 0, none⟩))
  task : ∀ h, h < P.nh → ∀ j, st.done h ≤ j → j < P.jn h → c (.task h j) = some ⟨K.t (P.jb h j), K.n (P.jb h j), K.cell (blk (.task h j)) (if j = st.done h then st.cur h else K.init h (P.jb h j))⟩
  doneLe : ∀ h, h < P.nh → st.done h ≤ P.jn h
  jobs : ∀ h, h < P.nh → P.jn h ≤ 256
  hands : P.nh ≤ 8
  wf : ∀ h, h < P.nh → st.done h < P.jn h → K.wf (P.jb h (st.done h)) (st.cur h)
  jwf : ∀ h, h < P.nh → ∀ j, j < P.jn h → K.fine (P.jb h j)
  lastOk : -1 ≤ st.last ∧ st.last < P.nh
end Go.Proofs.Ytgaafdfekgnccaa

/-
  Words copied by append into a row of the call's own.
-/
namespace Go.Proofs.Ytgaafdfekgnccaa
open Go.RowKit
set_option linter.unusedVariables false
set_option linter.unusedSimpArgs false

/-- 'append(v, xs...)', v the call's own, xs whatever slice: nil, empty or not. -/
theorem wpList_append_opt {P : Program} {w : World} {ops : Array Oper} {rest : List Oper} {o : Oper} {a : Act} {Q : Exit → Act → World → Prop} (hgd : o.guard = none) (s x : Operand) (t : TypeId)
    (ho : o.op = .call { callee := .builtin .append, args := #[s, x], argTypes := #[t, t] })
    (base : Nat) (e : TypeId) (i : TypeInfo) (z : Value) (size bytes : Nat) (ht : P.underlying t = some (.slice e)) (hi : P.info? e = some i) (hz : i.zero = some z)
    (hsize : i.size = size) (hby : i.bytes = bytes) (hzs : z.cells.size = size) (hsz : 0 < size)
    (v : Value) (n : Nat) (xs : List Value) (hs : a.eval s = v) (hown : w.ownsRow base e size v n xs)
    (ao : Option Addr) (m c : Nat) (news : List Value) (hx : a.eval x = .slice ao m c) (hnil : ao = none → m = 0 ∧ c = 0) (hl : news.length = m * size) (hnews : ∀ ad, ao = some ad → ∀ j u, news[j]? = some u → w.cell? (ad.add j) = some u) (h1 : ∀ u ∈ news, u.oneCell' = true)
    (h63 : n + m ≤ maxLen) (hbytes : (n + m) * bytes ≤ 140737488355328) (hbase : base ≤ w.heap.size)
    (h : ∀ v' w', w'.ownsRow base e size v' (n + m) (xs ++ news) → w.grownBy w' v.ownBlock → ((v' = .slice none 0 0) → v = .slice none 0 0) → wpList P ops Q rest (a.put o.dst v') w') : wpList P ops Q (o :: rest) a w := by
  cases ao with
  | none =>
    obtain ⟨rfl, rfl⟩ := hnil rfl
    have hn : news = [] := by simpa using hl
    subst hn
    refine wpList_append_own_none hgd s x t ho base e i size ht hi v n xs hs hown hx (h v w (by simpa using hown) ⟨rfl, rfl, rfl, Nat.le_refl _, fun _ _ _ => rfl⟩ (fun e => e))
  | some ad =>
    exact wpList_append_own w hgd s x t ho base e i z size bytes ht hi hz hsize hby hzs hsz v n xs hs hown ad m c news hx hl (hnews ad rfl) h1 h63 hbytes hbase fun v' w' h2 h3 h4 => h v' w' h2 h3 (fun e => (h4.1 e).1)

theorem info46e : ∃ i, Try.prog.info? 46 = some i ∧ i.zero = some (.int .u64 0) ∧ i.size = 1 ∧ i.bytes = 8 := by
  have h : (Try.prog.info? 46).map (fun i => (i.zero, i.size, i.bytes)) = some (some (.int .u64 0), 1, 8) := by kernel_rfl
  cases hp : Try.prog.info? 46 with
  | none => rw [hp] at h; cases h
  | some i => rw [hp] at h; simp at h; exact ⟨i, rfl, h.1, h.2.1, h.2.2⟩

/-- A row of words as cells. -/
def wordCells (n : Nat) (f : Nat → Int) : List Value := (List.range n).map fun i => Value.int .u64 (f i)
theorem wordCells_length (n : Nat) (f : Nat → Int) : (wordCells n f).length = n := by simp [wordCells]
theorem wordCells_one (n : Nat) (f : Nat → Int) : ∀ u ∈ wordCells n f, u.oneCell' = true := by intro u hu; obtain ⟨i, _, rfl⟩ := List.mem_map.1 hu; rfl

theorem Sees.news {w : World} {B : Nat} {ao : Option Addr} {n : Nat} {f : Nat → Int} (h : Sees w B ao n f) : ∀ ad, ao = some ad → ∀ j u, (wordCells n f)[j]? = some u → w.cell? (ad.add j) = some u := by
  intro ad hao j u hu
  have hj : j < n := by have := (List.getElem?_eq_some_iff.1 hu).1; simpa [wordCells] using this
  obtain ⟨b, off, he, hbl, hcc⟩ := h j hj
  rw [hao] at he
  cases he
  have : u = .int .u64 (f j) := by simp [wordCells, hj] at hu; exact hu.symm
  subst this
  rw [Go.WideShapes.add_plain]
  exact hcc
theorem Sees.alloc {w : World} {ao : Option Addr} {n : Nat} {f : Nat → Int} (h : Sees w w.heap.size ao n f) (o : Obj) : Sees (w.alloc o) w.heap.size ao n f := h.below ((Below.refl _ w).alloc (Nat.le_refl _) o) (Nat.le_refl _)

/-- What 'append' leaves, where it is not nil. -/
theorem owned_row {w : World} {base n : Nat} {v : Value} {f : Nat → Int} (h : w.ownsRow base 46 1 v n (wordCells n f)) (hv : ¬ v = .slice none 0 0) (hf : ∀ i, i < n → 0 ≤ f i ∧ f i ≤ 18446744073709551615) :
    ∃ g cap, v = .slice (some ⟨g, 0, none⟩) n cap ∧ IsRow w g n cap f ∧ base ≤ g := by
  obtain ⟨hl, ⟨rfl, _⟩ | ⟨g, cap, cur, rfl, hb, hg, hc, hm, hsz, ht⟩⟩ := h
  · exact absurd rfl hv
  · exact ⟨g, cap, rfl, IsRow.of_owns (base := base) ⟨hl, .inr ⟨g, cap, cur, rfl, hb, hg, hc, hm, hsz, ht⟩⟩ hf, hb⟩

end Go.Proofs.Ytgaafdfekgnccaa

/-
  The reference's run ahead of its first step: middenref03.Begin, for every list of words and of hands: five rows made and one copied, in whatever order.
-/
namespace Go.Proofs.Ytgaafdfekgnccaa
open Go.RowKit
set_option linter.unusedVariables false
set_option linter.unusedSimpArgs false
set_option maxRecDepth 20000

structure Shp where
  a : Int
  b : Int
  c : Int
  d : Int
  e : Int
  f : Int
def Shp.val (s : Shp) : Value := .agg #[.int .i64 s.a, .int .i64 s.b, .int .i64 s.c, .int .i64 s.d, .int .i64 s.e, .int .i64 s.f]

/-- The reference's run, by value. -/
def runCells (s : Shp) (vw vh vt vu vb vk vs va : Value) (la : Int) : List Value :=
  [.int .i64 s.a, .int .i64 s.b, .int .i64 s.c, .int .i64 s.d, .int .i64 s.e, .int .i64 s.f, vw, vh, vt, vu, vb, vk, vs, va, .int .i64 la]
def runVal (s : Shp) (vw vh vt vu vb vk vs va : Value) (la : Int) : Value := .agg (runCells s vw vh vt vu vb vk vs va la).toArray

section
variable {P : Program} {o : Oper} {a : Act} {w : World} {K : Act → World → Prop} {Q : Exit → Act → World → Prop}
theorem wp_value {v : Value} {w' : World} (h : (execOp a.eval o).run P w = .ok (.value v) w') (hk : K (a.put o.dst v) w') : o.wp P a w K Q := by
  unfold Oper.wp; rw [h]; exact hk
theorem wp_move (x : Operand) (ho : o.op = .move x) (h : K (a.put o.dst (a.eval x)) w) : o.wp P a w K Q :=
  wp_value (w' := w) (v := a.eval x) (by simp [execOp, ho]) h
theorem wp_make {t e : TypeId} {zc : Array Value} {size bytes n : Nat} (x : Operand) (ho : o.op = .makeSlice t x x) (hx : a.eval x = .int .i64 n) (ht : P.underlying t = some (.slice e)) (hinfo : (P.info? e).map (fun i => (i.zero.map Value.cells, i.size, i.bytes)) = some (some zc, size, bytes))
    (hbytes : bytes * n ≤ 281474976710656) (h63 : n ≤ 9223372036854775807)
    (h : K (a.put o.dst (.slice (some ⟨w.heap.size, 0, none⟩) n n)) (w.alloc (.cells (madeCells zc (n * size)) e))) : o.wp P a w K Q :=
  wp_value (by simp [execOp, ho, hx, run_make_z t e zc size bytes ht hinfo n hbytes h63 w, Result.andThen]) h
theorem wp_lit0 {t e : TypeId} {zc : Array Value} {size bytes : Nat} (ho : o.op = .buildSlice t 0 #[]) (ht : P.underlying t = some (.slice e)) (hinfo : (P.info? e).map (fun i => (i.zero.map Value.cells, i.size, i.bytes)) = some (some zc, size, bytes))
    (h : K (a.put o.dst (.slice (some ⟨w.heap.size, 0, none⟩) 0 0)) (w.alloc (.cells #[] e))) : o.wp P a w K Q := by
  obtain ⟨i, hi, hzz⟩ := Option.map_eq_some_iff.1 hinfo
  refine wp_value (w' := w.alloc (.cells #[] e)) (v := .slice (some ⟨w.heap.size, 0, none⟩) 0 0) ?_ h
  simp only [Prod.mk.injEq] at hzz
  obtain ⟨hz, hs, hb⟩ := hzz
  obtain ⟨z, hz, hzc⟩ := Option.map_eq_some_iff.1 hz
  simp [execOp, ho, go_sem, run_underlying ht w, sizeOf, typeInfo, hi, Result.andThen, newObj]
  rfl
theorem wp_append_lit {t e : TypeId} {i : TypeInfo} {z : Value} {size bytes base n : Nat} (s x : Operand) (ho : o.op = Op.call { callee := Callee.builtin Builtin.append, args := #[s, x], argTypes := #[t, t] })
    (ht : P.underlying t = some (.slice e)) (hi : P.info? e = some i) (hz : i.zero = some z) (hsize : i.size = size) (hby : i.bytes = bytes) (hzs : z.cells.size = size) (hsz : 0 < size)
    (v : Value) (hs : a.eval s = v) (hown : w.ownsRow base e size v 0 []) (ao : Option Addr) (c : Nat) (news : List Value) (hx : a.eval x = .slice ao n c) (hnil : ao = none → n = 0 ∧ c = 0) (hl : news.length = n * size)
    (hnews : ∀ ad, ao = some ad → ∀ j u, news[j]? = some u → w.cell? (ad.add j) = some u) (h1 : ∀ u ∈ news, u.oneCell' = true) (h63 : n ≤ maxLen) (hbytes : n * bytes ≤ 140737488355328) (hbase : base ≤ w.heap.size)
    (h : ∀ v' w', w'.ownsRow base e size v' n news → w.grownBy w' v.ownBlock → (v' = .slice none 0 0 → v = .slice none 0 0) → (v'.ownBlock = v.ownBlock ∨ v'.ownBlock = some w.heap.size) → K (a.put o.dst v') w') : o.wp P a w K Q := by
  cases ao with
  | none =>
    obtain ⟨rfl, rfl⟩ := hnil rfl
    have hn : news = [] := by simpa using hl
    subst hn
    have hrun := run_append_owned_none (P := P) (w := w) base t o.type e i size ht hi v 0 [] hown
    refine wp_value (w' := w) (v := v) ?_ (h v w hown (grown_refl _ _) (fun e => e) (.inl rfl))
    simp [execOp, ho, resolve, invoke, builtin, hs, hx, hrun, Result.andThen]
  | some ad =>
    obtain ⟨v', w', hr, h2, h3, h4, h5⟩ := run_append_own_at (P := P) w base t o.type e i z size bytes ht hi hz hsize hby hzs hsz v 0 [] hown ad n c news hl (hnews ad rfl) h1 (by omega) (by simpa using hbytes) hbase
    refine wp_value (w' := w') (v := v') ?_ (h v' w' (by simpa using h2) h3 (fun e => (h4.1 e).1) h5)
    simp [execOp, ho, resolve, invoke, builtin, hs, hx, hr, Result.andThen]
end

theorem put_eval {a : Act} {d : Nat} {v : Value} (h : d < a.tmps.size) : (a.put (some d) v).eval (.tmp d) = v := by
  simp [Act.put, Act.eval, h]
theorem put_other {a : Act} {d k : Nat} {v : Value} (h : k ≠ d) : (a.put (some d) v).eval (.tmp k) = a.eval (.tmp k) :=
  Act.eval_put (fun d' hd he => by cases hd; cases he; exact h rfl)
theorem put_size {a : Act} {d : Option Nat} {v : Value} : (a.put d v).tmps.size = a.tmps.size := by
  cases d <;> simp [Act.put]
theorem put_defs {a : Act} {d : Option Nat} {v : Value} : (a.put d v).defers = a.defers := by
  cases d <;> rfl

theorem madeCells_get (zc : Array Value) (n i : Nat) (hi : i < n) : (madeCells zc n)[i]? = some (zc[i % zc.size]!) := by
  simp [madeCells, hi]
theorem World.rowIs_alloc' (w : World) (vs : Array Value) (t : TypeId) (n : Nat) (hn : vs.size = n) {f : Nat → Value} (hc : ∀ i, i < n → vs[i]? = some (f i)) : (w.alloc (.cells vs t)).rowIs w.heap.size t n f := by
  subst hn
  exact World.rowIs_alloc w vs t f hc
theorem rowIs_madeN (w : World) (zc : Array Value) (n : Nat) (t : TypeId) : (w.alloc (.cells (madeCells zc n) t)).rowIs w.heap.size t n (fun i => zc[i % zc.size]!) :=
  World.rowIs_alloc' w (madeCells zc n) t n (size_madeCells _ _) (fun i hi => madeCells_get zc n i hi)

theorem touch_setCells (b : Nat) : ∀ (vs : List Value) (o : Nat) (w : World), Touch w (w.setCells b o vs) (fun k => k = b)
  | [], _, w => Touch.refl w _
  | v :: r, o, w => by
    rw [World.setCells]
    exact (Touch.setCell (S := fun k => k = b) (Touch.refl w _) ⟨b, o, none⟩ (.inl rfl) v).trans (touch_setCells b r (o + 1) _)

/-! Begin's region. -/
namespace Beg
/-- Which operation moves what into which slot. -/
def mv (vw vh vn vs : Value) : Nat → Option (Nat × Value)
  | 0 => some (10, vs)
  | 2 => some (12, vw)
  | 4 => some (14, vh)
  | 5 => some (15, vn)
  | 7 => some (17, vn)
  | 9 => some (19, vn)
  | 11 => some (21, vn)
  | 13 => some (23, vn)
  | _ => none
def zTask : Array Value := #[.int .i64 0, .int .i64 0, .int .i64 0, .int .i64 0, .int .i64 0, .int .i64 0, .int .i64 0, .int .i64 0, .int .i64 0, .int .i64 0, .int .i64 0, .int .u64 0, .int .i64 0, .int .u64 0, .int .u64 0, .int .u64 0, .int .u64 0, .int .u64 0, .int .u64 0, .int .u64 0, .int .u64 0, .slice none 0 0, .bool false, .int .u64 0, .int .u64 0, .int .u64 0, .int .u64 0, .int .u64 0]
def zKept : Array Value := #[.int .u64 0, .int .u64 0, .int .u64 0, .int .u64 0]
theorem mv_key {vw vh vn vs v : Value} {k d : Nat} (h : mv vw vh vn vs k = some (d, v)) : (k = 0 ∧ d = 10) ∨ (k = 2 ∧ d = 12) ∨ (k = 4 ∧ d = 14) ∨ (k = 5 ∧ d = 15) ∨ (k = 7 ∧ d = 17) ∨ (k = 9 ∧ d = 19) ∨ (k = 11 ∧ d = 21) ∨ (k = 13 ∧ d = 23) := by
  unfold mv at h
  split at h <;> simp at h <;> omega
theorem mv_one {vw vh vn vs v v' : Value} {k k' d d' : Nat} (h : mv vw vh vn vs k = some (d, v)) (h' : mv vw vh vn vs k' = some (d', v')) (hne : k' ≠ k) : d' ≠ d := by
  have := mv_key h
  have := mv_key h'
  omega

def sl (b n : Nat) : Value := .slice (some ⟨b, 0, none⟩) n n
def cellsAt (sh : Shp) (vw vh : Value) (blk : Rl → Nat) (nh : Nat) : List Value := runCells sh vw vh (sl (blk .tasks) nh) (sl (blk .going) nh) (sl (blk .run) nh) (sl (blk .mem) nh) (.slice none 0 0) (sl (blk .answers) nh) (-1)

/-- What is known of the words' row. -/
structure Wd (N : Nat) (L : Nat → Bool) (a : Act) (blk : Rl → Nat) (c : Rl → Option Row) (n : Nat) (f : Nat → Int) : Prop where
  none : L 1 = false → c .words = .none ∧ L 3 = false
  lit : L 1 = true → L 3 = false → a.eval (.tmp 11) = .slice (some ⟨blk .words, 0, .none⟩) 0 0 ∧ N ≤ blk .words ∧ ∃ F, c .words = some ⟨46, 0, F⟩
  row : L 3 = true → ∃ cap F, a.eval (.tmp 13) = .slice (some ⟨blk .words, 0, .none⟩) n cap ∧ c .words = some ⟨46, cap, F⟩ ∧ n ≤ cap ∧ cap ≤ maxLen ∧ ∀ i, i < n → F i = .int .u64 (f i)

variable {w0 w : World} {B : Nat} {sh : Shp} {vw vh : Value} {n nh : Nat} {f : Nat → Int} {L : Nat → Bool} {a : Act} {blk : Rl → Nat} {c : Rl → Option Row}

end Beg
end Go.Proofs.Ytgaafdfekgnccaa

/-
  From a walk to a law's statement, whatever the law's arguments: where the call answers true and turns nothing below the heap's old size, the arguments read as they did, and the row's step holds.
-/
namespace Go.Proofs.Ytgaafdfekgnccaa
namespace Lift
open Go.ChangeShapes Go.WideShapes Go.ChangeAt Go.RowKit
set_option linter.unusedVariables false

theorem own : ownKnob Try.prog.godebug = none := by kernel_rfl
theorem laidOut : laidOutB Try.prog = true := by kernel_rfl

/-- All arguments read behind the call as they read before it. -/
theorem trodAll_below {H : Type} {enc : TypeId × Value → H} {P : Program} (hl : laidOutB P = true) {W W' : World} (hb : Below W.heap.size W W') :
    ∀ (ts : List TypeId) (vs : List Value) (ds : List (DataW H)) (p : List MemPlace), (ts.all fun t => P.readableRec t && decide (t < P.types.size)) = true →
      DataW.TrodAll enc P W 0 (fun _ => true) true ts vs ds p → DataW.TrodAll enc P W' 0 (fun b => decide (b < W.heap.size)) true ts vs ds p := by
  intro ts
  induction ts with
  | nil =>
    intro vs ds p _ h
    obtain ⟨rfl, rfl, rfl⟩ := trodAll_nil h
    exact trodAll_mk0
  | cons t ts ih =>
    intro vs ds p hr h
    obtain ⟨v, vs', d, ds', p1, q1, rfl, rfl, rfl, h1, h2⟩ := trodAll_cons h
    simp only [List.all_cons, Bool.and_eq_true, decide_eq_true_eq] at hr
    have lt : ∀ x ∈ p1, x.block < W.heap.size := by obtain ⟨m, hm⟩ := h1; exact DataW.trod_lt m _ _ _ hm
    exact trodAll_cons_mk (Below.trod hl hr.1.1 hr.1.2 h1 hb lt) (ih vs' ds' q1 hr.2 h2)

/-- What a law's specification says: the answer is true, the arguments are as they were. -/
structure IsLaw (s : ChangeSpec) (n : Nat) : Prop where
  vars : s.vars = []
  fn : ∀ (H : Type) (ds : List (DataW H)), ds.length = n → s.fn H (ds ++ []) = { results := [.lit (.bool true)], args := ds }

theorem trodAll_length {H : Type} {enc : TypeId × Value → H} {P : Program} {w : World} {base : Nat} {spare : Nat → Bool} {held : Bool} :
    ∀ (ts : List TypeId) (vs : List Value) (ds : List (DataW H)) (p : List MemPlace), DataW.TrodAll enc P w base spare held ts vs ds p → ds.length = ts.length := by
  intro ts
  induction ts with
  | nil => intro vs ds p h; obtain ⟨rfl, rfl, rfl⟩ := trodAll_nil h; rfl
  | cons t ts ih =>
    intro vs ds p h
    obtain ⟨v, vs', d, ds', p1, q1, rfl, rfl, rfl, h1, h2⟩ := trodAll_cons h
    simp [ih vs' ds' q1 h2]

/-- The step from the walk to the row's 'post'. -/
theorem contract {H : Type} (enc : TypeId × Value → H) {f : FuncId} {fn : Func} {s : ChangeSpec} {tb : TypeId} (hs : IsLaw s fn.params.size)
    (hr : (fn.params.toList.all fun t => Try.prog.readableRec t && decide (t < Try.prog.types.size)) = true) (hres : fn.resultTypes = #[tb]) (htb : Try.prog.underlying tb = some .bool)
    (W : World) (args : Array Value) (ds gs : List (DataW H)) (before : List MemPlace)
    (hW : DataW.Whole enc Try.prog fn.params.toList s.vars false W args.toList ds gs before)
    (walk : ∀ p, DataW.TrodAll enc Try.prog W 0 (fun _ => true) true fn.params.toList args.toList ds p → Calls Try.prog f args W fun e W' => e = .returned (.bool true) ∧ Below W.heap.size W W') :
    Calls Try.prog f args W fun e W' => ∃ v, e = .returned v ∧ s.post enc Try.prog fn false true false false W args v W' := by
  have hW' := hW
  obtain ⟨p, q, hA, hV, rfl, hfz, hnd⟩ := hW
  have hn := trodAll_length _ _ _ _ hA
  rw [hs.vars] at hV
  obtain ⟨rfl, rfl⟩ := trodVars_none hV
  have he := hs.fn H ds (by simpa using hn)
  refine (walk p hA).mono fun e W' ⟨hee, bel⟩ => ?_
  subst hee
  refine ⟨_, rfl, ds, [], _, [], p, [], hW', ?_, ?_, ?_, bel.frame _, fun h => by cases h⟩
  · rw [he, hres]
    exact trodAll_mk1 (shut_bool htb _)
  · rw [he]
    exact trodAll_below laidOut bel _ _ _ _ hr hA
  · rw [he, hs.vars]
    rfl

/-- A call that starts nothing ends alone: so all the others, there being none, are only leaving. -/
theorem leaving {a : Assume} {C : Checked} {os : Os} {f : FuncId} {r : Reach} {Pre : World → Array Value → Prop} {Post : World → Array Value → Value → World → Prop} (h : ReturnsInHanded a C os f r Pre Post) : ReturnsInLeavingWide a C os f r Pre Post := fun enter => by
  obtain ⟨h1, h2, h3, h4, h5⟩ := h enter
  refine ⟨h1, h2, h3, h4, fun w tape i hf => ?_⟩
  obtain ⟨n, v, w', e1, e2, e3, e4, ⟨j, last, e5, e6, q, ho, eh⟩, e8⟩ := h5 w tape i hf
  exact ⟨n, v, w', e1, e2, e3, e4, ⟨j, last, e5, e6, ho, onlyLeaving_of_quiet q, eh⟩, e8⟩
end Lift
end Go.Proofs.Ytgaafdfekgnccaa
