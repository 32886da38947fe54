/-
  Lemmas: Kd, TallyC.
-/
import Derived.Test.YtpghfebnggoacaaTp03
import Derived.Test.YtpghfebnggoacaaTp04
import Derived.Test.YtpghfebnggoacaaTp02
import Derived.Deep.RegionHeld
/-
  Jobs, answers, kinds of tasks: what a kind is, and what its maker, its Step and its Answer do.
-/
namespace Go.Proofs.Ytpghfebnggoacaa
open Go.RowKit
set_option linter.unusedVariables false
set_option linter.unusedSimpArgs false
set_option maxRecDepth 20000

structure Jb where
  kind : Int
  a : Int
  b : Int
  c : Int
  h : Int
def Jb.val (j : Jb) : Value := .agg #[.int .i64 j.kind, .int .i64 j.a, .int .i64 j.b, .int .i64 j.c, .int .u64 j.h]
def Jb.cell (j : Jb) (i : Nat) : Value := match i with | 0 => .int .i64 j.kind | 1 => .int .i64 j.a | 2 => .int .i64 j.b | 3 => .int .i64 j.c | _ => .int .u64 j.h
def Jb.wf (j : Jb) : Prop := 0 ≤ j.h ∧ j.h ≤ 18446744073709551615

structure Ans where
  ok : Bool
  val : Int
def Ans.value (x : Ans) : Value := .agg #[.bool x.ok, .int .u64 x.val]
def Ans.cells (x : Ans) : List Value := [.bool x.ok, .int .u64 x.val]

/-- A kind of tasks: what makes one, what act it does next, what comes of the step, when it ends, what it tells; and how the task of a job lies in memory. -/
structure Kd where
  σ : Type
  err : Jb → Int
  init : Int → Jb → σ
  req : σ → Stp
  next : σ → Stp → σ
  ends : σ → Stp → Bool
  tell : σ → Ans
  tid : Jb → TypeId
  t : Jb → TypeId
  n : Jb → Nat
  fs : Jb → FuncId
  fa : Jb → FuncId
  cell : σ → Nat → Value
  wf : Jb → σ → Prop

/-- A job that the kind takes. -/
def Kd.fine (K : Kd) (j : Jb) : Prop := j.wf ∧ K.err j = 0

structure Kd.Ok (K : Kd) : Prop where
  init : ∀ h j, K.fine j → K.wf j (K.init h j)
  next : ∀ j s n f, (∀ i, i < n → 0 ≤ f i ∧ f i ≤ 18446744073709551615) → K.wf j s → K.wf j (K.next s (stepOf n f (K.req s)))

theorem rowIs_cells {w : World} (vs : Array Value) (t : TypeId) (f : Nat → Value) (n : Nat) (hn : vs.size = n) (hc : ∀ i, i < n → vs[i]? = some (f i)) : (w.alloc (.cells vs t)).rowIs w.heap.size t n f := by
  subst hn
  exact World.rowIs_alloc w vs t f hc

theorem func_nil (f : FuncId) (w : World) : (binOp .eql 134 (.func (.func f) #[] #[]) .nilFunc).run Try.prog w = .ok (.bool false) w := by kernel_rfl
theorem iface_nil (t : TypeId) (v : Value) (w : World) : (binOp .eql 66 (.iface t v) .nilIface).run Try.prog w = .ok (.bool false) w := by kernel_rfl
theorem iface_none (w : World) : (binOp .eql 66 .nilIface .nilIface).run Try.prog w = .ok (.bool true) w := by kernel_rfl

def zcell : Nat → Value := fun i => match i with | 0 => .int .i64 0 | 1 => .int .i64 0 | 2 => .int .i64 0 | 3 => .int .u64 0 | 4 => .int .u64 0 | _ => .bool false
theorem row0 (w : World) : (w.alloc (.cells #[.int .i64 0, .int .i64 0, .int .i64 0, .int .u64 0, .int .u64 0, .bool false] 73)).rowIs w.heap.size 73 6 zcell :=
  rowIs_cells _ 73 zcell 6 rfl (fun i hi => by
    match i, hi with
    | 0, _ | 1, _ | 2, _ | 3, _ | 4, _ | 5, _ => rfl)
theorem row0n (w : World) (o : Obj) : ((w.alloc o).alloc (.cells #[.int .i64 0, .int .i64 0, .int .i64 0, .int .u64 0, .int .u64 0, .bool false] 73)).rowIs (w.heap.size + 1) 73 6 zcell := by
  have := row0 (w.alloc o)
  simpa using this


/-- What makeTask does in a world with this maker. -/
def MakesAt (K : Kd) (mk : Value) (w : World) : Prop :=
  ∀ (hand : Int) (j : Jb), 0 ≤ hand → hand < 8 → j.wf →
    (K.err j = 0 → Calls Try.prog 74 #[mk, .int .i64 hand, j.val] w fun e w' => ∃ b, e = .returned (.tuple #[.iface (K.tid j) (.pointer (some ⟨b, 0, none⟩)), .int .i64 0]) ∧
      w'.rowIs b (K.t j) (K.n j) (K.cell (K.init hand j)) ∧ w.heap.size ≤ b ∧ w.grownBy w' none) ∧
    (¬ K.err j = 0 → Calls Try.prog 74 #[mk, .int .i64 hand, j.val] w fun e w' => e = .returned (.tuple #[.nilIface, .int .i64 (K.err j)]) ∧ w.grownBy w' none)

/-- What the methods of a kind's tasks do. -/
structure IsKind (K : Kd) : Prop where
  ok : K.Ok
  step : ∀ {w : World} {b bm bw n : Nat} {f : Nat → Int} {s : K.σ} {j : Jb}, K.fine j → K.wf j s → w.rowIs b (K.t j) (K.n j) (K.cell s) → IsMem w bm bw n f → b ≠ bm → b ≠ bw →
    Calls Try.prog (K.fs j) #[.pointer (some ⟨b, 0, none⟩), .pointer (some ⟨bm, 0, none⟩)] w fun e w' => e = .returned (.tuple #[(stepOf n f (K.req s)).val, .int .i64 (if K.ends s (stepOf n f (K.req s)) = true then 1 else 0)]) ∧
      w'.rowIs b (K.t j) (K.n j) (K.cell (K.next s (stepOf n f (K.req s)))) ∧ IsMem w' bm bw n (wordsOf n f (K.req s)) ∧ Touch w w' (fun k => k = b ∨ k = bw)
  ans : ∀ {w : World} {b : Nat} {s : K.σ} {j : Jb}, K.fine j → K.wf j s → w.rowIs b (K.t j) (K.n j) (K.cell s) →
    Calls Try.prog (K.fa j) #[.pointer (some ⟨b, 0, none⟩)] w fun e w' => e = .returned (K.tell s).value ∧ w.grownBy w' none
  mstep : ∀ j, K.fine j → ∀ (b : Nat) (w : World), (method 283 (K.tid j) (.pointer (some ⟨b, 0, none⟩)) "Step").run Try.prog w = .ok (K.fs j, .pointer (some ⟨b, 0, none⟩)) w
  mans : ∀ j, K.fine j → ∀ (b : Nat) (w : World), (method 283 (K.tid j) (.pointer (some ⟨b, 0, none⟩)) "Answer").run Try.prog w = .ok (K.fa j, .pointer (some ⟨b, 0, none⟩)) w
  cstep : ∀ j, K.fine j → ∀ (args : Array Value) (w : World), (callFunc (K.fs j) args).run Try.prog w = .ok (.enter (K.fs j) args) w
  cans : ∀ j, K.fine j → ∀ (args : Array Value) (w : World), (callFunc (K.fa j) args).run Try.prog w = .ok (.enter (K.fa j) args) w
end Go.Proofs.Ytpghfebnggoacaa

/-
  The tasks of a tally: how each of the three lies in memory.
-/
namespace Go.Proofs.Ytpghfebnggoacaa
open Go.RowKit
set_option linter.unusedVariables false
set_option linter.unusedSimpArgs false
set_option maxRecDepth 20000
namespace Tally

def cntC (hand a hh : Int) (t : Ans) : Nat → Value := fun i => match i with | 0 => .int .i64 hand | 1 => .int .i64 a | 2 => .int .u64 hh | 3 => .bool t.ok | _ => .int .u64 t.val
def sumC (hand room st sn : Int) (t : Ans) : Nat → Value := fun i => match i with | 0 => .int .i64 hand | 1 => .int .i64 room | 2 => .int .i64 st | 3 => .int .u64 sn | 4 => .bool t.ok | _ => .int .u64 t.val
def mstC (hand at_ hh sn : Int) (ld : Bool) (t : Ans) : Nat → Value := fun i => match i with | 0 => .int .i64 hand | 1 => .int .i64 at_ | 2 => .int .u64 hh | 3 => .int .u64 sn | 4 => .bool ld | 5 => .bool t.ok | _ => .int .u64 t.val

theorem cnt_next (hand a hh : Int) (t : Ans) (p : Int) (i : Nat) (hi : i < 5) : (fun j => if j = 4 then Value.int .u64 p else (fun j => if j = 3 then Value.bool true else cntC hand a hh t j) j) i = cntC hand a hh ⟨true, p⟩ i := by
  match i, hi with
  | 0, _ | 1, _ | 2, _ | 3, _ | 4, _ => rfl
theorem sum_next (hand room st sn : Int) (t : Ans) (s1 r1 : Int) (i : Nat) (hi : i < 6) : (fun j => if j = 2 then Value.int .i64 s1 else (fun j => if j = 3 then Value.int .u64 r1 else sumC hand room st sn t j) j) i = sumC hand room s1 r1 t i := by
  match i, hi with
  | 0, _ | 1, _ | 2, _ | 3, _ | 4, _ | 5, _ => rfl
theorem sum_next' (hand room st sn : Int) (t : Ans) (s1 r1 : Int) (i : Nat) (hi : i < 6) : (fun j => if j = 5 then Value.int .u64 r1 else (fun j => if j = 4 then Value.bool true else (fun j => if j = 2 then Value.int .i64 s1 else (fun j => if j = 3 then Value.int .u64 r1 else sumC hand room st sn t j) j) j) j) i = sumC hand room s1 r1 ⟨true, r1⟩ i := by
  match i, hi with
  | 0, _ | 1, _ | 2, _ | 3, _ | 4, _ | 5, _ => rfl
theorem mst_told (hand at_ hh sn : Int) (ld : Bool) (t : Ans) (o : Bool) (p : Int) (i : Nat) (hi : i < 7) : (fun j => if j = 6 then Value.int .u64 p else (fun j => if j = 5 then Value.bool o else mstC hand at_ hh sn ld t j) j) i = mstC hand at_ hh sn ld ⟨o, p⟩ i := by
  match i, hi with
  | 0, _ | 1, _ | 2, _ | 3, _ | 4, _ | 5, _ | 6, _ => rfl
theorem mst_seen (hand at_ hh sn : Int) (ld : Bool) (t : Ans) (p : Int) (i : Nat) (hi : i < 7) : (fun j => if j = 4 then Value.bool true else (fun j => if j = 3 then Value.int .u64 p else mstC hand at_ hh sn ld t j) j) i = mstC hand at_ hh p true t i := by
  match i, hi with
  | 0, _ | 1, _ | 2, _ | 3, _ | 4, _ | 5, _ | 6, _ => rfl
theorem mst_again (hand at_ hh sn : Int) (ld : Bool) (t : Ans) (i : Nat) (hi : i < 7) : (fun j => if j = 4 then Value.bool false else mstC hand at_ hh sn ld t j) i = mstC hand at_ hh sn false t i := by
  match i, hi with
  | 0, _ | 1, _ | 2, _ | 3, _ | 4, _ | 5, _ | 6, _ => rfl

end Tally
end Go.Proofs.Ytpghfebnggoacaa
