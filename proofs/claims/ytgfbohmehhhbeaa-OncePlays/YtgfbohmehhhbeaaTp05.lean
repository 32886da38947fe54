/-
  Lemmas: Kd, WordL, PileC, Spec, RInv, Picks.
-/
import Derived.Test.YtgfbohmehhhbeaaTp03
import Derived.Test.YtgfbohmehhhbeaaTp04
import Derived.Test.YtgfbohmehhhbeaaTp02
import Derived.Deep.RegionHeld
import Derived.Test.YtgfbohmehhhbeaaRows
import Derived.WalkKit
import Derived.WalkSpells
import Derived.WalkLawsBesides
import Derived.Test.YtgfbohmehhhbeaaTp01
import Derived.Orders
/-
  Jobs, answers, kinds of tasks: what a kind is, and what its maker, its Step and its Answer do.
-/
namespace Go.Proofs.Ytgfbohmehhhbeaa
open Go.RowKit
set_option linter.unusedVariables false
set_option linter.unusedSimpArgs false
set_option maxRecDepth 20000

structure Jb where
  kind : Int
  a : Int
  b : Int
  c : Int
  h : Int
def Jb.val (j : Jb) : Value := .agg #[.int .i64 j.kind, .int .i64 j.a, .int .i64 j.b, .int .i64 j.c, .int .u64 j.h]
def Jb.cell (j : Jb) (i : Nat) : Value := match i with | 0 => .int .i64 j.kind | 1 => .int .i64 j.a | 2 => .int .i64 j.b | 3 => .int .i64 j.c | _ => .int .u64 j.h
def Jb.wf (j : Jb) : Prop := 0 ≤ j.h ∧ j.h ≤ 18446744073709551615

structure Ans where
  ok : Bool
  val : Int
def Ans.value (x : Ans) : Value := .agg #[.bool x.ok, .int .u64 x.val]
def Ans.cells (x : Ans) : List Value := [.bool x.ok, .int .u64 x.val]

/-- A kind of tasks: what makes one, what act it does next, what comes of the step, when it ends, what it tells; and how the task of a job lies in memory. -/
structure Kd where
  σ : Type
  err : Jb → Int
  init : Int → Jb → σ
  req : σ → Stp
  next : σ → Stp → σ
  ends : σ → Stp → Bool
  tell : σ → Ans
  tid : Jb → TypeId
  t : Jb → TypeId
  n : Jb → Nat
  fs : Jb → FuncId
  fa : Jb → FuncId
  cell : σ → Nat → Value
  wf : Jb → σ → Prop

/-- A job that the kind takes. -/
def Kd.fine (K : Kd) (j : Jb) : Prop := j.wf ∧ K.err j = 0

structure Kd.Ok (K : Kd) : Prop where
  init : ∀ h j, K.fine j → K.wf j (K.init h j)
  next : ∀ j s n f, (∀ i, i < n → 0 ≤ f i ∧ f i ≤ 18446744073709551615) → K.wf j s → K.wf j (K.next s (stepOf n f (K.req s)))

theorem rowIs_cells {w : World} (vs : Array Value) (t : TypeId) (f : Nat → Value) (n : Nat) (hn : vs.size = n) (hc : ∀ i, i < n → vs[i]? = some (f i)) : (w.alloc (.cells vs t)).rowIs w.heap.size t n f := by
  subst hn
  exact World.rowIs_alloc w vs t f hc

theorem func_nil (f : FuncId) (w : World) : (binOp .eql 116 (.func (.func f) #[] #[]) .nilFunc).run Try.prog w = .ok (.bool false) w := by kernel_rfl
theorem iface_nil (t : TypeId) (v : Value) (w : World) : (binOp .eql 61 (.iface t v) .nilIface).run Try.prog w = .ok (.bool false) w := by kernel_rfl
theorem iface_none (w : World) : (binOp .eql 61 .nilIface .nilIface).run Try.prog w = .ok (.bool true) w := by kernel_rfl

def zcell : Nat → Value := fun i => match i with | 0 => .int .i64 0 | 1 => .int .i64 0 | 2 => .int .i64 0 | 3 => .int .u64 0 | 4 => .int .u64 0 | _ => .bool false
theorem row0 (w : World) : (w.alloc (.cells #[.int .i64 0, .int .i64 0, .int .i64 0, .int .u64 0, .int .u64 0, .bool false] 71)).rowIs w.heap.size 71 6 zcell :=
  rowIs_cells _ 71 zcell 6 rfl (fun i hi => by
    match i, hi with
    | 0, _ | 1, _ | 2, _ | 3, _ | 4, _ | 5, _ => rfl)
theorem row0n (w : World) (o : Obj) : ((w.alloc o).alloc (.cells #[.int .i64 0, .int .i64 0, .int .i64 0, .int .u64 0, .int .u64 0, .bool false] 71)).rowIs (w.heap.size + 1) 71 6 zcell := by
  have := row0 (w.alloc o)
  simpa using this


/-- What makeTask does in a world with this maker. -/
def MakesAt (K : Kd) (mk : Value) (w : World) : Prop :=
  ∀ (hand : Int) (j : Jb), 0 ≤ hand → hand < 8 → j.wf →
    (K.err j = 0 → Calls Try.prog 89 #[mk, .int .i64 hand, j.val] w fun e w' => ∃ b, e = .returned (.tuple #[.iface (K.tid j) (.pointer (some ⟨b, 0, none⟩)), .int .i64 0]) ∧
      w'.rowIs b (K.t j) (K.n j) (K.cell (K.init hand j)) ∧ w.heap.size ≤ b ∧ w.grownBy w' none) ∧
    (¬ K.err j = 0 → Calls Try.prog 89 #[mk, .int .i64 hand, j.val] w fun e w' => e = .returned (.tuple #[.nilIface, .int .i64 (K.err j)]) ∧ w.grownBy w' none)

/-- What the methods of a kind's tasks do. -/
structure IsKind (K : Kd) : Prop where
  ok : K.Ok
  step : ∀ {w : World} {b bm bw n : Nat} {f : Nat → Int} {s : K.σ} {j : Jb}, K.fine j → K.wf j s → w.rowIs b (K.t j) (K.n j) (K.cell s) → IsMem w bm bw n f → b ≠ bm → b ≠ bw →
    Calls Try.prog (K.fs j) #[.pointer (some ⟨b, 0, none⟩), .pointer (some ⟨bm, 0, none⟩)] w fun e w' => e = .returned (.tuple #[(stepOf n f (K.req s)).val, .int .i64 (if K.ends s (stepOf n f (K.req s)) = true then 1 else 0)]) ∧
      w'.rowIs b (K.t j) (K.n j) (K.cell (K.next s (stepOf n f (K.req s)))) ∧ IsMem w' bm bw n (wordsOf n f (K.req s)) ∧ Touch w w' (fun k => k = b ∨ k = bw)
  ans : ∀ {w : World} {b : Nat} {s : K.σ} {j : Jb}, K.fine j → K.wf j s → w.rowIs b (K.t j) (K.n j) (K.cell s) →
    Calls Try.prog (K.fa j) #[.pointer (some ⟨b, 0, none⟩)] w fun e w' => e = .returned (K.tell s).value ∧ w.grownBy w' none
  mstep : ∀ j, K.fine j → ∀ (b : Nat) (w : World), (method 307 (K.tid j) (.pointer (some ⟨b, 0, none⟩)) "Step").run Try.prog w = .ok (K.fs j, .pointer (some ⟨b, 0, none⟩)) w
  mans : ∀ j, K.fine j → ∀ (b : Nat) (w : World), (method 307 (K.tid j) (.pointer (some ⟨b, 0, none⟩)) "Answer").run Try.prog w = .ok (K.fa j, .pointer (some ⟨b, 0, none⟩)) w
  cstep : ∀ j, K.fine j → ∀ (args : Array Value) (w : World), (callFunc (K.fs j) args).run Try.prog w = .ok (.enter (K.fs j) args) w
  cans : ∀ j, K.fine j → ∀ (args : Array Value) (w : World), (callFunc (K.fa j) args).run Try.prog w = .ok (.enter (K.fa j) args) w
end Go.Proofs.Ytgfbohmehhhbeaa

/-
  Words as plain numbers, and what the small functions of package word, and of the document's answer for it, return.
-/
namespace Go.Proofs.Ytgfbohmehhhbeaa
open Go.RowKit
set_option linter.unusedVariables false
theorem wrapU (n : Int) : IntKind.u64.wrap n = n % 18446744073709551616 := IntKind.wrap_u64 n

theorem and_low (x : Int) (h0 : 0 ≤ x) (h1 : x < 18446744073709551616) : bits .and .u64 x 4294967295 = x % 4294967296 := by
  rw [u64_and x 4294967295 h0 h1 (by omega) (by omega)]
  have e : x.toNat &&& (4294967295 : Int).toNat = x.toNat % 4294967296 := Nat.and_two_pow_sub_one_eq_mod x.toNat 32
  rw [e]; omega








theorem or_join (i : Nat) (a b : Int) (ha0 : 0 ≤ a) (ha1 : a.toNat < 2 ^ i) (ha2 : a < 18446744073709551616) (hb0 : 0 ≤ b) (hb1 : b.toNat % 2 ^ i = 0) (hb2 : b < 18446744073709551616) : bits .or .u64 a b = a + b := by
  rw [u64_or a b ha0 ha2 hb0 hb2, Nat.or_comm, nat_join i b.toNat a.toNat hb1 ha1]
  omega

theorem or32 (a b : Int) (ha0 : 0 ≤ a) (ha1 : a < 4294967296) (hb0 : 0 ≤ b) (hb1 : b % 4294967296 = 0) (hb2 : b < 18446744073709551616) : bits .or .u64 a b = a + b :=
  or_join 32 a b ha0 (by omega) (by omega) hb0 (by omega) hb2




/-- The word whose lower half is i and whose upper half is g, both modulo 2^32. -/
def hd (i g : Int) : Int := i % 4294967296 + g % 4294967296 * 4294967296

theorem hd_lo (i g : Int) : 0 ≤ hd i g := by unfold hd; omega
theorem hd_hi (i g : Int) : hd i g < 18446744073709551616 := by unfold hd; omega

theorem join_eq (i g : Int) : bits .or .u64 (bits .and .u64 (IntKind.u64.wrap i) 4294967295) (IntKind.u64.wrap (g * 4294967296)) = hd i g := by
  rw [wrapU, wrapU, and_low _ (by omega) (by omega), or32 _ _ (by omega) (by omega) (by omega) (by omega) (by omega)]
  unfold hd; omega

theorem ref_eq (i g : Int) : IntKind.u64.wrap ((IntKind.u64.wrap i).tmod 4294967296 + g % 4294967296 * 4294967296) = hd i g := by
  rw [wrapU, wrapU, Int.tmod_eq_emod_of_nonneg (by omega)]
  unfold hd; omega

theorem ret_int {k : IntKind} {a b : Int} (h : a = b) : Ending.returned (.int k a) = .returned (.int k b) := by rw [h]
theorem ret_bool {a b : Bool} (h : a = b) : Ending.returned (.bool a) = .returned (.bool b) := by rw [h]

set_option maxHeartbeats 400000 in
theorem join_any (i g : Int) (w : World) :
    Calls Try.prog 58 #[.int .i64 i, .int .u64 g] w fun e w' => e = .returned (.int .u64 (hd i g)) ∧ w' = w := by
  go_enter Try.func58, Try.ntmps58
  go_wp2
  go_ret
  exact ⟨ret_int (join_eq i g), rfl⟩

set_option maxHeartbeats 400000 in
theorem tagged_any (i g : Int) (w : World) :
    Calls Try.prog 41 #[.int .i64 i, .int .u64 g] w fun e w' => e = .returned (.int .u64 (hd i g)) ∧ w' = w := by
  go_enter Try.func41, Try.ntmps41
  go_wp2_with (go_at_call 58; refine (join_any _ _ _).mono ?_; rintro e w' ⟨rfl, rfl⟩)
  go_ret
  exact ⟨rfl, rfl⟩

set_option maxHeartbeats 400000 in
theorem handle_ref (i g : Int) (h0 : 0 ≤ g) (h1 : g < 18446744073709551616) (w : World) :
    Calls Try.prog 112 #[.int .i64 i, .int .u64 g] w fun e w' => e = .returned (.int .u64 (hd i g)) ∧ w' = w := by
  go_enter Try.func112, Try.ntmps112
  go_wp2
  go_ret
  exact ⟨ret_int (ref_eq i g), rfl⟩

set_option maxHeartbeats 400000 in
theorem tagged_ref (i g : Int) (h0 : 0 ≤ g) (h1 : g < 18446744073709551616) (w : World) :
    Calls Try.prog 86 #[.int .i64 i, .int .u64 g] w fun e w' => e = .returned (.int .u64 (hd i g)) ∧ w' = w := by
  go_enter Try.func86, Try.ntmps86
  go_wp2_with (go_at_call 112; refine (handle_ref _ _ h0 h1 _).mono ?_; rintro e w' ⟨rfl, rfl⟩)
  go_ret
  exact ⟨rfl, rfl⟩

theorem wrap64_low (h : Int) (h0 : 0 ≤ h) (h1 : h < 18446744073709551616) : wrap64 (bits .and .u64 h 4294967295) = h % 4294967296 := by
  rw [and_low h h0 h1]; unfold wrap64; omega

set_option maxHeartbeats 400000 in
theorem index_any (h : Int) (h0 : 0 ≤ h) (h1 : h < 18446744073709551616) (w : World) :
    Calls Try.prog 23 #[.int .u64 h] w fun e w' => e = .returned (.int .i64 (h % 4294967296)) ∧ w' = w := by
  go_enter Try.func23, Try.ntmps23
  go_wp2
  go_ret
  exact ⟨ret_int (wrap64_low h h0 h1), rfl⟩

set_option maxHeartbeats 400000 in
theorem index_ref (h : Int) (h0 : 0 ≤ h) (h1 : h < 18446744073709551616) (w : World) :
    Calls Try.prog 69 #[.int .u64 h] w fun e w' => e = .returned (.int .i64 (h % 4294967296)) ∧ w' = w := by
  go_enter Try.func69, Try.ntmps69
  go_wp2
  go_ret
  exact ⟨rfl, rfl⟩

set_option maxHeartbeats 400000 in
theorem gen_any (h : Int) (h0 : 0 ≤ h) (h1 : h < 18446744073709551616) (w : World) :
    Calls Try.prog 154 #[.int .u64 h] w fun e w' => e = .returned (.int .u64 (h / 4294967296)) ∧ w' = w := by
  go_enter Try.func154, Try.ntmps154
  go_wp2
  go_ret
  exact ⟨rfl, rfl⟩

set_option maxHeartbeats 400000 in
theorem gen_ref (h : Int) (h0 : 0 ≤ h) (h1 : h < 18446744073709551616) (w : World) :
    Calls Try.prog 87 #[.int .u64 h] w fun e w' => e = .returned (.int .u64 (h / 4294967296)) ∧ w' = w := by
  go_enter Try.func87, Try.ntmps87
  go_wp2
  go_ret
  exact ⟨rfl, rfl⟩

set_option maxHeartbeats 400000 in
theorem bump_any (t i : Int) (h0 : 0 ≤ t) (h1 : t < 18446744073709551616) (w : World) :
    Calls Try.prog 149 #[.int .u64 t, .int .i64 i] w fun e w' => e = .returned (.int .u64 (hd i (t / 4294967296 + 1))) ∧ w' = w := by
  go_enter Try.func149, Try.ntmps149
  go_wp2_with (first | (go_at_call 154; refine (gen_any _ h0 h1 _).mono ?_; rintro e w' ⟨rfl, rfl⟩) | (go_at_call 41; refine (tagged_any _ _ _).mono ?_; rintro e w' ⟨rfl, rfl⟩))
  go_ret
  exact ⟨rfl, rfl⟩

set_option maxHeartbeats 400000 in
theorem bump_ref (t i : Int) (h0 : 0 ≤ t) (h1 : t < 18446744073709551616) (w : World) :
    Calls Try.prog 70 #[.int .u64 t, .int .i64 i] w fun e w' => e = .returned (.int .u64 (hd i (t / 4294967296 + 1))) ∧ w' = w := by
  go_enter Try.func70, Try.ntmps70
  go_wp2_with (first | (go_at_call 87; refine (gen_ref _ h0 h1 _).mono ?_; rintro e w' ⟨rfl, rfl⟩) | (go_at_call 86; refine (tagged_ref _ _ (by omega) (by omega) _).mono ?_; rintro e w' ⟨rfl, rfl⟩))
  go_ret
  exact ⟨rfl, rfl⟩

end Go.Proofs.Ytgfbohmehhhbeaa

/-
  The tasks of a pile: how a job under way lies in memory, and what it is as a plain state.
-/
namespace Go.Proofs.Ytgfbohmehhhbeaa
open Go.RowKit
set_option linter.unusedVariables false
set_option linter.unusedSimpArgs false
set_option maxRecDepth 20000
namespace Pile

def carC (hand kind fr on st head place below value : Int) (t : Ans) : Nat → Value := fun i => match i with | 0 => .int .i64 hand | 1 => .int .i64 kind | 2 => .int .i64 fr | 3 => .int .i64 on | 4 => .int .i64 st | 5 => .int .u64 head | 6 => .int .i64 place | 7 => .int .i64 below | 8 => .int .u64 value | 9 => .bool t.ok | _ => .int .u64 t.val

def idx (x : Int) : Int := x % 4294967296
def bump (t i : Int) : Int := hd i (t / 4294967296 + 1)
theorem bump_lo (t i : Int) : 0 ≤ bump t i := hd_lo _ _
theorem bump_hi (t i : Int) : bump t i ≤ 18446744073709551615 := by have := hd_hi i (t / 4294967296 + 1); unfold bump; omega
theorem idx_lo (x : Int) : 0 ≤ idx x := by unfold idx; omega
theorem idx_hi (x : Int) : idx x < 4294967296 := by unfold idx; omega
def frm (k : Int) : Int := if k = 1 then 1 else 0
def ont (k : Int) : Int := if k = 1 then 0 else 1

structure PiS where
  hand : Int
  j : Jb
  st : Int
  head : Int
  place : Int
  low : Int
  val : Int
  told : Ans

def perr (j : Jb) : Int := if j.kind = 1 then 0 else if j.kind = 2 then 0 else 200
def preq (s : PiS) : Stp :=
  if s.st = 0 then ⟨s.hand, 1, frm s.j.kind, 0, 0, true⟩ else if s.st = 1 then ⟨s.hand, 1, 2 * s.place, 0, 0, true⟩ else if s.st = 2 then ⟨s.hand, 5, frm s.j.kind, s.head, bump s.head (idx s.low), true⟩
  else if s.st = 3 then (if s.j.kind = 1 then ⟨s.hand, 2, 2 * s.place + 1, 0, s.j.h, true⟩ else ⟨s.hand, 1, 2 * s.place + 1, 0, 0, true⟩) else if s.st = 4 then ⟨s.hand, 1, ont s.j.kind, 0, 0, true⟩
  else if s.st = 5 then ⟨s.hand, 2, 2 * s.place, 0, idx s.head, true⟩ else ⟨s.hand, 5, ont s.j.kind, s.head, bump s.head s.place, true⟩
def pends (s : PiS) (x : Stp) : Bool := if s.st = 0 then idx x.had == 0 else if s.st = 1 then false else if s.st = 2 then false else if s.st = 3 then false else if s.st = 4 then false else if s.st = 5 then false else x.ok
def pnext (s : PiS) (x : Stp) : PiS :=
  if s.st = 0 then { s with head := x.had, place := idx x.had, st := if idx x.had = 0 then 0 else 1 } else if s.st = 1 then { s with low := x.had, st := 2 } else if s.st = 2 then { s with st := if x.ok = true then 3 else 0 }
  else if s.st = 3 then (if s.j.kind = 1 then { s with st := 4 } else { s with val := x.had, st := 4 }) else if s.st = 4 then { s with head := x.had, st := 5 } else if s.st = 5 then { s with st := 6 }
  else if x.ok = true then { s with told := ⟨true, if s.j.kind = 1 then s.place else s.val⟩ } else { s with st := 4 }
def pcell (s : PiS) : Nat → Value := carC s.hand s.j.kind (frm s.j.kind) (ont s.j.kind) s.st s.head s.place (idx s.low) (if s.j.kind = 1 then s.j.h else s.val) s.told

/-- What stands in a task under way. -/
structure Wf (s : PiS) : Prop where
  st0 : 0 ≤ s.st
  st6 : s.st ≤ 6
  kind : s.j.kind = 1 ∨ s.j.kind = 2
  h : s.j.wf
  head : 0 ≤ s.head ∧ s.head ≤ 18446744073709551615
  place : 0 ≤ s.place ∧ s.place < 4294967296
  low : 0 ≤ s.low ∧ s.low ≤ 18446744073709551615
  val : 0 ≤ s.val ∧ s.val ≤ 18446744073709551615

def kPile : Kd where
  σ := PiS
  err := perr
  init h j := ⟨h, j, 0, 0, 0, 0, 0, ⟨false, 0⟩⟩
  req := preq
  next := pnext
  ends := pends
  tell s := s.told
  tid _ := 94
  t _ := 96
  n _ := 11
  fs _ := 140
  fa _ := 139
  cell := pcell
  wf j s := s.j = j ∧ Wf s

theorem had_bounds {n : Nat} {f : Nat → Int} (hf : ∀ i, i < n → 0 ≤ f i ∧ f i ≤ 18446744073709551615) (q : Stp) : 0 ≤ (stepOf n f q).had ∧ (stepOf n f q).had ≤ 18446744073709551615 := by
  unfold stepOf
  split
  · rename_i h
    exact hf _ (by omega)
  · exact ⟨Int.le_refl 0, by show (0 : Int) ≤ 18446744073709551615; decide⟩

theorem fine_cases {j : Jb} (h : kPile.fine j) : (j.kind = 1 ∨ j.kind = 2) ∧ j.wf := by
  have h2 : perr j = 0 := h.2
  refine ⟨?_, h.1⟩
  unfold perr at h2
  split at h2
  · exact .inl (by assumption)
  · split at h2
    · exact .inr (by assumption)
    · cases h2

theorem pnext_j (s : PiS) (x : Stp) : (pnext s x).j = s.j := by
  unfold pnext
  repeat' split
  all_goals rfl

theorem pnext_wf {s : PiS} {x : Stp} (H : Wf s) (hx : 0 ≤ x.had ∧ x.had ≤ 18446744073709551615) : Wf (pnext s x) := by
  obtain ⟨h0, h6, hk, hh, hd, hp, hl, hv⟩ := H
  have i0 := idx_lo x.had
  have i1 := idx_hi x.had
  unfold pnext
  repeat' split
  all_goals (constructor <;> first | assumption | exact ⟨i0, i1⟩ | (simp only; first | omega | (split <;> omega)))

theorem wf_init (h : Int) {j : Jb} (hj : kPile.fine j) : Wf ⟨h, j, 0, 0, 0, 0, 0, ⟨false, 0⟩⟩ := by
  obtain ⟨hk, hw⟩ := fine_cases hj
  constructor <;> first | exact hk | exact hw | (simp only; omega)
end Pile
end Go.Proofs.Ytgfbohmehhhbeaa

/-
  Who is picked: the number of those that go on, the place-th of them, the next one behind a hand. No program here.
-/
namespace Go.Proofs.Ytgfbohmehhhbeaa
set_option linter.unusedVariables false

/-- How many of the first i go on. -/
def cnt (g : Nat → Bool) : Nat → Nat
  | 0 => 0
  | i + 1 => cnt g i + (if g i then 1 else 0)

theorem cnt_le (g : Nat → Bool) : ∀ i, cnt g i ≤ i
  | 0 => Nat.le_refl _
  | i + 1 => by have := cnt_le g i; simp only [cnt]; split <;> omega

theorem cnt_mono (g : Nat → Bool) {i j : Nat} (h : i ≤ j) : cnt g i ≤ cnt g j := by
  induction h with
  | refl => exact Nat.le_refl _
  | step _ ih => simp only [cnt]; omega

theorem cnt_true {g : Nat → Bool} {i : Nat} (h : g i = true) : cnt g (i + 1) = cnt g i + 1 := by simp [cnt, h]
theorem cnt_false {g : Nat → Bool} {i : Nat} (h : g i = false) : cnt g (i + 1) = cnt g i := by simp [cnt, h]
theorem cnt_congr {g g' : Nat → Bool} {n : Nat} (h : ∀ i, i < n → g i = g' i) : cnt g n = cnt g' n := by
  induction n with
  | zero => rfl
  | succ n ih => simp only [cnt, ih (fun i hi => h i (by omega)), h n (by omega)]

structure IsPick (n : Nat) (g : Nat → Bool) (k i : Nat) : Prop where
  lt : i < n
  on : g i = true
  rank : cnt g i = k

theorem IsPick.one {n : Nat} {g : Nat → Bool} {k i j : Nat} (h : IsPick n g k i) (h' : IsPick n g k j) : i = j := by
  rcases Nat.lt_trichotomy i j with l | e | l
  · have := cnt_mono g (show i + 1 ≤ j by omega); rw [cnt_true h.on, h.rank, h'.rank] at this; omega
  · exact e
  · have := cnt_mono g (show j + 1 ≤ i by omega); rw [cnt_true h'.on, h.rank, h'.rank] at this; omega

theorem exists_pick (g : Nat → Bool) (k : Nat) : ∀ n, k < cnt g n → ∃ i, IsPick n g k i
  | 0, h => by simp [cnt] at h
  | n + 1, h => by
    by_cases h1 : k < cnt g n
    · obtain ⟨i, hi⟩ := exists_pick g k n h1
      exact ⟨i, by have := hi.lt; omega, hi.on, hi.rank⟩
    · cases hg : g n with
      | false => rw [cnt_false hg] at h; omega
      | true => rw [cnt_true hg] at h; exact ⟨n, by omega, hg, by omega⟩

/-- The place-th, modulo how many go on, of those that go on; -1, if none does. -/
def pickOf (n : Nat) (g : Nat → Bool) (place : Int) : Int :=
  if cnt g n = 0 then -1 else
  match (List.range n).find? (fun i => g i && cnt g i == (place % (cnt g n : Int)).toNat) with
  | some i => i
  | none => -1

theorem find_range {p : Nat → Bool} {n i : Nat} (hi : i < n) (hp : p i = true) (h : ∀ j, j < i → p j = false) : (List.range n).find? p = some i := by
  rw [List.find?_range_eq_some]
  exact ⟨hp, by simpa using hi, fun j hj => by simp [h j hj]⟩
theorem find_range_none {p : Nat → Bool} {n : Nat} (h : ∀ j, j < n → p j = false) : (List.range n).find? p = none := by
  rw [List.find?_eq_none]
  intro x hx
  simp [h x (by simpa using hx)]

theorem pickOf_none {n : Nat} {g : Nat → Bool} {place : Int} (h : cnt g n = 0) : pickOf n g place = -1 := by simp [pickOf, h]
theorem pickOf_some {n : Nat} {g : Nat → Bool} {place : Int} {k i : Nat} (h0 : cnt g n ≠ 0) (hk : place % (cnt g n : Int) = k) (h : IsPick n g k i) : pickOf n g place = i := by
  have hf := find_range (p := fun i => g i && cnt g i == (place % (cnt g n : Int)).toNat) h.lt (by simp [h.on, h.rank, hk]) (fun j hj => by
    cases hg : g j with
    | false => rfl
    | true =>
      have := cnt_mono g (show j + 1 ≤ i by omega)
      rw [cnt_true hg, h.rank] at this
      simp [hk]; omega)
  simp only [pickOf, h0, if_false, hf]
theorem emod_cnt {c : Nat} (place : Int) (h0 : c ≠ 0) : ∃ k : Nat, place % (c : Int) = k ∧ k < c := by
  have h1 := Int.emod_nonneg place (show (c : Int) ≠ 0 by omega)
  have h2 := Int.emod_lt_of_pos place (show 0 < (c : Int) by omega)
  exact ⟨(place % (c : Int)).toNat, by omega, by omega⟩

/-- The first that goes on behind this one, around the end. -/
def behindOf (n : Nat) (g : Nat → Bool) (hand : Int) : Int :=
  match (List.range n).find? (fun i => g (((hand + 1).toNat + i) % n)) with
  | some i => (((hand + 1).toNat + i) % n : Nat)
  | none => -1

theorem behindOf_some {n : Nat} {g : Nat → Bool} {hand : Int} {i : Nat} (hi : i < n) (hg : g (((hand + 1).toNat + i) % n) = true) (h : ∀ j, j < i → g (((hand + 1).toNat + j) % n) = false) :
    behindOf n g hand = (((hand + 1).toNat + i) % n : Nat) := by
  simp only [behindOf, find_range (p := fun i => g (((hand + 1).toNat + i) % n)) hi hg h]
theorem behindOf_none {n : Nat} {g : Nat → Bool} {hand : Int} (h : ∀ j, j < n → g (((hand + 1).toNat + j) % n) = false) : behindOf n g hand = -1 := by
  simp only [behindOf, find_range_none (p := fun i => g (((hand + 1).toNat + i) % n)) h]

theorem behindOf_first {n : Nat} {g : Nat → Bool} {p : Nat} (h : IsPick n g 0 p) : behindOf n g (-1) = p := by
  have hp := h.lt
  have e : ∀ j, j < n → ((-1 + 1 : Int).toNat + j) % n = j := fun j hj => by simp [Nat.mod_eq_of_lt hj]
  rw [behindOf_some (i := p) hp (by rw [e p hp]; exact h.on) (fun j hj => by
    rw [e j (by omega)]
    cases hg : g j with
    | false => rfl
    | true => have := cnt_mono g (show j + 1 ≤ p by omega); rw [cnt_true hg, h.rank] at this; omega), e p hp]

theorem behindOf_next {n : Nat} {g : Nat → Bool} {j h p : Nat} (hh : IsPick n g j h) (hp : IsPick n g (j + 1) p) : behindOf n g h = p := by
  have l1 := hh.lt
  have l2 := hp.lt
  have lt : h < p := by
    rcases Nat.lt_or_ge h p with l | l
    · exact l
    · have := cnt_mono g l; rw [hh.rank, hp.rank] at this; omega
  have e : ∀ i, h + 1 + i < n → (((h : Int) + 1).toNat + i) % n = h + 1 + i := fun i hi => by
    rw [show ((h : Int) + 1).toNat = h + 1 by omega, Nat.mod_eq_of_lt hi]
  rw [behindOf_some (i := p - h - 1) (by omega) (by rw [e _ (by omega), show h + 1 + (p - h - 1) = p by omega]; exact hp.on) (fun i hi => by
    rw [e i (by omega)]
    cases hg : g (h + 1 + i) with
    | false => rfl
    | true =>
      have a := cnt_mono g (show h + 1 ≤ h + 1 + i by omega)
      have b := cnt_mono g (show h + 1 + i + 1 ≤ p by omega)
      rw [cnt_true hh.on, hh.rank] at a
      rw [cnt_true hg, hp.rank] at b
      omega), e _ (by omega), show h + 1 + (p - h - 1) = p by omega]

/-- Whoever is picked goes on. -/
theorem pickOf_ok {n : Nat} {g : Nat → Bool} (place : Int) : pickOf n g place = -1 ∧ cnt g n = 0 ∨ ∃ i : Nat, pickOf n g place = i ∧ i < n ∧ g i = true := by
  by_cases h0 : cnt g n = 0
  · exact .inl ⟨pickOf_none h0, h0⟩
  · obtain ⟨k, hk, hl⟩ := emod_cnt place h0
    obtain ⟨i, hi⟩ := exists_pick g k n hl
    exact .inr ⟨i, pickOf_some h0 hk hi, hi.lt, hi.on⟩

theorem cnt_zero {g : Nat → Bool} {n : Nat} (h : cnt g n = 0) : ∀ i, i < n → g i = false := by
  intro i hi
  cases hg : g i with
  | false => rfl
  | true => have := cnt_mono g (show i + 1 ≤ n by omega); rw [cnt_true hg] at this; omega
theorem cnt_none {g : Nat → Bool} {n : Nat} (h : ∀ i, i < n → g i = false) : cnt g n = 0 := by
  induction n with
  | zero => rfl
  | succ n ih => rw [cnt_false (h n (by omega)), ih (fun i hi => h i (by omega))]

theorem behindOf_ok {n : Nat} {g : Nat → Bool} (hand : Int) : behindOf n g hand = -1 ∧ cnt g n = 0 ∨ ∃ i : Nat, behindOf n g hand = i ∧ i < n ∧ g i = true := by
  by_cases h : ∃ j, j < n ∧ g (((hand + 1).toNat + j) % n) = true
  · right
    unfold behindOf
    cases hf : (List.range n).find? (fun i => g (((hand + 1).toNat + i) % n)) with
    | none =>
      obtain ⟨j, hj, hg⟩ := h
      rw [List.find?_eq_none] at hf
      exact absurd hg (by simpa using hf j (by simpa using hj))
    | some i =>
      have h1 := List.find?_some hf
      have h2 := List.mem_of_find?_eq_some hf
      have : 0 < n := by have := List.mem_range.1 h2; omega
      exact ⟨_, rfl, Nat.mod_lt _ this, h1⟩
  · left
    have hn : ∀ j, j < n → g (((hand + 1).toNat + j) % n) = false := fun j hj => by
      cases hg : g (((hand + 1).toNat + j) % n) with
      | false => rfl
      | true => exact absurd ⟨j, hj, hg⟩ h
    refine ⟨behindOf_none hn, cnt_none fun i hi => ?_⟩
    -- i is met at j = (i + n - s % n) % n
    have hs : (hand + 1).toNat % n < n := Nat.mod_lt _ (by omega)
    have key : ∃ j, j < n ∧ ((hand + 1).toNat + j) % n = i := by
      generalize hsd : (hand + 1).toNat % n = s at hs
      by_cases hsi : s ≤ i
      · refine ⟨i - s, by omega, ?_⟩
        rw [Nat.add_mod, hsd, Nat.mod_eq_of_lt (show i - s < n by omega), show s + (i - s) = i by omega, Nat.mod_eq_of_lt hi]
      · refine ⟨i + n - s, by omega, ?_⟩
        rw [Nat.add_mod, hsd, Nat.mod_eq_of_lt (show i + n - s < n by omega), show s + (i + n - s) = i + n by omega, Nat.add_mod_right, Nat.mod_eq_of_lt hi]
    obtain ⟨j, hj, rfl⟩ := key
    exact hn j hj
theorem cnt_pos_of {g : Nat → Bool} {n i : Nat} (hi : i < n) (hg : g i = true) : cnt g n ≠ 0 := fun h => by have := cnt_zero h i hi; rw [hg] at this; cases this
end Go.Proofs.Ytgfbohmehhhbeaa

/-
  A region that draws its order, by an invariant over what has been done so far: whatever the order, one case an operation.
-/
namespace Go.Proofs.Ytgfbohmehhhbeaa
open Go.RowKit
set_option linter.unusedVariables false
set_option linter.unusedSimpArgs false

theorem cnt_upd {L : Nat → Bool} {i : Nat} (hi : L i = false) : ∀ n, cnt (fun j => !(upd L i true) j) n + (if i < n then 1 else 0) = cnt (fun j => !L j) n
  | 0 => by simp [cnt]
  | n + 1 => by
    have ih := cnt_upd hi n
    simp only [cnt]
    by_cases h : n = i
    · subst h
      simp only [upd_same, Nat.lt_irrefl, if_false, Nat.add_zero] at ih ⊢
      simp [hi, ih]
    · have hu : upd L i true n = L n := upd_other _ _ h
      have : (i < n + 1) = (i < n) := by apply propext; omega
      simp only [this, hu]
      omega

/-- What has been listed, as a function. -/
def lis (listed : Array Bool) : Nat → Bool := fun i => listed.getD i false

theorem lis_set {listed : Array Bool} {i : Nat} (hi : i < listed.size) : lis (listed.setIfInBounds i true) = upd (lis listed) i true := by
  funext j
  by_cases h : j = i
  · subst h; simp [lis, hi]
  · rw [upd_other _ _ h]
    simp [lis, Array.getElem?_setIfInBounds_ne (Ne.symm h)]

section
variable {P : Program} {ops : Array Oper} {Q : Exit → Act → World → Prop} {md : Region.Mode}

theorem wpAny_inv (hg : ∀ (i : Nat) (o : Oper), ops[i]? = some o → o.guard = none) (hback : ∀ (i : Nat) (o : Oper), ops[i]? = some o → ∀ e ∈ o.after, Region.binds md e = true → e.on < i) (I : (Nat → Bool) → Act → World → Prop)
    (hstep : ∀ (L : Nat → Bool) (a : Act) (w : World) (i : Nat) (o : Oper), I L a w → ops[i]? = some o → L i = false → (∀ e ∈ o.after, Region.binds md e = true → L e.on = true) → o.wp P a w (fun a' w' => I (upd L i true) a' w') Q)
    (hend : ∀ (L : Nat → Bool) (a : Act) (w : World), I L a w → (∀ i, i < ops.size → L i = true) → Q .normal a w) :
    ∀ fuel listed a w, listed.size = ops.size → cnt (fun i => !(lis listed) i) ops.size ≤ fuel → I (lis listed) a w → wpAny P md ops Q fuel listed a w := by
  have none_ready : ∀ listed : Array Bool, listed.size = ops.size → Region.ready md ops listed = [] → ∀ i, i < ops.size → lis listed i = true := by
    intro listed hsz hr i
    induction i using Nat.strongRecOn with
    | ind i ih =>
      intro hi
      cases hl : lis listed i with
      | true => rfl
      | false =>
        exfalso
        have hm : i ∈ Region.ready md ops listed := by
          rw [mem_ready]
          refine ⟨?_, ops[i], by simp [hi], fun e he hb => ?_⟩
          · have hlt : i < listed.size := by omega
            simp only [lis] at hl
            simpa [hlt] using hl
          · have hlt := hback i ops[i] (by simp [hi]) e he hb
            exact ih e.on hlt (by omega)
        rw [hr] at hm
        cases hm
  intro fuel
  induction fuel with
  | zero =>
    intro listed a w hsz hc hI
    have hall : ∀ i, i < ops.size → lis listed i = true := fun i hi => by
      have := cnt_zero (g := fun i => !(lis listed) i) (n := ops.size) (by omega) i hi
      simpa using this
    refine ⟨?_, hend _ a w hI hall⟩
    cases hr : Region.ready md ops listed with
    | nil => rfl
    | cons x xs =>
      exfalso
      have hx : x ∈ Region.ready md ops listed := by rw [hr]; simp
      rw [mem_ready] at hx
      obtain ⟨h0, o, ho, _⟩ := hx
      have hlt : x < ops.size := (Array.getElem?_eq_some_iff.1 ho).1
      have := hall x hlt
      have hlt' : x < listed.size := by omega
      simp [lis, hlt'] at this
      simp [hlt'] at h0
      rw [h0] at this
      cases this
  | succ fuel ih =>
    intro listed a w hsz hc hI
    refine ⟨fun hr => hend _ a w hI (none_ready listed hsz hr), fun i hi => ?_⟩
    rw [mem_ready] at hi
    obtain ⟨h0, o, ho, hdep⟩ := hi
    have hlt : i < ops.size := (Array.getElem?_eq_some_iff.1 ho).1
    have hlt' : i < listed.size := by omega
    have hf : lis listed i = false := by simp [hlt'] at h0; simp [lis, hlt', h0]
    have hs := hstep (lis listed) a w i o hI ho hf hdep
    unfold wpOp
    simp only [ho]
    have hw : Region.wanted o (yielded ops a.tmps) = true := by simp [Region.wanted, hg i o ho]
    rw [if_pos hw]
    left
    refine Oper.wp_mono (fun a' w' h => ?_) hs
    refine ih _ a' w' (by simpa using hsz) ?_ (by rw [lis_set hlt']; exact h)
    rw [lis_set hlt']
    have := cnt_upd hf ops.size
    rw [if_pos hlt] at this
    omega

theorem region_inv {id : Nat} {a : Act} {w : World} (hm : P.follows .mixedOrders = true) (hg : ∀ (i : Nat) (o : Oper), ops[i]? = some o → o.guard = none) (hback : ∀ (i : Nat) (o : Oper), ops[i]? = some o → ∀ e ∈ o.after, Region.binds .any e = true → e.on < i) (I : (Nat → Bool) → Act → World → Prop)
    (hstep : ∀ (L : Nat → Bool) (a : Act) (w : World) (i : Nat) (o : Oper), I L a w → ops[i]? = some o → L i = false → (∀ e ∈ o.after, Region.binds .any e = true → L e.on = true) → o.wp P a w (fun a' w' => I (upd L i true) a' w') Q)
    (hend : ∀ (L : Nat → Bool) (a : Act) (w : World), I L a w → (∀ i, i < ops.size → L i = true) → Q .normal a w)
    (h0 : I (fun _ => false) a { w with drawn := w.drawn + 1 }) : (Code.region id ops true).wp P Q a w := by
  refine wp_region_any hm (wpAny_inv hg hback I hstep hend _ _ a _ (by simp) ?_ ?_)
  · exact cnt_le _ _
  · have : lis (Array.replicate ops.size false) = fun _ => false := by
      funext i
      simp [lis, Array.getElem?_replicate]
      split <;> rfl
    rw [this]
    exact h0
end
end Go.Proofs.Ytgfbohmehhhbeaa

/-
  Who is picked: the program's count, behind and Next, the document's Pick and After, each by its contract.
-/
namespace Go.Proofs.Ytgfbohmehhhbeaa
open Go.RowKit
set_option linter.unusedVariables false
set_option linter.unusedSimpArgs false
set_option maxRecDepth 20000

/-- A slice at ao of n bools, readable below block B: place j is 'g j'. -/
def SeesB (w : World) (B : Nat) (ao : Option Addr) (n : Nat) (g : Nat → Bool) : Prop :=
  ∀ j, j < n → ∃ b off, ao = some ⟨b, off, none⟩ ∧ b < B ∧ w.cell? ⟨b, off + j, none⟩ = some (.bool (g j))
theorem SeesB.below {w w' : World} {B C : Nat} {ao : Option Addr} {n : Nat} {g : Nat → Bool} (h : SeesB w B ao n g) (hb : Below C w w') (hBC : B ≤ C) : SeesB w' B ao n g :=
  fun j hj => by obtain ⟨b, off, e, hl, hc⟩ := h j hj; exact ⟨b, off, e, hl, (hb.cell (p := ⟨b, off + j, none⟩) (by show b < C; omega)).trans hc⟩

theorem count_any {w : World} {B : Nat} {ao : Option Addr} {n cap : Nat} {g : Nat → Bool} (h : SeesB w B ao n g) (hn : n ≤ 9223372036854775807) :
    Calls Try.prog 94 #[.slice ao n cap] w fun e w' => e = .returned (.int .i64 (cnt g n)) ∧ w' = w := by
  have H := hide h
  clear h
  go_enter Try.func94, Try.ntmps94
  go_wp2_with fail
  go_loopw [3, 8] (fun c i wr => ∃ k : Nat, k ≤ n ∧ i = .int .i64 k ∧ c = .int .i64 (cnt g k) ∧ wr = w) (fun _ i _ => n - (intOf i).toNat)
  case atStart => exact ⟨0, Nat.zero_le _, rfl, rfl, rfl⟩
  case round =>
    obtain ⟨k, hk, rfl, rfl, rfl⟩ := hrel
    by_cases hlt : k < n
    · obtain ⟨b, off, rfl, hbl, hcc⟩ := H.out k hlt
      have hkn : (k : Int) < (n : Int) := by omega
      have hcl := cnt_le g k
      cases hg : g k with
      | true =>
        rw [hg] at hcc
        have hct := cnt_true hg
        go_wp2
        go_roundw
        case rel => exact ⟨k + 1, by omega, by go_num, by rw [hct]; go_num, by first | rfl | trivial⟩
        case measure => simp [intOf]; omega
      | false =>
        rw [hg] at hcc
        have hct := cnt_false hg
        go_wp2
        go_roundw
        case rel => exact ⟨k + 1, by omega, by go_num, by rw [hct], by first | rfl | trivial⟩
        case measure => simp [intOf]; omega
    · obtain rfl : k = n := by omega
      go_wp2
      go_ret
      exact ⟨rfl, rfl⟩

theorem tmod_nat (a n : Nat) : Int.tmod (a : Int) (n : Int) = ((a % n : Nat) : Int) := by
  rw [Int.tmod_eq_emod_of_nonneg (by omega)]; omega

theorem behind_any {w : World} {B : Nat} {ao : Option Addr} {n cap : Nat} {g : Nat → Bool} (h : SeesB w B ao n g) (hn : n ≤ 4611686018427387903) (hand : Int) (h1 : -1 ≤ hand) (h2 : hand < n) :
    Calls Try.prog 91 #[.slice ao n cap, .int .i64 hand] w fun e w' => e = .returned (.int .i64 (behindOf n g hand)) ∧ w' = w := by
  have H := hide h
  clear h
  obtain ⟨s, hs⟩ : ∃ s : Nat, hand + 1 = s := ⟨(hand + 1).toNat, by omega⟩
  have hst : (hand + 1).toNat = s := by omega
  go_enter Try.func91, Try.ntmps91
  go_wp2_with fail
  go_loopw [9] (fun i wr => ∃ k : Nat, k ≤ n ∧ i = .int .i64 k ∧ (∀ j, j < k → g ((s + j) % n) = false) ∧ wr = w) (fun i _ => n - (intOf i).toNat)
  case atStart => exact ⟨0, Nat.zero_le _, rfl, fun j hj => by omega, rfl⟩
  case round =>
    obtain ⟨k, hk, rfl, hno, rfl⟩ := hrel
    by_cases hlt : k < n
    · obtain ⟨r, hr⟩ : ∃ r, r = (s + k) % n := ⟨_, rfl⟩
      have hm : r < n := by rw [hr]; exact Nat.mod_lt _ (by omega)
      obtain ⟨b, off, rfl, hbl, hcc⟩ := H.out _ hm
      have hkn : (k : Int) < (n : Int) := by omega
      have hn0 : ¬ (n : Int) = 0 := by omega
      have ha1 : hand + 1 = (s : Int) := hs
      have hmod : ((s : Int) + k) % (n : Int) = (r : Int) := by rw [hr]; simp
      have hrn : (r : Int) < (n : Int) := by omega
      have HR := hide hr
      have HN := hide hno
      clear hr hno
      cases hg : g r with
      | true =>
        rw [hg] at hcc
        go_wp2_with fail
        go_ret
        exact ⟨by rw [behindOf_some hlt (by rw [hst, ← HR.out]; exact hg) (by rw [hst]; exact HN.out), hst, ← HR.out, ← hmod]; rfl, rfl⟩
      | false =>
        rw [hg] at hcc
        go_wp2_with fail
        go_roundw
        case rel => exact ⟨k + 1, by omega, by go_num, fun j hj => by rcases Nat.lt_succ_iff_lt_or_eq.1 hj with h | rfl; exact HN.out j h; rw [← HR.out]; exact hg, by first | rfl | trivial⟩
        case measure => simp [intOf]; omega
    · obtain rfl : k = n := by omega
      go_wp2
      go_ret
      exact ⟨by rw [behindOf_none (by rw [hst]; exact hno)]; rfl, rfl⟩

theorem tmod_emod (p : Int) (c : Nat) (hc : 0 < c) : (Int.tmod p c < 0 ∧ p % (c : Int) = Int.tmod p c + c) ∨ (¬ Int.tmod p c < 0 ∧ p % (c : Int) = Int.tmod p c) := by
  have h := Int.tmod_eq_emod (a := p) (b := c)
  have h1 := Int.emod_nonneg p (show (c : Int) ≠ 0 by omega)
  have h2 := Int.emod_lt_of_pos p (show 0 < (c : Int) by omega)
  have h3 : ((c : Int).natAbs : Int) = c := by omega
  by_cases hp : 0 ≤ p ∨ (c : Int) ∣ p
  · rw [if_pos hp] at h; right; omega
  · rw [if_neg hp] at h
    have : p % (c : Int) ≠ 0 := fun h0 => hp (.inr (Int.dvd_of_emod_eq_zero h0))
    omega

/-- Next. -/
theorem next_any {w : World} {B : Nat} {ao : Option Addr} {n cap : Nat} {g : Nat → Bool} (h : SeesB w B ao n g) (hn : n ≤ 4611686018427387903) (place : Int) :
    Calls Try.prog 90 #[.slice ao n cap, .int .i64 place] w fun e w' => e = .returned (.int .i64 (pickOf n g place)) ∧ w' = w := by
  have hcl := cnt_le g n
  by_cases h0 : cnt g n = 0
  · go_enter Try.func90, Try.ntmps90
    go_wp2_with (go_at_call 94; refine (count_any h (by omega)).mono ?_; rintro e w' ⟨rfl, hw⟩; obtain rfl := hw.symm; rw [h0])
    go_ret
    exact ⟨by rw [pickOf_none h0]; rfl, rfl⟩
  · obtain ⟨k, hk, hkl⟩ := emod_cnt place h0
    obtain ⟨i, hi⟩ := exists_pick g k n hkl
    rw [pickOf_some h0 hk hi]
    obtain ⟨p0, hp0⟩ := exists_pick g 0 n (by omega)
    have e0 := behindOf_first hp0
    have hp0l := hp0.lt
    obtain ⟨c, hc⟩ : ∃ c, c = cnt g n := ⟨_, rfl⟩
    have hc0 : ¬ (c : Int) = 0 := by omega
    have hkc : k < c := by omega
    have ht := tmod_emod place c (by omega)
    rw [hc, hk, ← hc] at ht
    have H := hide h
    have HI := hide hi
    have HP := hide hp0
    have HC := hide hc
    have hcn : c ≤ n := by omega
    clear h hi hp0 hk h0 hkl hcl hc
    obtain ⟨t, htt⟩ : ∃ t, t = Int.tmod place c := ⟨_, rfl⟩
    have key : Calls Try.prog 90 #[.slice ao n cap, .int .i64 place] w fun e w' => e = .returned (.int .i64 i) ∧ w' = w := by
      go_enter Try.func90, Try.ntmps90
      go_wp2_with (first
        | (go_at_call 94; refine (count_any H.out (by omega)).mono ?_; rintro e w' ⟨rfl, hw⟩; obtain rfl := hw.symm; rw [← HC.out])
        | (go_at_call 91; refine (behind_any H.out (by omega) (-1) (by omega) (by omega)).mono ?_; rintro e w' ⟨rfl, hw⟩; obtain rfl := hw.symm; rw [e0]))
      all_goals (first | rw [show place.tmod c + c = (k : Int) by omega] | rw [show place.tmod c = (k : Int) by omega])
      all_goals clear ht htt e0
      all_goals
        go_loopw [7, 23] (fun hd i wr => ∃ j q : Nat, j ≤ k ∧ i = .int .i64 j ∧ hd = .int .i64 q ∧ Hid (IsPick n g j q) ∧ wr = w) (fun _ i _ => k - (intOf i).toNat)
        case atStart => exact ⟨0, p0, Nat.zero_le _, rfl, rfl, HP, rfl⟩
        case round =>
          obtain ⟨j, q, hj, rfl, rfl, HQ, rfl⟩ := hrel
          by_cases hlt : j < k
          · obtain ⟨q', hq'⟩ := exists_pick g (j + 1) n (by have := HC.out; omega)
            have e1 := behindOf_next HQ.out hq'
            have hql := HQ.out.lt
            have hjk : (j : Int) < (k : Int) := by omega
            have HQ' := hide hq'
            clear hq'
            go_wp2_with (go_at_call 91; refine (behind_any H.out (by omega) q (by omega) (by omega)).mono ?_; rintro e w' ⟨rfl, hw⟩; obtain rfl := hw.symm; rw [e1])
            go_roundw
            case rel => exact ⟨j + 1, q', by omega, by go_num, rfl, HQ', by first | rfl | trivial⟩
            case measure => simp [intOf]; omega
          · obtain rfl : j = k := by omega
            have eq := HQ.out.one HI.out
            go_wp2
            go_ret
            exact ⟨by rw [← eq]; rfl, rfl⟩
    exact key

/-- The document's Pick. -/
theorem rpick_any {w : World} {B : Nat} {ao : Option Addr} {n cap : Nat} {g : Nat → Bool} (h : SeesB w B ao n g) (hn : n ≤ 4611686018427387903) (place : Int) :
    Calls Try.prog 65 #[.slice ao n cap, .int .i64 place] w fun e w' => e = .returned (.int .i64 (pickOf n g place)) ∧ w' = w := by
  have H := hide h
  clear h
  obtain ⟨ans, hans⟩ : ∃ a, a = pickOf n g place := ⟨_, rfl⟩
  rw [← hans]
  have HA := hide hans
  clear hans
  go_enter Try.func65, Try.ntmps65
  go_wp2_with fail
  go_loopw [5, 6] (fun c i wr => ∃ k : Nat, k ≤ n ∧ i = .int .i64 k ∧ c = .int .i64 (cnt g k) ∧ wr = w) (fun _ i _ => n - (intOf i).toNat)
  case atStart => exact ⟨0, Nat.zero_le _, rfl, rfl, rfl⟩
  case round =>
    obtain ⟨k, hk, rfl, rfl, rfl⟩ := hrel
    by_cases hlt : k < n
    · obtain ⟨b, off, rfl, hbl, hcc⟩ := H.out k hlt
      have hkn : (k : Int) < (n : Int) := by omega
      have hcl := cnt_le g k
      cases hg : g k with
      | true =>
        rw [hg] at hcc
        have hct := cnt_true hg
        go_wp2
        go_roundw
        case rel => exact ⟨k + 1, by omega, by go_num, by rw [hct]; go_num, by first | rfl | trivial⟩
        case measure => simp [intOf]; omega
      | false =>
        rw [hg] at hcc
        have hct := cnt_false hg
        go_wp2
        go_roundw
        case rel => exact ⟨k + 1, by omega, by go_num, by rw [hct], by first | rfl | trivial⟩
        case measure => simp [intOf]; omega
    · obtain rfl : k = n := by omega
      have hcl := cnt_le g k
      by_cases h0 : cnt g k = 0
      · rw [h0]
        have ea := HA.out.trans (pickOf_none h0)
        clear HA
        go_wp2
        go_ret
        exact ⟨by rw [ea]; rfl, rfl⟩
      · obtain ⟨m, hm, hml⟩ := emod_cnt place h0
        obtain ⟨i, hi⟩ := exists_pick g m k hml
        have ea := HA.out.trans (pickOf_some h0 hm hi)
        clear HA
        subst ea
        obtain ⟨c, hc⟩ : ∃ c, c = cnt g k := ⟨_, rfl⟩
        have hc0 : ¬ (c : Int) = 0 := by omega
        have hkc : m < c := by omega
        have ht := tmod_emod place c (by omega)
        rw [hc, hm, ← hc] at ht
        rw [← hc]
        have HI := hide hi
        have HC := hide hc
        have hcn : c ≤ k := by omega
        clear hi hm h0 hml hcl hc
        go_wp2_with fail
        all_goals (first | rw [show place.tmod c + c = (m : Int) by omega] | rw [show place.tmod c = (m : Int) by omega])
        all_goals clear ht
        all_goals
          go_loopw [7, 8] (fun x i wr' => ∃ j : Nat, j ≤ k ∧ i = .int .i64 j ∧ cnt g j ≤ m ∧ x = .int .i64 ((m - cnt g j : Nat) : Int) ∧ wr' = wr) (fun _ i _ => k - (intOf i).toNat)
          case atStart => exact ⟨0, Nat.zero_le _, rfl, Nat.zero_le _, rfl, rfl⟩
          case round =>
            obtain ⟨j, hj, rfl, hcm, rfl, rfl⟩ := hrel
            by_cases hlt2 : j < k
            · obtain ⟨b, off, rfl, hbl, hcc⟩ := H.out j hlt2
              have hkn : (j : Int) < (k : Int) := by omega
              cases hg : g j with
              | true =>
                rw [hg] at hcc
                have hct := cnt_true hg
                by_cases he : cnt g j = m
                · obtain rfl := IsPick.one ⟨hlt2, hg, he⟩ HI.out
                  rw [show m - cnt g j = 0 by omega]
                  go_wp2
                  go_ret
                  exact ⟨rfl, rfl⟩
                · obtain ⟨x, hx⟩ : ∃ x, x = m - cnt g j := ⟨_, rfl⟩
                  have hx0 : ¬ (x : Int) = 0 := by omega
                  have hxm : x ≤ m := by omega
                  rw [← hx]
                  have HX := hide hx
                  clear hx
                  go_wp2
                  go_roundw
                  case rel => exact ⟨j + 1, by omega, by go_num, by omega, by rw [hct, show m - (cnt g j + 1) = x - 1 by have := HX.out; omega, Int.ofNat_sub (by omega)]; go_num, by first | rfl | trivial⟩
                  case measure => simp [intOf]; omega
              | false =>
                rw [hg] at hcc
                have hct := cnt_false hg
                go_wp2
                go_roundw
                case rel => exact ⟨j + 1, by omega, by go_num, by omega, by rw [hct], by first | rfl | trivial⟩
                case measure => simp [intOf]; omega
            · obtain rfl : j = k := by omega
              have := HC.out
              omega

/-- The document's After. -/
theorem after_any {w : World} {B : Nat} {ao : Option Addr} {n cap : Nat} {g : Nat → Bool} (h : SeesB w B ao n g) (hn : n ≤ 4611686018427387903) (hand : Int) (h1 : -1 ≤ hand) (h2 : hand < n) :
    Calls Try.prog 67 #[.slice ao n cap, .int .i64 hand] w fun e w' => e = .returned (.int .i64 (behindOf n g hand)) ∧ w' = w := by
  have H := hide h
  clear h
  obtain ⟨s, hs⟩ : ∃ s : Nat, hand + 1 = s := ⟨(hand + 1).toNat, by omega⟩
  have hst : (hand + 1).toNat = s := by omega
  go_enter Try.func67, Try.ntmps67
  go_wp2_with fail
  go_loopw [6] (fun i wr => ∃ k : Nat, k ≤ n ∧ i = .int .i64 (k + 1) ∧ (∀ j, j < k → g ((s + j) % n) = false) ∧ wr = w) (fun i _ => n + 1 - (intOf i).toNat)
  case atStart => exact ⟨0, Nat.zero_le _, rfl, fun j hj => by omega, rfl⟩
  case round =>
    obtain ⟨k, hk, rfl, hno, rfl⟩ := hrel
    by_cases hlt : k < n
    · obtain ⟨r, hr⟩ : ∃ r, r = (s + k) % n := ⟨_, rfl⟩
      have hm : r < n := by rw [hr]; exact Nat.mod_lt _ (by omega)
      obtain ⟨b, off, rfl, hbl, hcc⟩ := H.out _ hm
      have hkn : (k : Int) + 1 ≤ (n : Int) := by omega
      have hn0 : ¬ (n : Int) = 0 := by omega
      have ha1 : hand + ((k : Int) + 1) = (s : Int) + k := by omega
      have hmod : ((s : Int) + k) % (n : Int) = (r : Int) := by rw [hr]; simp
      have hrn : (r : Int) < (n : Int) := by omega
      have HR := hide hr
      have HN := hide hno
      clear hr hno
      cases hg : g r with
      | true =>
        rw [hg] at hcc
        go_wp2_with fail
        go_ret
        exact ⟨by rw [behindOf_some hlt (by rw [hst, ← HR.out]; exact hg) (by rw [hst]; exact HN.out), hst, ← HR.out, ← hmod]; rfl, rfl⟩
      | false =>
        rw [hg] at hcc
        go_wp2_with fail
        go_roundw
        case rel => exact ⟨k + 1, by omega, by go_num, fun j hj => by rcases Nat.lt_succ_iff_lt_or_eq.1 hj with h | rfl; exact HN.out j h; rw [← HR.out]; exact hg, by first | rfl | trivial⟩
        case measure => simp [intOf]; omega
    · obtain rfl : k = n := by omega
      go_wp2
      go_ret
      exact ⟨by rw [behindOf_none (by rw [hst]; exact hno)]; rfl, rfl⟩

end Go.Proofs.Ytgfbohmehhhbeaa
