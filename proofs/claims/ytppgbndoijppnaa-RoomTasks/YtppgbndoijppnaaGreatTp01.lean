/-
  Lemmas: Leaf, Mem.
-/
import Derived.Test.YtppgbndoijppnaaGreatRows
import Derived.WalkKit
import Derived.WalkSpells
import Derived.WalkLawsBesides
import Derived.Laws.LoneSync
import Derived.Deep.OwnRows
import Derived.Deep.RegionWith
namespace Go.Proofs.YtppgbndoijppnaaGreat
set_option maxHeartbeats 8000000
open Go.RowKit
set_option linter.unusedVariables false
set_option linter.unusedSimpArgs false
set_option maxRecDepth 20000
section
theorem run_call_swap {P : Program} {f : FuncId} {fn : Func} (hf : P.funcs[f]? = some fn) (hname : (fn.name == "runtime.NumGoroutine") = false) (hb : fn.body.isNone = true) (hn : Extern.findNext fn = none) (k : IntKind)
  (he : Extern.find fn = some (Extern.Atomic.swapT (.int k))) {a : Addr} {x y : Int} {w : World} (hc : w.cell? a = some (.int k x)) (hz : w.frozen? a = false) :
  (callFunc f #[.pointer (some a), .int k y]).run P w = .ok (.value (.int k x)) (w.setCell a (.int k y)) := by
 rw [run_callFunc_extern hf hname hb hn he]
 change (Sem.run P (do
  let a' ← asAddr (.pointer (some a))
  let old ← Extern.Atomic.read (.int k) a'
  store a' (.int k y) .atomic
  pure old) w).andThen _ = _
 simp [Extern.Atomic.read, asAddr, hc, hz, run_store P w a (.int k y) .atomic rfl, Result.andThen]
theorem word_store (b i : Nat) (v : Int) (u : Value) (w : World) (h0 : w.cell? ⟨b, i, none⟩ = some u) (f0 : w.frozen? ⟨b, i, none⟩ = false) :
  Calls Tryz.prog 57 #[.pointer (some ⟨b, i, none⟩), .int .u64 v] w fun e w' => e = .returned (.tuple #[]) ∧ w' = w.setCell ⟨b, i, none⟩ (.int .u64 v) := by
 have hs := run_call_store (P := Tryz.prog) Tryz.func85 (by kernel_rfl) (by kernel_rfl) (by kernel_rfl) (by kernel_rfl) (k := .u64) (y := v) h0 f0
 go_enter Tryz.func57, Tryz.ntmps57
 go_wp2
 go_end0
 exact ⟨rfl, rfl⟩
theorem word_load (b i : Nat) (v : Int) (w : World) (h0 : w.cell? ⟨b, i, none⟩ = some (.int .u64 v)) :
  Calls Tryz.prog 61 #[.pointer (some ⟨b, i, none⟩)] w fun e w' => e = .returned (.int .u64 v) ∧ w' = w := by
 have hs := run_call_load (P := Tryz.prog) Tryz.func92 (by kernel_rfl) (by kernel_rfl) (by kernel_rfl) .u64 (by kernel_rfl) h0
 go_enter Tryz.func61, Tryz.ntmps61
 go_wp2
 go_ret
 exact ⟨rfl, rfl⟩
theorem word_swap (b i : Nat) (x v : Int) (w : World) (h0 : w.cell? ⟨b, i, none⟩ = some (.int .u64 x)) (f0 : w.frozen? ⟨b, i, none⟩ = false) :
  Calls Tryz.prog 131 #[.pointer (some ⟨b, i, none⟩), .int .u64 v] w fun e w' => e = .returned (.int .u64 x) ∧ w' = w.setCell ⟨b, i, none⟩ (.int .u64 v) := by
 have hs := run_call_swap (P := Tryz.prog) Tryz.func141 (by kernel_rfl) (by kernel_rfl) (by kernel_rfl) .u64 (by kernel_rfl) (y := v) h0 f0
 go_enter Tryz.func131, Tryz.ntmps131
 go_wp2
 go_ret
 exact ⟨rfl, rfl⟩
theorem add_u64 (x y : Int) (w : World) : (Op.intArith .add .u64 x y).run Tryz.prog w = .ok (.int .u64 ((x + y) % 18446744073709551616)) w := by
 simp [go_sem, IntKind.wrap]
 intro h; cases h
theorem word_add (b i : Nat) (x v : Int) (w : World) (h0 : w.cell? ⟨b, i, none⟩ = some (.int .u64 x)) (f0 : w.frozen? ⟨b, i, none⟩ = false) :
  Calls Tryz.prog 132 #[.pointer (some ⟨b, i, none⟩), .int .u64 v] w fun e w' => e = .returned (.int .u64 ((x + v) % 18446744073709551616)) ∧ w' = w.setCell ⟨b, i, none⟩ (.int .u64 ((x + v) % 18446744073709551616)) := by
 have hs := run_call_add (P := Tryz.prog) Tryz.func142 (by kernel_rfl) (by kernel_rfl) (by kernel_rfl) .u64 (by kernel_rfl) h0 f0 (add_u64 x v w)
 go_enter Tryz.func132, Tryz.ntmps132
 go_wp2
 go_ret
 exact ⟨rfl, rfl⟩
theorem word_cas (b i : Nat) (x old v : Int) (w : World) (h0 : w.cell? ⟨b, i, none⟩ = some (.int .u64 x)) (f0 : w.frozen? ⟨b, i, none⟩ = false) :
  Calls Tryz.prog 143 #[.pointer (some ⟨b, i, none⟩), .int .u64 old, .int .u64 v] w fun e w' => e = .returned (.bool (decide (x = old))) ∧ w' = if x = old then w.setCell ⟨b, i, none⟩ (.int .u64 v) else w := by
 by_cases h : x = old
 ·subst h
  have hs := run_call_cas_hit (P := Tryz.prog) Tryz.func145 (by kernel_rfl) (by kernel_rfl) (by kernel_rfl) .u64 (by kernel_rfl) (y := v) h0 f0
  go_enter Tryz.func143, Tryz.ntmps143
  go_wp2
  go_ret
  exact ⟨by simp, by simp⟩
 ·have hs := run_call_cas_miss (P := Tryz.prog) Tryz.func145 (by kernel_rfl) (by kernel_rfl) (by kernel_rfl) .u64 (by kernel_rfl) (o := old) (y := v) h0 f0 h
  go_enter Tryz.func143, Tryz.ntmps143
  go_wp2
  go_ret
  exact ⟨by simp, by simp⟩
structure IsMem (w : World) (bm bw n : Nat) (f : Nat → Int) : Prop where
 head : w.rowIs bm 135 1 (fun _ => .slice (some ⟨bw, 0, none⟩) n n)
 row : w.rowIs bw 140 n (fun i => .int .u64 (f i))
 most : n ≤ 4096
 word : ∀ i, i < n → 0 ≤ f i ∧ f i ≤ 18446744073709551615
theorem size_mem {bm bw n : Nat} {f : Nat → Int} {w : World} (hm : IsMem w bm bw n f) :
  Calls Tryz.prog 60 #[.pointer (some ⟨bm, 0, none⟩)] w fun e w' => e = .returned (.int .i64 n) ∧ w' = w := by
 have hc := hm.head.cell (i := 0) (by omega)
 go_enter Tryz.func60, Tryz.ntmps60
 go_wp2
 go_ret
 exact ⟨rfl, rfl⟩
theorem has_mem {bm bw n : Nat} {f : Nat → Int} {w : World} (hm : IsMem w bm bw n f) (at_ : Int) :
  Calls Tryz.prog 130 #[.pointer (some ⟨bm, 0, none⟩), .int .i64 at_] w fun e w' => e = .returned (.bool (decide (0 ≤ at_ ∧ at_ < n))) ∧ w' = w := by
 go_enter Tryz.func130, Tryz.ntmps130
 go_wp2_with (go_at_call 60; refine (size_mem hm).mono ?_; rintro e w' ⟨rfl, rfl⟩)
 all_goals (go_ret; refine ⟨?_, rfl⟩)
 all_goals simp
 all_goals omega
end
section
theorem hide {p : Prop} (h : p) : Hid p := h
structure Stp where
 hand : Int
 act : Int
 at_ : Int
 had : Int
 put : Int
 ok : Bool
instance : Inhabited Stp := ⟨⟨0, 0, 0, 0, 0, false⟩⟩
def Stp.val (s : Stp) : Value := .agg #[.int .i64 s.hand, .int .i64 s.act, .int .i64 s.at_, .int .u64 s.had, .int .u64 s.put, .bool s.ok]
def Stp.cell (s : Stp) (j : Nat) : Value := match j with | 0 => .int .i64 s.hand | 1 => .int .i64 s.act | 2 => .int .i64 s.at_ | 3 => .int .u64 s.had | 4 => .int .u64 s.put | _ => .bool s.ok
def Stp.wf (s : Stp) : Prop := (0 ≤ s.had ∧ s.had ≤ 18446744073709551615) ∧ (0 ≤ s.put ∧ s.put ≤ 18446744073709551615)
def actOf (a : Int) : Int := if a < 1 ∨ 5 < a then 1 else a
def putBy (a had old v : Int) : Int := if a = 2 ∨ a = 3 then v else if a = 4 then (had + v) % 18446744073709551616 else if a = 5 then (if had = old then v else had) else had
def stepOf (n : Nat) (f : Nat → Int) (s : Stp) : Stp :=
 if 0 ≤ s.at_ ∧ s.at_ < n then ⟨s.hand, actOf s.act, s.at_, f s.at_.toNat, putBy (actOf s.act) (f s.at_.toNat) s.had s.put, !(decide (actOf s.act = 5) && decide (f s.at_.toNat ≠ s.had))⟩
 else ⟨s.hand, actOf s.act, s.at_, 0, 0, decide (actOf s.act ≠ 5)⟩
def putF (f : Nat → Int) (k : Nat) (v : Int) : Nat → Int := fun j => if j = k then v else f j
def wordsOf (n : Nat) (f : Nat → Int) (s : Stp) : Nat → Int :=
 if 0 ≤ s.at_ ∧ s.at_ < n then putF f s.at_.toNat (stepOf n f s).put else f
theorem putF_self {f : Nat → Int} (k : Nat) : putF f k (f k) = f := by
 funext j; unfold putF; split
 ·subst_vars; rfl
 ·rfl
theorem grown_refl (w : World) (r : Option Nat) : w.grownBy w r := ⟨rfl, rfl, rfl, Nat.le_refl _, fun _ _ _ => rfl⟩
theorem grown_alloc {w w' : World} {r : Option Nat} (h : w.grownBy w' r) (o : Obj) : w.grownBy (w'.alloc o) r :=
 ⟨h.os, h.tape, h.output, by have := h.size; simp; omega, fun k hk hr => (Below.heap_alloc _ _ _ (Nat.lt_of_lt_of_le hk h.size)).trans (h.block k hk hr)⟩
theorem grown_drew {w w' : World} {r : Option Nat} (h : w.grownBy w' r) : w.grownBy w'.drew r := ⟨h.os, h.tape, h.output, h.size, h.block⟩
theorem grown_setCell {w w' : World} {r : Option Nat} (h : w.grownBy w' r) (a : Addr) (ha : some a.block = r ∨ w.heap.size ≤ a.block) (u : Value) : w.grownBy (w'.setCell a u) r :=
 ⟨h.os, h.tape, h.output, by have := h.size; simp; omega, fun k hk hr => (Below.heap_setCell _ _ _ _ (by rintro rfl; rcases ha with ha | ha; exact hr ha; omega)).trans (h.block k hk hr)⟩
theorem grown_trans {a b c : World} {r : Option Nat} (h : a.grownBy b r) (k : b.grownBy c r) : a.grownBy c r :=
 ⟨k.os.trans h.os, k.tape.trans h.tape, k.output.trans h.output, Nat.le_trans h.size k.size, fun i hi hr => (k.block i (Nat.lt_of_lt_of_le hi h.size) hr).trans (h.block i hi hr)⟩
theorem grown_none {a b : World} (h : a.grownBy b none) (r : Option Nat) : a.grownBy b r := ⟨h.os, h.tape, h.output, h.size, fun i hi _ => h.block i hi (by simp)⟩
theorem below_grown {a b : World} (h : Below a.heap.size a b) (r : Option Nat) : a.grownBy b r := ⟨h.os, h.tape, h.output, h.size, fun k hk _ => h.block k hk⟩
namespace IsMem
variable {w w' : World} {bm bw n : Nat} {f : Nat → Int}
theorem ne (h : IsMem w bm bw n f) : bm ≠ bw := by
 rintro rfl
 obtain ⟨c, h1, _⟩ := h.head
 obtain ⟨c', h2, _⟩ := h.row
 rw [h1] at h2; cases h2
theorem alloc (h : IsMem w bm bw n f) (o : Obj) : IsMem (w.alloc o) bm bw n f := ⟨h.head.alloc o, h.row.alloc o, h.most, h.word⟩
theorem drew (h : IsMem w bm bw n f) : IsMem w.drew bm bw n f := ⟨h.head.drew, h.row.drew, h.most, h.word⟩
theorem set (h : IsMem w bm bw n f) (k : Nat) (v : Int) (hv : 0 ≤ v ∧ v ≤ 18446744073709551615) : IsMem (w.setCell ⟨bw, k, none⟩ (.int .u64 v)) bm bw n (putF f k v) :=
 ⟨h.head.setOther h.ne _, (h.row.set k _).congr (fun i _ => by unfold putF; split <;> rfl), h.most, fun i hi => by unfold putF; split; exact hv; exact h.word i hi⟩
theorem setOther (h : IsMem w bm bw n f) {a : Addr} (h1 : bm ≠ a.block) (h2 : bw ≠ a.block) (v : Value) : IsMem (w.setCell a v) bm bw n f :=
 ⟨h.head.setOther h1 _, h.row.setOther h2 _, h.most, h.word⟩
theorem grown {r : Option Nat} (h : IsMem w bm bw n f) (hg : w.grownBy w' r) (h1 : some bm ≠ r) (h2 : some bw ≠ r) : IsMem w' bm bw n f :=
 ⟨h.head.of_block (hg.block _ h.head.lt h1), h.row.of_block (hg.block _ h.row.lt h2), h.most, h.word⟩
theorem below (h : IsMem w bm bw n f) (hg : Below w.heap.size w w') : IsMem w' bm bw n f :=
 ⟨h.head.of_block (hg.block _ h.head.lt), h.row.of_block (hg.block _ h.row.lt), h.most, h.word⟩
theorem congr {g : Nat → Int} (h : IsMem w bm bw n f) (e : ∀ i, i < n → f i = g i) : IsMem w bm bw n g :=
 ⟨h.head, h.row.congr (fun i hi => by rw [e i hi]), h.most, fun i hi => by rw [← e i hi]; exact h.word i hi⟩
end IsMem
end
end Go.Proofs.YtppgbndoijppnaaGreat
