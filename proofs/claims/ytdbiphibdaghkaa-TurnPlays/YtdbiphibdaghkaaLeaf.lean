/-
  The atomic word's methods and the memory's small ones, each by its contract: what it answers, and what it does to the world.
-/
import Derived.Test.YtdbiphibdaghkaaRows
import Derived.WalkKit
import Derived.WalkSpells
import Derived.WalkLawsBesides
import Derived.Laws.LoneSync
import Derived.Deep.OwnRows
import Derived.Deep.RegionWith
namespace Go.Proofs.Ytdbiphibdaghkaa
open Go.RowKit
set_option linter.unusedVariables false
set_option maxRecDepth 20000

/-- sync/atomic.SwapT: the new number is stored, the old one handed back. -/
theorem run_call_swap {P : Program} {f : FuncId} {fn : Func} (hf : P.funcs[f]? = some fn) (hname : (fn.name == "runtime.NumGoroutine") = false) (hb : fn.body.isNone = true) (hn : Extern.findNext fn = none) (k : IntKind)
    (he : Extern.find fn = some (Extern.Atomic.swapT (.int k))) {a : Addr} {x y : Int} {w : World} (hc : w.cell? a = some (.int k x)) (hz : w.frozen? a = false) :
    (callFunc f #[.pointer (some a), .int k y]).run P w = .ok (.value (.int k x)) (w.setCell a (.int k y)) := by
  rw [run_callFunc_extern hf hname hb hn he]
  change (Sem.run P (do
    let a' ← asAddr (.pointer (some a))
    let old ← Extern.Atomic.read (.int k) a'
    store a' (.int k y) .atomic
    pure old) w).andThen _ = _
  simp [Extern.Atomic.read, asAddr, hc, hz, run_store P w a (.int k y) .atomic rfl, Result.andThen]

theorem word_store (b i : Nat) (v : Int) (u : Value) (w : World) (h0 : w.cell? ⟨b, i, none⟩ = some u) (f0 : w.frozen? ⟨b, i, none⟩ = false) :
    Calls Try.prog 68 #[.pointer (some ⟨b, i, none⟩), .int .u64 v] w fun e w' => e = .returned (.tuple #[]) ∧ w' = w.setCell ⟨b, i, none⟩ (.int .u64 v) := by
  have hs := run_call_store (P := Try.prog) Try.func95 (by kernel_rfl) (by kernel_rfl) (by kernel_rfl) (by kernel_rfl) (k := .u64) (y := v) h0 f0
  go_enter Try.func68, Try.ntmps68
  go_wp2
  go_end0
  exact ⟨rfl, rfl⟩

theorem word_load (b i : Nat) (v : Int) (w : World) (h0 : w.cell? ⟨b, i, none⟩ = some (.int .u64 v)) :
    Calls Try.prog 73 #[.pointer (some ⟨b, i, none⟩)] w fun e w' => e = .returned (.int .u64 v) ∧ w' = w := by
  have hs := run_call_load (P := Try.prog) Try.func96 (by kernel_rfl) (by kernel_rfl) (by kernel_rfl) .u64 (by kernel_rfl) h0
  go_enter Try.func73, Try.ntmps73
  go_wp2
  go_ret
  exact ⟨rfl, rfl⟩

theorem word_swap (b i : Nat) (x v : Int) (w : World) (h0 : w.cell? ⟨b, i, none⟩ = some (.int .u64 x)) (f0 : w.frozen? ⟨b, i, none⟩ = false) :
    Calls Try.prog 125 #[.pointer (some ⟨b, i, none⟩), .int .u64 v] w fun e w' => e = .returned (.int .u64 x) ∧ w' = w.setCell ⟨b, i, none⟩ (.int .u64 v) := by
  have hs := run_call_swap (P := Try.prog) Try.func127 (by kernel_rfl) (by kernel_rfl) (by kernel_rfl) .u64 (by kernel_rfl) (y := v) h0 f0
  go_enter Try.func125, Try.ntmps125
  go_wp2
  go_ret
  exact ⟨rfl, rfl⟩

theorem add_u64 (x y : Int) (w : World) : (Op.intArith .add .u64 x y).run Try.prog w = .ok (.int .u64 ((x + y) % 18446744073709551616)) w := by
  simp [go_sem, IntKind.wrap]
  intro h; cases h

theorem word_add (b i : Nat) (x v : Int) (w : World) (h0 : w.cell? ⟨b, i, none⟩ = some (.int .u64 x)) (f0 : w.frozen? ⟨b, i, none⟩ = false) :
    Calls Try.prog 82 #[.pointer (some ⟨b, i, none⟩), .int .u64 v] w fun e w' => e = .returned (.int .u64 ((x + v) % 18446744073709551616)) ∧ w' = w.setCell ⟨b, i, none⟩ (.int .u64 ((x + v) % 18446744073709551616)) := by
  have hs := run_call_add (P := Try.prog) Try.func98 (by kernel_rfl) (by kernel_rfl) (by kernel_rfl) .u64 (by kernel_rfl) h0 f0 (add_u64 x v w)
  go_enter Try.func82, Try.ntmps82
  go_wp2
  go_ret
  exact ⟨rfl, rfl⟩

theorem word_cas (b i : Nat) (x old v : Int) (w : World) (h0 : w.cell? ⟨b, i, none⟩ = some (.int .u64 x)) (f0 : w.frozen? ⟨b, i, none⟩ = false) :
    Calls Try.prog 89 #[.pointer (some ⟨b, i, none⟩), .int .u64 old, .int .u64 v] w fun e w' => e = .returned (.bool (decide (x = old))) ∧ w' = if x = old then w.setCell ⟨b, i, none⟩ (.int .u64 v) else w := by
  by_cases h : x = old
  · subst h
    have hs := run_call_cas_hit (P := Try.prog) Try.func100 (by kernel_rfl) (by kernel_rfl) (by kernel_rfl) .u64 (by kernel_rfl) (y := v) h0 f0
    go_enter Try.func89, Try.ntmps89
    go_wp2
    go_ret
    exact ⟨by simp, by simp⟩
  · have hs := run_call_cas_miss (P := Try.prog) Try.func100 (by kernel_rfl) (by kernel_rfl) (by kernel_rfl) .u64 (by kernel_rfl) (o := old) (y := v) h0 f0 h
    go_enter Try.func89, Try.ntmps89
    go_wp2
    go_ret
    exact ⟨by simp, by simp⟩

theorem size_nil (w : World) : Calls Try.prog 72 #[.pointer none] w fun e w' => e = .returned (.int .i64 0) ∧ w' = w := by
  go_enter Try.func72, Try.ntmps72
  go_wp2
  go_ret
  exact ⟨rfl, rfl⟩

/-- Block bm is a memory whose words stand in block bw: n words, word i is 'f i'. -/
structure IsMem (w : World) (bm bw n : Nat) (f : Nat → Int) : Prop where
  head : w.rowIs bm 147 1 (fun _ => .slice (some ⟨bw, 0, none⟩) n n)
  row : w.rowIs bw 125 n (fun i => .int .u64 (f i))
  most : n ≤ 4096
  word : ∀ i, i < n → 0 ≤ f i ∧ f i ≤ 18446744073709551615

theorem size_mem {bm bw n : Nat} {f : Nat → Int} {w : World} (hm : IsMem w bm bw n f) :
    Calls Try.prog 72 #[.pointer (some ⟨bm, 0, none⟩)] w fun e w' => e = .returned (.int .i64 n) ∧ w' = w := by
  have hc := hm.head.cell (i := 0) (by omega)
  go_enter Try.func72, Try.ntmps72
  go_wp2
  go_ret
  exact ⟨rfl, rfl⟩

theorem has_mem {bm bw n : Nat} {f : Nat → Int} {w : World} (hm : IsMem w bm bw n f) (at_ : Int) :
    Calls Try.prog 124 #[.pointer (some ⟨bm, 0, none⟩), .int .i64 at_] w fun e w' => e = .returned (.bool (decide (0 ≤ at_ ∧ at_ < n))) ∧ w' = w := by
  go_enter Try.func124, Try.ntmps124
  go_wp2_with (go_at_call 72; refine (size_mem hm).mono ?_; rintro e w' ⟨rfl, rfl⟩)
  all_goals (go_ret; refine ⟨?_, rfl⟩)
  all_goals simp
  all_goals omega
end Go.Proofs.Ytdbiphibdaghkaa
