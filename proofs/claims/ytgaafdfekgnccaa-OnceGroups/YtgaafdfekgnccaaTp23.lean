/-
  Lemmas: OgA, OgB, OgC, OgD, OgE, OgF.
-/
import Derived.Test.YtgaafdfekgnccaaRows
import Derived.Tactics
import Derived.Tactics2
import Derived.Defers
import Derived.Recover
import Derived.Laws.Pointers
import Derived.Laws.Build
import Derived.Laws.LoneSync
import Derived.Laws.NewBlocks
import Derived.RegionTactic
import Derived.RegionCalls
import Derived.BigQuiet
import Derived.ChangeAlike
import Derived.Test.YtgaafdfekgnccaaTp03
import Derived.Test.YtgaafdfekgnccaaTp05
/-
  sync.Once's parts (the marks of the race detector, the word 'done', the lock that is free), each a contract of its own; and the action that a call hands on: it counts that it was called and that it has ended, and panics where it shall.
-/
namespace Go.Proofs.Ytgaafdfekgnccaa
namespace Og
open Go.RowKit
set_option linter.unusedVariables false
set_option linter.unusedSimpArgs false

theorem disable (w : World) : (callFunc 49 #[]).run Try.prog w = .ok (.value (.tuple #[])) w := run_call_mark0 Try.func49 (by kernel_rfl) (by kernel_rfl) (by kernel_rfl) .disable (by kernel_rfl) w
theorem enable (w : World) : (callFunc 51 #[]).run Try.prog w = .ok (.value (.tuple #[])) w := run_call_mark0 Try.func51 (by kernel_rfl) (by kernel_rfl) (by kernel_rfl) .enable (by kernel_rfl) w
theorem acquire (a : Addr) (w : World) : (callFunc 52 #[.pointer (some a)]).run Try.prog w = .ok (.value (.tuple #[])) w := run_call_marked Try.func52 (by kernel_rfl) (by kernel_rfl) (by kernel_rfl) .acquire (by kernel_rfl) a w
theorem releaseMerge (a : Addr) (w : World) : (callFunc 54 #[.pointer (some a)]).run Try.prog w = .ok (.value (.tuple #[])) w := run_call_marked Try.func54 (by kernel_rfl) (by kernel_rfl) (by kernel_rfl) .releaseMerge (by kernel_rfl) a w

set_option maxRecDepth 100000 in
set_option maxHeartbeats 1600000 in
/-- 'Store(true)' of an atomic Bool, entered as a deferred call. -/
theorem store_deferred (a : Addr) (x : Value) (u : FrameMode) (w : World) (hc : w.cell? a = some x) (hz : w.frozen? a = false) :
    CallsD Try.prog 27 #[.pointer (some a), .bool true] u w fun e u' w' => u' = u ∧ (e = .returned (.tuple #[]) ∧ w' = w.drew.setCell a (.int .u32 1)) := by
  have hc' : w.drew.cell? a = some x := by go_simp
  have hz' : w.drew.frozen? a = false := by go_simp
  have hst := run_call_store (P := Try.prog) Try.func39 (by kernel_rfl) (by kernel_rfl) (by kernel_rfl) (by kernel_rfl) (k := .u32) (y := 1) hc' hz'
  go_enter_d Try.func27, Try.ntmps27
  go_wp2
  go_region_calls
  all_goals (go_end0; exact ⟨rfl, rfl⟩)

set_option maxRecDepth 100000 in
set_option maxHeartbeats 1600000 in
/-- 'Unlock', entered as a deferred call, the lock held and nobody waiting. -/
theorem unlock_deferred (a : Addr) (u : FrameMode) (w : World) (hc : w.cell? a = some (.int .i32 1)) (hz : w.frozen? a = false) :
    CallsD Try.prog 26 #[.pointer (some a)] u w fun e u' w' => u' = u ∧ (e = .returned (.tuple #[]) ∧ w' = w.setCell a (.int .i32 0)) := by
  have hd := disable
  have he := enable
  have hr := releaseMerge
  have hadd := run_call_add (P := Try.prog) Try.func55 (by kernel_rfl) (by kernel_rfl) (by kernel_rfl) .i32 (by kernel_rfl) (y := -1) (s := 0) hc hz (by simp [go_sem]; rfl)
  have hcv := run_convert_to_unsafe (P := Try.prog) (src := 129) (dst := 133) Try.underlying129 Try.underlying133 (by kernel_rfl) hc
  go_enter_d Try.func26, Try.ntmps26
  go_wp2
  go_end0
  go_wp2
  go_end0
  exact ⟨rfl, rfl⟩

set_option maxRecDepth 100000 in
set_option maxHeartbeats 1600000 in
/-- 'Lock', the lock free. -/
theorem lock_free (a : Addr) (w : World) (hc : w.cell? a = some (.int .i32 0)) (hz : w.frozen? a = false) :
    Calls Try.prog 25 #[.pointer (some a)] w fun e w' => e = .returned (.tuple #[]) ∧ w' = w.setCell a (.int .i32 1) := by
  have hd := disable
  have he := enable
  have ha := acquire
  have hcas := run_call_cas_hit (P := Try.prog) Try.func50 (by kernel_rfl) (by kernel_rfl) (by kernel_rfl) .i32 (by kernel_rfl) (y := 1) hc hz
  have hc' : (w.setCell a (.int .i32 1)).cell? a = some (.int .i32 1) := World.cell?_setCell_same w a _ hc
  have hcv := run_convert_to_unsafe (P := Try.prog) (src := 129) (dst := 133) Try.underlying129 Try.underlying133 (by kernel_rfl) hc'
  go_enter Try.func25, Try.ntmps25
  go_wp2
  first | go_end0 | (simp only [Exit.inBlock, Exit.then]; refine bodyPost_ret (results_none rfl _ _ _) rfl ?_) | refine bodyPost_ret (results_none rfl _ _ _) rfl ?_
  go_wp2
  go_end0
  exact ⟨rfl, rfl⟩

set_option maxRecDepth 100000 in
set_option maxHeartbeats 1600000 in
/-- The word 'done', read. -/
theorem done_load (a : Addr) (d : Int) (w : World) (h0 : w.cell? a = some (.int .u32 d)) :
    Calls Try.prog 18 #[.pointer (some a)] w fun e w' => e = .returned (.bool (d != 0)) ∧ w' = w := by
  have hl := run_call_load (P := Try.prog) Try.func24 (by kernel_rfl) (by kernel_rfl) (by kernel_rfl) .u32 (by kernel_rfl) h0
  go_enter Try.func18, Try.ntmps18
  go_wp2
  go_ret
  exact ⟨rfl, rfl⟩

/-- What 'panic("fallen")' leaves. -/
def fell : List PanicEntry := [{ v := .iface 9 (.string ⟨#[102, 97, 108, 108, 101, 110]⟩), recovered := false }]

/-- How the action ends. -/
def ending : Bool → Ending
  | true => .panicked fell
  | false => .returned (.tuple #[])

/-- What the action reads and writes: its four captured variables, and the two counts, still 0. -/
structure Act (w : World) (cp kp ep fp : Addr) (gc ge k n : Nat) (fl : Bool) : Prop where
  c : w.cell? cp = some (.slice (some ⟨gc, 0, none⟩) n n)
  key : w.cell? kp = some (.int .i64 k)
  e : w.cell? ep = some (.slice (some ⟨ge, 0, none⟩) n n)
  fl : w.cell? fp = some (.bool fl)
  c0 : w.cell? ⟨gc, k, none⟩ = some (.int .i64 0)
  e0 : w.cell? ⟨ge, k, none⟩ = some (.int .i64 0)
  cz : w.frozen? ⟨gc, k, none⟩ = false
  ez : w.frozen? ⟨ge, k, none⟩ = false
  lt : k < n
  ne : gc ≠ ge
  cpc : cp.block ≠ gc
  cpe : cp.block ≠ ge
  kpc : kp.block ≠ gc
  kpe : kp.block ≠ ge
  epc : ep.block ≠ gc
  epe : ep.block ≠ ge
  fpc : fp.block ≠ gc
  fpe : fp.block ≠ ge

/-- What it leaves. -/
def acted (w : World) (gc ge k : Nat) : World := (w.setCell ⟨gc, k, none⟩ (.int .i64 1)).setCell ⟨ge, k, none⟩ (.int .i64 1)

namespace Act
variable {w w' : World} {cp kp ep fp : Addr} {gc ge k n : Nat} {fl : Bool}
/-- It hangs on these six cells alone. -/
theorem of (h : Act w cp kp ep fp gc ge k n fl) (hs : ∀ a x, w.cell? a = some x → (a = cp ∨ a = kp ∨ a = ep ∨ a = fp ∨ a = ⟨gc, k, none⟩ ∨ a = ⟨ge, k, none⟩) → w'.cell? a = some x)
    (hz : ∀ a, w.frozen? a = false → (a = ⟨gc, k, none⟩ ∨ a = ⟨ge, k, none⟩) → w'.frozen? a = false) : Act w' cp kp ep fp gc ge k n fl :=
  ⟨hs _ _ h.c (.inl rfl), hs _ _ h.key (.inr (.inl rfl)), hs _ _ h.e (.inr (.inr (.inl rfl))), hs _ _ h.fl (.inr (.inr (.inr (.inl rfl)))), hs _ _ h.c0 (.inr (.inr (.inr (.inr (.inl rfl))))), hs _ _ h.e0 (.inr (.inr (.inr (.inr (.inr rfl))))),
    hz _ h.cz (.inl rfl), hz _ h.ez (.inr rfl), h.lt, h.ne, h.cpc, h.cpe, h.kpc, h.kpe, h.epc, h.epe, h.fpc, h.fpe⟩
/-- A cell of another block was written. -/
theorem set (h : Act w cp kp ep fp gc ge k n fl) (a : Addr) (v : Value) (h1 : a.block ≠ cp.block) (h2 : a.block ≠ kp.block) (h3 : a.block ≠ ep.block) (h4 : a.block ≠ fp.block) (h5 : a.block ≠ gc) (h6 : a.block ≠ ge) :
    Act (w.setCell a v) cp kp ep fp gc ge k n fl := by
  refine h.of (fun b x hb hc => ?_) (fun b hb hc => by rw [World.frozen?_setCell]; exact hb)
  refine (World.cell?_setCell_other _ a b _ (fun e => ?_)).trans hb
  rcases hc with rfl | rfl | rfl | rfl | rfl | rfl
  · exact h1 (congrArg Addr.block e)
  · exact h2 (congrArg Addr.block e)
  · exact h3 (congrArg Addr.block e)
  · exact h4 (congrArg Addr.block e)
  · exact h5 (congrArg Addr.block e)
  · exact h6 (congrArg Addr.block e)
end Act

set_option maxRecDepth 100000 in
set_option maxHeartbeats 1600000 in
/-- The action. -/
theorem act_any {w : World} {cp kp ep fp : Addr} {gc ge k n : Nat} {fl : Bool} (h : Act w cp kp ep fp gc ge k n fl) (hn : n ≤ 64) :
    Calls Try.prog 9 #[.pointer (some cp), .pointer (some kp), .pointer (some ep), .pointer (some fp)] w fun e w' => e = ending fl ∧ w' = acted w gc ge k := by
  have hc := h.c; have hk := h.key; have he := h.e; have hf := h.fl; have h0 := h.c0; have h1 := h.e0; have z0 := h.cz; have z1 := h.ez; have hlt := h.lt
  have m1 : (w.setCell ⟨gc, k, none⟩ (.int .i64 1)).cell? ep = some (.slice (some ⟨ge, 0, none⟩) n n) := (World.cell?_setCell_other _ ⟨gc, k, none⟩ ep _ (fun e => h.epc (congrArg Addr.block e).symm)).trans he
  have m2 : (w.setCell ⟨gc, k, none⟩ (.int .i64 1)).cell? kp = some (.int .i64 k) := (World.cell?_setCell_other _ ⟨gc, k, none⟩ kp _ (fun e => h.kpc (congrArg Addr.block e).symm)).trans hk
  have m3 : (w.setCell ⟨gc, k, none⟩ (.int .i64 1)).cell? ⟨ge, k, none⟩ = some (.int .i64 0) := (World.cell?_setCell_other _ ⟨gc, k, none⟩ ⟨ge, k, none⟩ _ (fun e => h.ne (congrArg Addr.block e))).trans h1
  have m4 : (acted w gc ge k).cell? fp = some (.bool fl) := ((World.cell?_setCell_other _ ⟨ge, k, none⟩ fp _ (fun e => h.fpe (congrArg Addr.block e).symm)).trans ((World.cell?_setCell_other _ ⟨gc, k, none⟩ fp _ (fun e => h.fpc (congrArg Addr.block e).symm)).trans hf))
  unfold acted at m4
  have hmi : ∀ (x : Value) (w : World), (Instr.makeInterface 9 x).run Try.prog w = .ok (.iface 9 x) w := fun x w => run_makeInterface w 9 x (by kernel_rfl)
  cases fl
  · go_enter Try.func9, Try.ntmps9
    go_wp2
    go_end0
    exact ⟨rfl, rfl⟩
  · go_enter Try.func9, Try.ntmps9
    go_wp2
    exact ⟨rfl, rfl, rfl⟩
end Og
end Go.Proofs.Ytgaafdfekgnccaa

/-
  A key's sync.Once, not yet done, goes by its slow road: the lock is taken, the group's own function notes 'first' and calls the action; then, whether the action came back or panicked, the two deferred calls: 'done' is stored, the lock is let go.
-/
namespace Go.Proofs.Ytgaafdfekgnccaa
namespace Og
open Go.RowKit
set_option linter.unusedVariables false
set_option linter.unusedSimpArgs false

/-- The blocks that must not be one: the keys' block, the variable 'first', the box of the action, and the action's own. -/
structure Apart (b : Nat) (pF pB cp kp ep fp : Addr) (gc ge : Nat) : Prop where
  b1 : b ≠ cp.block
  b2 : b ≠ kp.block
  b3 : b ≠ ep.block
  b4 : b ≠ fp.block
  b5 : b ≠ gc
  b6 : b ≠ ge
  b7 : b ≠ pF.block
  b8 : b ≠ pB.block
  f1 : pF.block ≠ cp.block
  f2 : pF.block ≠ kp.block
  f3 : pF.block ≠ ep.block
  f4 : pF.block ≠ fp.block
  f5 : pF.block ≠ gc
  f6 : pF.block ≠ ge
  f7 : pF.block ≠ pB.block

theorem other {w : World} {p q : Addr} {x v : Value} (h : p.block ≠ q.block) (hq : w.cell? q = some x) : (w.setCell p v).cell? q = some x :=
  (World.cell?_setCell_other _ p q _ (fun e => h (congrArg Addr.block e))).trans hq

/-- The action as a value. -/
def actv (cp kp ep fp : Addr) : Value := .func (.func 9) #[] #[.pointer (some cp), .pointer (some kp), .pointer (some ep), .pointer (some fp)]

set_option maxRecDepth 100000 in
set_option maxHeartbeats 1600000 in
theorem inner_any {w : World} {b : Nat} {pF pB cp kp ep fp : Addr} {gc ge k n : Nat} {fl : Bool} (ap : Apart b pF pB cp kp ep fp gc ge) (h : Act w cp kp ep fp gc ge k n fl) (hn : n ≤ 64)
    (hF : w.cell? pF = some (.bool false)) (zF : w.frozen? pF = false) (hB : w.cell? pB = some (actv cp kp ep fp)) :
    Calls Try.prog 13 #[.pointer (some pF), .pointer (some pB)] w fun e w' => e = ending fl ∧ w' = acted (w.setCell pF (.bool true)) gc ge k := by
  have h' := h.set pF (.bool true) ap.f1 ap.f2 ap.f3 ap.f4 ap.f5 ap.f6
  have hB' : (w.setCell pF (.bool true)).cell? pB = some (actv cp kp ep fp) := other ap.f7 hB
  have A := act_any h' hn
  unfold actv at hB'
  cases fl
  · go_enter Try.func13, Try.ntmps13
    go_wp2_with (go_at_call 9; refine A.mono ?_; rintro e w' ⟨rfl, rfl⟩; simp only [ending])
    go_end0
    exact ⟨rfl, rfl⟩
  · go_enter Try.func13, Try.ntmps13
    go_wp2_with (go_at_call 9; refine A.mono ?_; rintro e w' ⟨rfl, rfl⟩; simp only [ending])
    exact ⟨rfl, rfl, rfl⟩

/-- What the slow road leaves. -/
def slowed (w : World) (b off : Nat) (pF : Addr) (gc ge k : Nat) : World :=
  ((acted ((w.setCell ⟨b, off + 1, none⟩ (.int .i32 1)).setCell pF (.bool true)) gc ge k).drew.setCell ⟨b, off, none⟩ (.int .u32 1)).setCell ⟨b, off + 1, none⟩ (.int .i32 0)

theorem acted_other {w : World} {gc ge k : Nat} {q : Addr} {x : Value} (h1 : gc ≠ q.block) (h2 : ge ≠ q.block) (hq : w.cell? q = some x) : (acted w gc ge k).cell? q = some x :=
  other (p := ⟨ge, k, none⟩) h2 (other (p := ⟨gc, k, none⟩) h1 hq)
theorem acted_frozen (w : World) (gc ge k : Nat) (q : Addr) : (acted w gc ge k).frozen? q = w.frozen? q := by
  unfold acted
  rw [World.frozen?_setCell, World.frozen?_setCell]

set_option maxRecDepth 100000 in
set_option maxHeartbeats 1600000 in
theorem slow_any {w : World} {b off : Nat} {pF pB cp kp ep fp : Addr} {gc ge k n : Nat} {fl : Bool} (ap : Apart b pF pB cp kp ep fp gc ge) (h : Act w cp kp ep fp gc ge k n fl) (hn : n ≤ 64)
    (hF : w.cell? pF = some (.bool false)) (zF : w.frozen? pF = false) (hB : w.cell? pB = some (actv cp kp ep fp))
    (h0 : w.cell? ⟨b, off, none⟩ = some (.int .u32 0)) (h1 : w.cell? ⟨b, off + 1, none⟩ = some (.int .i32 0)) (f0 : w.frozen? ⟨b, off, none⟩ = false) (f1 : w.frozen? ⟨b, off + 1, none⟩ = false) :
    Calls Try.prog 19 #[.pointer (some ⟨b, off, none⟩), .func (.func 13) #[] #[.pointer (some pF), .pointer (some pB)]] w fun e w' => e = ending fl ∧ w' = slowed w b off pF gc ge k := by
  have D := done_load ⟨b, off, none⟩ 0 (w.setCell ⟨b, off + 1, none⟩ (.int .i32 1)) ((World.cell?_setCell_other _ ⟨b, off + 1, none⟩ ⟨b, off, none⟩ _ (by simp)).trans h0)
  have hA := h.set ⟨b, off + 1, none⟩ (.int .i32 1) ap.b1 ap.b2 ap.b3 ap.b4 ap.b5 ap.b6
  have I := inner_any ap hA hn (other ap.b7 hF) (by rw [World.frozen?_setCell]; exact zF) (other ap.b8 hB)
  have e0 : ((acted ((w.setCell ⟨b, off + 1, none⟩ (.int .i32 1)).setCell pF (.bool true)) gc ge k)).cell? ⟨b, off, none⟩ = some (.int .u32 0) :=
    acted_other (fun e => ap.b5 e.symm) (fun e => ap.b6 e.symm) (other (q := ⟨b, off, none⟩) (fun e => ap.b7 e.symm) ((World.cell?_setCell_other _ ⟨b, off + 1, none⟩ ⟨b, off, none⟩ _ (by simp)).trans h0))
  have e1 : ((acted ((w.setCell ⟨b, off + 1, none⟩ (.int .i32 1)).setCell pF (.bool true)) gc ge k)).cell? ⟨b, off + 1, none⟩ = some (.int .i32 1) :=
    acted_other (fun e => ap.b5 e.symm) (fun e => ap.b6 e.symm) (other (q := ⟨b, off + 1, none⟩) (fun e => ap.b7 e.symm) (World.cell?_setCell_same w _ _ h1))
  have z0 : ((acted ((w.setCell ⟨b, off + 1, none⟩ (.int .i32 1)).setCell pF (.bool true)) gc ge k)).frozen? ⟨b, off, none⟩ = false := by
    rw [acted_frozen, World.frozen?_setCell, World.frozen?_setCell]; exact f0
  have z1 : ((acted ((w.setCell ⟨b, off + 1, none⟩ (.int .i32 1)).setCell pF (.bool true)) gc ge k)).frozen? ⟨b, off + 1, none⟩ = false := by
    rw [acted_frozen, World.frozen?_setCell, World.frozen?_setCell]; exact f1
  have hnot : ∀ (x : Bool) (w : World), (Op.unary .not (.bool x)).run Try.prog w = .ok (.bool (!x)) w := fun _ _ => rfl
  have L := lock_free ⟨b, off + 1, none⟩ w h1 f1
  generalize hW : acted ((w.setCell ⟨b, off + 1, none⟩ (.int .i32 1)).setCell pF (.bool true)) gc ge k = W at I e0 e1 z0 z1
  have e1' : (W.drew.setCell ⟨b, off, none⟩ (.int .u32 1)).cell? ⟨b, off + 1, none⟩ = some (.int .i32 1) := by
    refine (World.cell?_setCell_other _ ⟨b, off, none⟩ ⟨b, off + 1, none⟩ _ (by simp)).trans ?_
    rw [World.cell?_drew]
    exact e1
  unfold slowed
  rw [hW]
  cases fl
  · go_enter_defers Try.func19, Try.ntmps19
    go_wp2_with (first | (go_at_call 25; refine L.mono ?_; rintro e w' ⟨rfl, rfl⟩) | (go_at_call 18; refine D.mono ?_; rintro e w' ⟨rfl, rfl⟩) | (go_at_call 13; refine I.mono ?_; rintro e w' ⟨rfl, rfl⟩; simp only [ending]))
    simp only [bodyPostD]
    refine leaves_cons (f := 27) (args := #[.pointer (some ⟨b, off, none⟩), .bool true]) (by simp) (by simp [go_sem]) ?_
    refine (store_deferred ⟨b, off, none⟩ (.int .u32 0) .returning _ e0 z0).mono ?_
    rintro e u' w'' ⟨rfl, rfl, rfl⟩
    refine leaves_cons (f := 26) (args := #[.pointer (some ⟨b, off + 1, none⟩)]) (by simp [settle, fell]) (by simp [go_sem]) ?_
    refine (unlock_deferred ⟨b, off + 1, none⟩ _ _ e1' (by rw [World.frozen?_setCell, World.frozen?_drew]; exact z1)).mono ?_
    rintro e u' w'' ⟨rfl, rfl, rfl⟩
    simp [Leaves, settle, results, Try.results19, ending, fell]
  · go_enter_defers Try.func19, Try.ntmps19
    go_wp2_with (first | (go_at_call 25; refine L.mono ?_; rintro e w' ⟨rfl, rfl⟩) | (go_at_call 18; refine D.mono ?_; rintro e w' ⟨rfl, rfl⟩) | (go_at_call 13; refine I.mono ?_; rintro e w' ⟨rfl, rfl⟩; simp only [ending]))
    simp only [bodyPostD]
    refine leaves_cons (f := 27) (args := #[.pointer (some ⟨b, off, none⟩), .bool true]) (by simp) (by simp [go_sem]) ?_
    refine (store_deferred ⟨b, off, none⟩ (.int .u32 0) (.panicking fell) _ e0 z0).mono ?_
    rintro e u' w'' ⟨rfl, rfl, rfl⟩
    refine leaves_cons (f := 26) (args := #[.pointer (some ⟨b, off + 1, none⟩)]) (by simp [settle, fell]) (by simp [go_sem]) ?_
    refine (unlock_deferred ⟨b, off + 1, none⟩ _ _ e1' (by rw [World.frozen?_setCell, World.frozen?_drew]; exact z1)).mono ?_
    rintro e u' w'' ⟨rfl, rfl, rfl⟩
    simp [Leaves, settle, results, Try.results19, ending, fell]
end Og
end Go.Proofs.Ytgaafdfekgnccaa

/-
  A key's sync.Once as a whole, and the group's Do: what it refuses, a key that is done, a key that is not.
-/
namespace Go.Proofs.Ytgaafdfekgnccaa
namespace Og
open Go.RowKit
set_option linter.unusedVariables false
set_option linter.unusedSimpArgs false

set_option maxRecDepth 100000 in
set_option maxHeartbeats 1600000 in
theorem once_first {w : World} {b off : Nat} {pF pB cp kp ep fp : Addr} {gc ge k n : Nat} {fl : Bool} (ap : Apart b pF pB cp kp ep fp gc ge) (h : Act w cp kp ep fp gc ge k n fl) (hn : n ≤ 64)
    (hF : w.cell? pF = some (.bool false)) (zF : w.frozen? pF = false) (hB : w.cell? pB = some (actv cp kp ep fp))
    (h0 : w.cell? ⟨b, off, none⟩ = some (.int .u32 0)) (h1 : w.cell? ⟨b, off + 1, none⟩ = some (.int .i32 0)) (f0 : w.frozen? ⟨b, off, none⟩ = false) (f1 : w.frozen? ⟨b, off + 1, none⟩ = false) :
    Calls Try.prog 12 #[.pointer (some ⟨b, off, none⟩), .func (.func 13) #[] #[.pointer (some pF), .pointer (some pB)]] w fun e w' => e = ending fl ∧ w' = slowed w b off pF gc ge k := by
  have S := slow_any ap h hn hF zF hB h0 h1 f0 f1
  have D := done_load ⟨b, off, none⟩ 0 w h0
  cases fl
  · go_enter Try.func12, Try.ntmps12
    go_wp2_with (first | (go_at_call 18; refine D.mono ?_; rintro e w' ⟨rfl, rfl⟩) | (go_at_call 19; refine S.mono ?_; rintro e w' ⟨rfl, rfl⟩; simp only [ending]))
    go_end0
    exact ⟨rfl, rfl⟩
  · go_enter Try.func12, Try.ntmps12
    go_wp2_with (first | (go_at_call 18; refine D.mono ?_; rintro e w' ⟨rfl, rfl⟩) | (go_at_call 19; refine S.mono ?_; rintro e w' ⟨rfl, rfl⟩; simp only [ending]))
    exact ⟨rfl, rfl, rfl⟩

theorem once_done {w : World} {b off : Nat} (d : Int) (hd : d ≠ 0) (fv : Value) (h0 : w.cell? ⟨b, off, none⟩ = some (.int .u32 d)) :
    Calls Try.prog 12 #[.pointer (some ⟨b, off, none⟩), fv] w fun e w' => e = .returned (.tuple #[]) ∧ w' = w := by
  have D := done_load ⟨b, off, none⟩ d w h0
  have hd' : (d != 0) = true := by simp [hd]
  rw [hd'] at D
  go_enter Try.func12, Try.ntmps12
  go_wp2_with (go_at_call 18; refine D.mono ?_; rintro e w' ⟨rfl, rfl⟩)
  go_end0
  exact ⟨rfl, rfl⟩

theorem nil_nil (w : World) : (binOp .eql 1 .nilFunc .nilFunc).run Try.prog w = .ok (.bool true) w := by kernel_rfl
theorem func_nil (fn : Fn) (fi ca : Array Value) (w : World) : (binOp .eql 1 (.func fn fi ca) .nilFunc).run Try.prog w = .ok (.bool false) w := by kernel_rfl

set_option maxRecDepth 100000 in
/-- What is refused: no group. -/
theorem do_none (key : Int) (fn : Fn) (fi ca : Array Value) (w : World) :
    Calls Try.prog 5 #[.pointer none, .int .i64 key, .func fn fi ca] w fun e w' => e = .returned (.tuple #[.bool false, .int .i64 2]) ∧ Below w.heap.size w w' := by
  go_enter Try.func5, Try.ntmps5
  go_wp2
  refine bodyPost_ret (v := .tuple #[.bool false, .int .i64 2]) (by simp [results, Try.results5, go_sem]) rfl ⟨rfl, (Below.refl _ w).alloc (Nat.le_refl _) _⟩

set_option maxRecDepth 100000 in
theorem do_nilf (key : Int) (a : Addr) (w : World) :
    Calls Try.prog 5 #[.pointer (some a), .int .i64 key, .nilFunc] w fun e w' => e = .returned (.tuple #[.bool false, .int .i64 2]) ∧ Below w.heap.size w w' := by
  have hnn := nil_nil
  have hl : (w.alloc (.cells #[.nilFunc] 1)).cell? ⟨w.heap.size, 0, none⟩ = some .nilFunc := by simp
  go_enter Try.func5, Try.ntmps5
  go_wp2
  refine bodyPost_ret (v := .tuple #[.bool false, .int .i64 2]) (by simp [results, Try.results5, go_sem]) rfl ⟨rfl, (Below.refl _ w).alloc (Nat.le_refl _) _⟩

set_option maxRecDepth 100000 in
set_option maxHeartbeats 1600000 in
theorem do_wrong (key : Int) (gb b n : Nat) (hn : n ≤ 64) (fn : Fn) (fi ca : Array Value) (w : World) (hg : w.cell? ⟨gb, 0, none⟩ = some (.slice (some ⟨b, 0, none⟩) n n)) (hb : gb < w.heap.size) (hk : ¬ (0 ≤ key ∧ key < n)) :
    Calls Try.prog 5 #[.pointer (some ⟨gb, 0, none⟩), .int .i64 key, .func fn fi ca] w fun e w' => e = .returned (.tuple #[.bool false, .int .i64 2]) ∧ Below w.heap.size w w' := by
  have hfn := func_nil fn fi ca
  have hl : (w.alloc (.cells #[.func fn fi ca] 1)).cell? ⟨w.heap.size, 0, none⟩ = some (.func fn fi ca) := by simp
  have hg' : (w.alloc (.cells #[.func fn fi ca] 1)).cell? ⟨gb, 0, none⟩ = some (.slice (some ⟨b, 0, none⟩) n n) := by rw [World.cell?_alloc_past _ _ _ hb]; exact hg
  by_cases h1 : key < 0
  · go_enter Try.func5, Try.ntmps5
    go_wp2
    refine bodyPost_ret (v := .tuple #[.bool false, .int .i64 2]) (by simp [results, Try.results5, go_sem]) rfl ⟨rfl, (Below.refl _ w).alloc (Nat.le_refl _) _⟩
  · have h2 : (n : Int) ≤ key := by omega
    go_enter Try.func5, Try.ntmps5
    go_wp2
    refine bodyPost_ret (v := .tuple #[.bool false, .int .i64 2]) (by simp [results, Try.results5, go_sem]) rfl ⟨rfl, (Below.refl _ w).alloc (Nat.le_refl _) _⟩

set_option maxRecDepth 100000 in
set_option maxHeartbeats 1600000 in
/-- A key that is done. -/
theorem do_done (k gb b n : Nat) (hn : n ≤ 64) (fn : Fn) (fi ca : Array Value) (d : Int) (hd : d ≠ 0) (w : World) (hg : w.cell? ⟨gb, 0, none⟩ = some (.slice (some ⟨b, 0, none⟩) n n)) (hb : gb < w.heap.size) (hk : k < n)
    (hbl : b < w.heap.size) (h0 : w.cell? ⟨b, k * 3, none⟩ = some (.int .u32 d)) :
    Calls Try.prog 5 #[.pointer (some ⟨gb, 0, none⟩), .int .i64 k, .func fn fi ca] w fun e w' => e = .returned (.tuple #[.bool false, .int .i64 0]) ∧ Below w.heap.size w w' := by
  have hmf : ∀ (fn : Fn) (first cap : Array Value) (w : World), (Instr.makeFunc fn first cap).run Try.prog w = .ok (.func fn first cap) w := fun _ _ _ _ => rfl
  have hfn := func_nil fn fi ca
  have hl : (w.alloc (.cells #[.func fn fi ca] 1)).cell? ⟨w.heap.size, 0, none⟩ = some (.func fn fi ca) := by simp
  have hg' : (w.alloc (.cells #[.func fn fi ca] 1)).cell? ⟨gb, 0, none⟩ = some (.slice (some ⟨b, 0, none⟩) n n) := by rw [World.cell?_alloc_past _ _ _ hb]; exact hg
  have hk0 : ¬ ((k : Int) < 0) := by omega
  obtain ⟨W, hW⟩ : ∃ W, (w.alloc (.cells #[.func fn fi ca] 1)).alloc (.cells #[.bool false] 4) = W := ⟨_, rfl⟩
  have hg2 : W.cell? ⟨gb, 0, none⟩ = some (.slice (some ⟨b, 0, none⟩) n n) := by rw [← hW, World.cell?_alloc_past _ _ _ (by simp; omega)]; exact hg'
  have h02 : W.cell? ⟨b, k * 3, none⟩ = some (.int .u32 d) := by rw [← hW, World.cell?_alloc_past _ _ _ (by simp; omega), World.cell?_alloc_past _ _ _ hbl]; exact h0
  have hp : W.cell? ⟨w.heap.size + 1, 0, none⟩ = some (.bool false) := by rw [← hW]; simp
  have hz : W.frozen? ⟨w.heap.size + 1, 0, none⟩ = false := by rw [← hW]; simp
  have hbl2 : Below w.heap.size w W := by rw [← hW]; exact ((Below.refl _ w).alloc (Nat.le_refl _) _).alloc (by simp) _
  obtain ⟨V, hV⟩ : ∃ V, W.setCell ⟨w.heap.size + 1, 0, none⟩ (.bool false) = V := ⟨_, rfl⟩
  have hg3 : V.cell? ⟨gb, 0, none⟩ = some (.slice (some ⟨b, 0, none⟩) n n) := by rw [← hV]; exact other (by simp; omega) hg2
  have h03 : V.cell? ⟨b, k * 3, none⟩ = some (.int .u32 d) := by rw [← hV]; exact other (by simp; omega) h02
  have hp3 : V.cell? ⟨w.heap.size + 1, 0, none⟩ = some (.bool false) := by rw [← hV]; exact World.cell?_setCell_same _ _ _ hp
  have hbl3 : Below w.heap.size w V := by rw [← hV]; exact hbl2.setCell (by simp) _
  have O := fun fv => once_done d hd fv h03
  clear h0 h02
  go_enter Try.func5, Try.ntmps5
  go_wp2_with (go_at_call 12; refine (O _).mono ?_; rintro e w' ⟨rfl, rfl⟩)
  refine bodyPost_ret (v := .tuple #[.bool false, .int .i64 0]) (by simp [results, Try.results5, go_sem]) rfl ⟨rfl, hbl3⟩
end Og
end Go.Proofs.Ytgaafdfekgnccaa

/-
  The group's Do at a key that is not done: what it leaves, told by rows.
-/
namespace Go.Proofs.Ytgaafdfekgnccaa
namespace Og
open Go.RowKit
set_option linter.unusedVariables false
set_option linter.unusedSimpArgs false

/-- From w to w' key k was done: its word in the keys' block, and both counts. -/
structure Did (w w' : World) (b k gc ge : Nat) : Prop where
  touch : Touch w w' (fun x => x = b ∨ x = gc ∨ x = ge)
  keys : ∀ t m F, w.rowIs b t m F → F (k * 3 + 1) = .int .i32 0 → w'.rowIs b t m (fun i => if i = k * 3 then .int .u32 1 else F i)
  called : ∀ t m F, w.rowIs gc t m F → w'.rowIs gc t m (fun i => if i = k then .int .i64 1 else F i)
  ended : ∀ t m F, w.rowIs ge t m F → w'.rowIs ge t m (fun i => if i = k then .int .i64 1 else F i)

theorem Did.of_slowed {w V : World} {b k gc ge : Nat} {pF : Addr} (hb : Below w.heap.size w V) (lb : b < w.heap.size) (lc : gc < w.heap.size) (le : ge < w.heap.size) (hbc : b ≠ gc) (hbe : b ≠ ge) (hce : gc ≠ ge) (hF : w.heap.size ≤ pF.block) :
    Did w (slowed V b (k * 3) pF gc ge k) b k gc ge := by
  unfold slowed acted
  refine ⟨?_, fun t m F h h1 => ?_, fun t m F h => ?_, fun t m F h => ?_⟩
  · refine Touch.setCell (Touch.setCell (Touch.drew (Touch.setCell (Touch.setCell (Touch.setCell (Touch.setCell (Touch.of_below hb _) _ (.inl (.inl rfl)) _) _ (.inr hF) _) _ (.inl (.inr (.inl rfl))) _) _ (.inl (.inr (.inr rfl))) _)) _ (.inl (.inl rfl)) _) _ (.inl (.inl rfl)) _
  · have h0 : V.rowIs b t m F := h.of_block (hb.block _ lb)
    have hx := (((((((h0.set (k * 3 + 1) (.int .i32 1)).setOther (a := pF) (by omega) (.bool true)).setOther (a := ⟨gc, k, none⟩) hbc (.int .i64 1)).setOther (a := ⟨ge, k, none⟩) hbe (.int .i64 1)).drew).set (k * 3) (.int .u32 1)).set (k * 3 + 1) (.int .i32 0))
    refine hx.congr (fun i hi => ?_)
    by_cases e1 : i = k * 3 + 1
    · subst e1; simp [h1]
    · by_cases e0 : i = k * 3 <;> simp [e0, e1]
  · have h0 : V.rowIs gc t m F := h.of_block (hb.block _ lc)
    exact (((((((h0.setOther (a := ⟨b, k * 3 + 1, none⟩) hbc.symm (.int .i32 1)).setOther (a := pF) (by omega) (.bool true)).set k (.int .i64 1)).setOther (a := ⟨ge, k, none⟩) hce (.int .i64 1)).drew).setOther (a := ⟨b, k * 3, none⟩) hbc.symm (.int .u32 1)).setOther (a := ⟨b, k * 3 + 1, none⟩) hbc.symm (.int .i32 0))
  · have h0 : V.rowIs ge t m F := h.of_block (hb.block _ le)
    exact (((((((h0.setOther (a := ⟨b, k * 3 + 1, none⟩) hbe.symm (.int .i32 1)).setOther (a := pF) (by omega) (.bool true)).setOther (a := ⟨gc, k, none⟩) hce.symm (.int .i64 1)).set k (.int .i64 1)).drew).setOther (a := ⟨b, k * 3, none⟩) hbe.symm (.int .u32 1)).setOther (a := ⟨b, k * 3 + 1, none⟩) hbe.symm (.int .i32 0))

/-- The blocks of a group and of an action stand below, and apart. -/
structure Stand (s b : Nat) (cp kp ep fp : Addr) (gc ge : Nat) : Prop where
  b1 : b ≠ cp.block
  b2 : b ≠ kp.block
  b3 : b ≠ ep.block
  b4 : b ≠ fp.block
  b5 : b ≠ gc
  b6 : b ≠ ge
  l0 : b < s
  l1 : cp.block < s
  l2 : kp.block < s
  l3 : ep.block < s
  l4 : fp.block < s
  l5 : gc < s
  l6 : ge < s

theorem Stand.apart {s b : Nat} {cp kp ep fp : Addr} {gc ge : Nat} (h : Stand s b cp kp ep fp gc ge) {pF pB : Addr} (h1 : s ≤ pF.block) (h2 : s ≤ pB.block) (h3 : pF.block ≠ pB.block) : Apart b pF pB cp kp ep fp gc ge := by
  obtain ⟨b1, b2, b3, b4, b5, b6, l0, l1, l2, l3, l4, l5, l6⟩ := h
  exact ⟨b1, b2, b3, b4, b5, b6, by omega, by omega, by omega, by omega, by omega, by omega, by omega, by omega, h3⟩

theorem Act.below {w V : World} {cp kp ep fp : Addr} {gc ge k n : Nat} {fl : Bool} {s b : Nat} (h : Act w cp kp ep fp gc ge k n fl) (st : Stand s b cp kp ep fp gc ge) (hb : Below s w V) : Act V cp kp ep fp gc ge k n fl := by
  refine h.of (fun a x ha hc => ?_) (fun a ha hc => ?_)
  · rw [hb.cell (p := a)]
    · exact ha
    · rcases hc with rfl | rfl | rfl | rfl | rfl | rfl
      · exact st.l1
      · exact st.l2
      · exact st.l3
      · exact st.l4
      · exact st.l5
      · exact st.l6
  · rw [hb.frozen (p := a)]
    · exact ha
    · rcases hc with rfl | rfl
      · exact st.l5
      · exact st.l6

/-- What the group's Do answers at a key that is not done. -/
def firstly : Bool → Ending
  | true => .panicked fell
  | false => .returned (.tuple #[.bool true, .int .i64 0])

set_option maxRecDepth 100000 in
set_option maxHeartbeats 1600000 in
theorem do_first {w : World} {gb b k n : Nat} {cp kp ep fp : Addr} {gc ge : Nat} {fl : Bool} {t : TypeId} {m : Nat} {F : Nat → Value} (st : Stand w.heap.size b cp kp ep fp gc ge) (h : Act w cp kp ep fp gc ge k n fl) (hn : n ≤ 64)
    (hg : w.cell? ⟨gb, 0, none⟩ = some (.slice (some ⟨b, 0, none⟩) n n)) (hgb : gb < w.heap.size) (hk : k < n) (hr : w.rowIs b t m F) (hm : k * 3 + 1 < m) (h0 : F (k * 3) = .int .u32 0) (h1 : F (k * 3 + 1) = .int .i32 0) :
    Calls Try.prog 5 #[.pointer (some ⟨gb, 0, none⟩), .int .i64 k, actv cp kp ep fp] w fun e w' => e = firstly fl ∧ Did w w' b k gc ge := by
  obtain ⟨hb, hbl⟩ : gb < w.heap.size ∧ b < w.heap.size := ⟨hgb, st.l0⟩
  have hmf : ∀ (fn : Fn) (first cap : Array Value) (w : World), (Instr.makeFunc fn first cap).run Try.prog w = .ok (.func fn first cap) w := fun _ _ _ _ => rfl
  have hfn := func_nil (.func 9) #[] #[.pointer (some cp), .pointer (some kp), .pointer (some ep), .pointer (some fp)]
  unfold actv
  generalize hcc : #[Value.pointer (some cp), .pointer (some kp), .pointer (some ep), .pointer (some fp)] = ca at hfn
  have hl : (w.alloc (.cells #[.func (.func 9) #[] ca] 1)).cell? ⟨w.heap.size, 0, none⟩ = some (.func (.func 9) #[] ca) := by simp
  have hg' : (w.alloc (.cells #[.func (.func 9) #[] ca] 1)).cell? ⟨gb, 0, none⟩ = some (.slice (some ⟨b, 0, none⟩) n n) := by rw [World.cell?_alloc_past _ _ _ hb]; exact hg
  have hk0 : ¬ ((k : Int) < 0) := by omega
  obtain ⟨W, hW⟩ : ∃ W, (w.alloc (.cells #[.func (.func 9) #[] ca] 1)).alloc (.cells #[.bool false] 4) = W := ⟨_, rfl⟩
  have hp : W.cell? ⟨w.heap.size + 1, 0, none⟩ = some (.bool false) := by rw [← hW]; simp
  have hz : W.frozen? ⟨w.heap.size + 1, 0, none⟩ = false := by rw [← hW]; simp
  have hB : W.cell? ⟨w.heap.size, 0, none⟩ = some (actv cp kp ep fp) := by
    rw [← hW, World.cell?_alloc_past _ _ _ (by simp), hl, ← hcc]
    rfl
  have hbl2 : Below w.heap.size w W := by rw [← hW]; exact ((Below.refl _ w).alloc (Nat.le_refl _) _).alloc (by simp) _
  obtain ⟨V, hV⟩ : ∃ V, W.setCell ⟨w.heap.size + 1, 0, none⟩ (.bool false) = V := ⟨_, rfl⟩
  have hbl3 : Below w.heap.size w V := by rw [← hV]; exact hbl2.setCell (by simp) _
  have hg3 : V.cell? ⟨gb, 0, none⟩ = some (.slice (some ⟨b, 0, none⟩) n n) := by rw [hbl3.cell (p := ⟨gb, 0, none⟩) hb]; exact hg
  have hp3 : V.cell? ⟨w.heap.size + 1, 0, none⟩ = some (.bool false) := by rw [← hV]; exact World.cell?_setCell_same _ _ _ hp
  have hz3 : V.frozen? ⟨w.heap.size + 1, 0, none⟩ = false := by rw [← hV, World.frozen?_setCell]; exact hz
  have hB3 : V.cell? ⟨w.heap.size, 0, none⟩ = some (actv cp kp ep fp) := by rw [← hV]; exact other (by simp) hB
  have c0 : V.cell? ⟨b, k * 3, none⟩ = some (.int .u32 0) := by rw [hbl3.cell (p := ⟨b, k * 3, none⟩) hbl, hr.cell (by omega), h0]
  have c1 : V.cell? ⟨b, k * 3 + 1, none⟩ = some (.int .i32 0) := by rw [hbl3.cell (p := ⟨b, k * 3 + 1, none⟩) hbl, hr.cell (by omega), h1]
  have z0 : V.frozen? ⟨b, k * 3, none⟩ = false := by rw [hbl3.frozen (p := ⟨b, k * 3, none⟩) hbl]; exact hr.frozen _
  have z1 : V.frozen? ⟨b, k * 3 + 1, none⟩ = false := by rw [hbl3.frozen (p := ⟨b, k * 3 + 1, none⟩) hbl]; exact hr.frozen _
  have ap : Apart b ⟨w.heap.size + 1, 0, none⟩ ⟨w.heap.size, 0, none⟩ cp kp ep fp gc ge := st.apart (by simp) (by simp) (by simp)
  have O := once_first ap (h.below st hbl3) hn hp3 hz3 hB3 c0 c1 z0 z1
  have hd := Did.of_slowed (k := k) (pF := ⟨w.heap.size + 1, 0, none⟩) hbl3 hbl st.l5 st.l6 st.b5 st.b6 h.ne (by simp)
  have hfin : (slowed V b (k * 3) ⟨w.heap.size + 1, 0, none⟩ gc ge k).cell? ⟨w.heap.size + 1, 0, none⟩ = some (.bool true) := by
    unfold slowed
    refine other (by have := hbl; simp; omega) (other (by have := hbl; simp; omega) ?_)
    rw [World.cell?_drew]
    refine acted_other (by have := st.l5; simp; omega) (by have := st.l6; simp; omega) (World.cell?_setCell_same _ _ _ (other (p := ⟨b, k * 3 + 1, none⟩) (by have := hbl; simp; omega) hp3))
  generalize slowed V b (k * 3) ⟨w.heap.size + 1, 0, none⟩ gc ge k = X at O hd hfin
  cases fl
  · go_enter Try.func5, Try.ntmps5
    go_wp2_with (go_at_call 12; refine O.mono ?_; rintro e w' ⟨rfl, rfl⟩; simp only [ending])
    refine bodyPost_ret (v := .tuple #[.bool true, .int .i64 0]) (by simp [results, Try.results5, go_sem]) rfl ⟨rfl, hd⟩
  · go_enter Try.func5, Try.ntmps5
    go_wp2_with (go_at_call 12; refine O.mono ?_; rintro e w' ⟨rfl, rfl⟩; simp only [ending])
    exact ⟨rfl, rfl, hd⟩
end Og
end Go.Proofs.Ytgaafdfekgnccaa

/-
  The law's 'call': the group's Do under a deferred function that recovers.
-/
namespace Go.Proofs.Ytgaafdfekgnccaa
namespace Og
open Go.RowKit
set_option linter.unusedVariables false
set_option linter.unusedSimpArgs false

theorem catch_panicking (p q r : Addr) (x y z : Value) (t : TypeId) (pv : Value) (older : List PanicEntry) (w : World) (hp : w.cell? p = some x) (zp : w.frozen? p = false)
    (hq : (w.setCell p (.bool true)).cell? q = some y) (zq : w.frozen? q = false) (hr : ((w.setCell p (.bool true)).setCell q (.bool true)).cell? r = some z) (zr : w.frozen? r = false) :
    CallsD Try.prog 14 #[.pointer (some p), .pointer (some q), .pointer (some r)] (.panicking ({ v := .iface t pv, recovered := false } :: older)) w fun e u' w' =>
      e = .returned (.tuple #[]) ∧ u' = .panicking ({ v := .iface t pv, recovered := true } :: older) ∧ w' = ((w.setCell p (.bool true)).setCell q (.bool true)).setCell r (.int .i64 0) := by
  refine callsD_of_wpS Try.func14 rfl fun c₀ cs hu => ?_
  have hne : ∀ w : World, (binOp .neq 20 (.iface t pv) .nilIface).run Try.prog w = .ok (.bool true) w := fun w => by kernel_rfl
  apply wpS_seq
  apply wpS_region
  simp [wpOpsS, go_sem, recoverD, hu, Try.ntmps14, Exit.thenS]
  apply wpS_seq
  apply wpS_region
  simp [wpOpsS, go_sem, Exit.thenS]
  refine wpS_cond (t := true) (by simp [Act.eval, Array.replicate]) ?_
  simp only [if_true]
  apply wpS_region
  simp [wpOpsS, go_sem, hp, zp, hq, zq, hr, zr, bodyPostS, results, Try.results14]

theorem catch_idle (p q r : Addr) (w : World) :
    CallsD Try.prog 14 #[.pointer (some p), .pointer (some q), .pointer (some r)] .returning w fun e u' w' => e = .returned (.tuple #[]) ∧ u' = .returning ∧ w' = w := by
  refine callsD_of_wpS Try.func14 rfl fun c₀ cs hu => ?_
  have hne : ∀ w : World, (binOp .neq 20 .nilIface .nilIface).run Try.prog w = .ok (.bool false) w := fun w => by kernel_rfl
  apply wpS_seq
  apply wpS_region
  simp [wpOpsS, go_sem, recoverD, hu, Try.ntmps14, Exit.thenS]
  apply wpS_seq
  apply wpS_region
  simp [wpOpsS, go_sem, Exit.thenS]
  refine wpS_cond (t := false) (by simp [Act.eval, Array.replicate]) ?_
  simp only [Bool.false_eq_true, if_false]
  refine wpS_of_wp (wp_skip ?_)
  cases c₀
  simp_all [bodyPostS, results, Try.results14]

/-- The world in which 'call' calls the group's Do: its three results made. -/
def made3 (w : World) : World := ((w.alloc (.cells #[.bool false] 4)).alloc (.cells #[.bool false] 4)).alloc (.cells #[.int .i64 0] 26)

/-- What stands in the three results. -/
structure Res3 (w : World) (s : Nat) (x y : Bool) (e : Int) : Prop where
  x : w.cell? ⟨s, 0, none⟩ = some (.bool x)
  y : w.cell? ⟨s + 1, 0, none⟩ = some (.bool y)
  e : w.cell? ⟨s + 1 + 1, 0, none⟩ = some (.int .i64 e)
  zx : w.frozen? ⟨s, 0, none⟩ = false
  zy : w.frozen? ⟨s + 1, 0, none⟩ = false
  ze : w.frozen? ⟨s + 1 + 1, 0, none⟩ = false

theorem _root_.Go.World.rowIs.cell' {w : World} {b b' : Nat} {t : TypeId} {n : Nat} {f : Nat → Value} (h : w.rowIs b t n f) (hb : b' = b) (hn : 0 < n) : w.cell? ⟨b', 0, none⟩ = some (f 0) := by subst hb; exact h.cell hn
theorem _root_.Go.World.rowIs.frozen' {w : World} {b b' : Nat} {t : TypeId} {n : Nat} {f : Nat → Value} (h : w.rowIs b t n f) (hb : b' = b) : w.frozen? ⟨b', 0, none⟩ = false := by subst hb; exact h.frozen 0

theorem res_made (w : World) : Res3 (made3 w) w.heap.size false false 0 := by
  unfold made3
  refine ⟨?_, ?_, ?_, ?_, ?_, ?_⟩
  · rw [World.cell?_alloc_past _ _ _ (by simp; omega), World.cell?_alloc_past _ _ _ (by simp)]; simp
  · rw [World.cell?_alloc_past _ _ _ (by simp)]; exact (World.rowIs_alloc (w.alloc (.cells #[.bool false] 4)) #[.bool false] 4 (fun _ => .bool false) (by simp)).cell' (by simp) (by simp)
  · exact (World.rowIs_alloc ((w.alloc (.cells #[.bool false] 4)).alloc (.cells #[.bool false] 4)) #[.int .i64 0] 26 (fun _ => .int .i64 0) (by simp)).cell' (by simp) (by simp)
  · rw [World.frozen?_alloc_past _ _ _ (by simp; omega), World.frozen?_alloc_past _ _ _ (by simp)]; simp
  · rw [World.frozen?_alloc_past _ _ _ (by simp)]; exact (World.rowIs_alloc (w.alloc (.cells #[.bool false] 4)) #[.bool false] 4 (fun _ => .bool false) (by simp)).frozen' (by simp) 
  · exact (World.rowIs_alloc ((w.alloc (.cells #[.bool false] 4)).alloc (.cells #[.bool false] 4)) #[.int .i64 0] 26 (fun _ => .int .i64 0) (by simp)).frozen' (by simp)

theorem below_made (w : World) : Below w.heap.size w (made3 w) := by
  unfold made3
  exact (((Below.refl _ w).alloc (Nat.le_refl _) _).alloc (by simp) _).alloc (by simp; omega) _

theorem size_made (w : World) : (made3 w).heap.size = w.heap.size + 3 := by unfold made3; simp

theorem Res3.touch {w w' : World} {s : Nat} {x y : Bool} {e : Int} {S : Nat → Prop} (h : Res3 w s x y e) (ht : Touch w w' S) (hs : ∀ k, S k → k < s) (hl : s + 3 ≤ w.heap.size) : Res3 w' s x y e := by
  have hb : ∀ k, s ≤ k → k < s + 3 → w'.heap[k]? = w.heap[k]? := fun k h1 h2 => ht.block k (by omega) (fun hS => by have := hs k hS; omega)
  exact ⟨(World.cell?_of_block (w := w) (hb s (by omega) (by omega))).trans h.x, (World.cell?_of_block (w := w) (hb (s + 1) (by omega) (by omega))).trans h.y, (World.cell?_of_block (w := w) (hb (s + 1 + 1) (by omega) (by omega))).trans h.e,
    (World.frozen?_of_block (w := w) (hb s (by omega) (by omega))).trans h.zx, (World.frozen?_of_block (w := w) (hb (s + 1) (by omega) (by omega))).trans h.zy, (World.frozen?_of_block (w := w) (hb (s + 1 + 1) (by omega) (by omega))).trans h.ze⟩

theorem Res3.setx {w : World} {s : Nat} {x y : Bool} {e : Int} (h : Res3 w s x y e) (x' : Bool) : Res3 (w.setCell ⟨s, 0, none⟩ (.bool x')) s x' y e :=
  ⟨World.cell?_setCell_same _ _ _ h.x, other (by simp) h.y, other (by simp; omega) h.e, by rw [World.frozen?_setCell]; exact h.zx, by rw [World.frozen?_setCell]; exact h.zy, by rw [World.frozen?_setCell]; exact h.ze⟩
theorem Res3.sety {w : World} {s : Nat} {x y : Bool} {e : Int} (h : Res3 w s x y e) (y' : Bool) : Res3 (w.setCell ⟨s + 1, 0, none⟩ (.bool y')) s x y' e :=
  ⟨other (by simp) h.x, World.cell?_setCell_same _ _ _ h.y, other (by simp) h.e, by rw [World.frozen?_setCell]; exact h.zx, by rw [World.frozen?_setCell]; exact h.zy, by rw [World.frozen?_setCell]; exact h.ze⟩
theorem Res3.sete {w : World} {s : Nat} {x y : Bool} {e : Int} (h : Res3 w s x y e) (e' : Int) : Res3 (w.setCell ⟨s + 1 + 1, 0, none⟩ (.int .i64 e')) s x y e' :=
  ⟨other (by simp; omega) h.x, other (by simp) h.y, World.cell?_setCell_same _ _ _ h.e, by rw [World.frozen?_setCell]; exact h.zx, by rw [World.frozen?_setCell]; exact h.zy, by rw [World.frozen?_setCell]; exact h.ze⟩
theorem Res3.drew {w : World} {s : Nat} {x y : Bool} {e : Int} (h : Res3 w s x y e) : Res3 w.drew s x y e :=
  ⟨by rw [World.cell?_drew]; exact h.x, by rw [World.cell?_drew]; exact h.y, by rw [World.cell?_drew]; exact h.e, by rw [World.frozen?_drew]; exact h.zx, by rw [World.frozen?_drew]; exact h.zy, by rw [World.frozen?_drew]; exact h.ze⟩

set_option maxRecDepth 100000 in
set_option maxHeartbeats 1600000 in
/-- The group's Do comes back: so does 'call', with its answer. -/
theorem call_ret {w : World} {g key fv : Value} {fi : Bool} {en : Int} {S : Nat → Prop} (hg : g.oneCell' = true) (hk : key.oneCell' = true) (hv : fv.oneCell' = true) (hS : ∀ k, S k → k < w.heap.size) {Q : World → Prop}
    (hD : Calls Try.prog 5 #[g, key, fv] (made3 w) fun e w' => e = .returned (.tuple #[.bool fi, .int .i64 en]) ∧ Touch (made3 w) w' S ∧ Q w') :
    Calls Try.prog 8 #[g, key, fv] w fun e w' => e = .returned (.tuple #[.bool fi, .bool false, .int .i64 en]) ∧ ∃ w1, Touch (made3 w) w1 S ∧ Q w1 ∧ Below w.heap.size w1 w' := by
  have hmf : ∀ (fn : Fn) (first cap : Array Value) (w : World), (Instr.makeFunc fn first cap).run Try.prog w = .ok (.func fn first cap) w := fun _ _ _ _ => rfl
  obtain ⟨W, hW⟩ : ∃ W, made3 w = W := ⟨_, rfl⟩
  rw [hW] at hD
  have hW' : ((w.alloc (.cells #[.bool false] 4)).alloc (.cells #[.bool false] 4)).alloc (.cells #[.int .i64 0] 26) = W := hW
  go_enter_defers Try.func8, Try.ntmps8
  go_wp2_with fail
  refine hD.mono ?_
  rintro e w1 ⟨rfl, ht, hq⟩
  have R1 : Res3 w1 w.heap.size false false 0 := (hW ▸ res_made w : Res3 W w.heap.size false false 0).touch ht hS (by rw [← hW, size_made]; exact Nat.le_refl _)
  have R2 := R1.setx fi
  have R3 := R2.sete en
  have b2 : Below w.heap.size w1 ((w1.setCell ⟨w.heap.size, 0, none⟩ (.bool fi)).setCell ⟨w.heap.size + 1 + 1, 0, none⟩ (.int .i64 en)) := ((Below.refl _ w1).setCell (by simp) _).setCell (by simp; omega) _
  have x1 := R1.x; have zx1 := R1.zx; have e2 := R2.e; have ze2 := R2.ze
  go_wp2_with fail
  generalize hW2 : (w1.setCell ⟨w.heap.size, 0, none⟩ (.bool fi)).setCell ⟨w.heap.size + 1 + 1, 0, none⟩ (.int .i64 en) = W2 at *
  clear R1 R2 x1 zx1 e2 ze2 hD
  have x3 := R3.x; have e3 := R3.e; have y3 := R3.y; have zx3 := R3.zx; have zy3 := R3.zy; have ze3 := R3.ze
  have R6 := (((R3.setx fi).sety false).sete en).drew
  have b6 := (((b2.setCell (p := ⟨w.heap.size, 0, none⟩) (by simp) (.bool fi)).setCell (p := ⟨w.heap.size + 1, 0, none⟩) (by simp) (.bool false)).setCell (p := ⟨w.heap.size + 1 + 1, 0, none⟩) (by simp; omega) (.int .i64 en)).drew
  go_region
  generalize (((W2.setCell ⟨w.heap.size, 0, none⟩ (.bool fi)).setCell ⟨w.heap.size + 1, 0, none⟩ (.bool false)).setCell ⟨w.heap.size + 1 + 1, 0, none⟩ (.int .i64 en)).drew = W6 at *
  have x6 := R6.x; have y6 := R6.y; have e6 := R6.e
  go_wp2_with fail
  simp only [bodyPostD]
  refine leaves_cons (f := 14) (args := #[.pointer (some ⟨w.heap.size, 0, none⟩), .pointer (some ⟨w.heap.size + 1, 0, none⟩), .pointer (some ⟨w.heap.size + 1 + 1, 0, none⟩)]) (by simp) (by simp [go_sem]) ?_
  refine (catch_idle _ _ _ _).mono ?_
  rintro e u' w'' ⟨rfl, rfl, rfl⟩
  simp [Leaves, settle, results, Try.results8, go_sem, x6, y6, e6]
  exact ⟨w1, hW ▸ ht, hq, b6⟩

set_option maxRecDepth 100000 in
set_option maxHeartbeats 1600000 in
/-- The group's Do panics: 'call' recovers. -/
theorem call_fall {w : World} {g key fv : Value} {S : Nat → Prop} (hg : g.oneCell' = true) (hk : key.oneCell' = true) (hv : fv.oneCell' = true) (hS : ∀ k, S k → k < w.heap.size) {Q : World → Prop}
    (hD : Calls Try.prog 5 #[g, key, fv] (made3 w) fun e w' => e = .panicked fell ∧ Touch (made3 w) w' S ∧ Q w') :
    Calls Try.prog 8 #[g, key, fv] w fun e w' => e = .returned (.tuple #[.bool true, .bool true, .int .i64 0]) ∧ ∃ w1, Touch (made3 w) w1 S ∧ Q w1 ∧ Below w.heap.size w1 w' := by
  have hmf : ∀ (fn : Fn) (first cap : Array Value) (w : World), (Instr.makeFunc fn first cap).run Try.prog w = .ok (.func fn first cap) w := fun _ _ _ _ => rfl
  obtain ⟨W, hW⟩ : ∃ W, made3 w = W := ⟨_, rfl⟩
  rw [hW] at hD
  have hW' : ((w.alloc (.cells #[.bool false] 4)).alloc (.cells #[.bool false] 4)).alloc (.cells #[.int .i64 0] 26) = W := hW
  go_enter_defers Try.func8, Try.ntmps8
  go_wp2_with fail
  refine hD.mono ?_
  rintro e w1 ⟨rfl, ht, hq⟩
  have R1 : Res3 w1 w.heap.size false false 0 := (hW ▸ res_made w : Res3 W w.heap.size false false 0).touch ht hS (by rw [← hW, size_made]; exact Nat.le_refl _)
  have R2 := R1.setx true
  have R3 := R2.sety true
  have R4 := R3.sete 0
  have b4 := (((Below.refl w.heap.size w1).setCell (p := ⟨w.heap.size, 0, none⟩) (by simp) (.bool true)).setCell (p := ⟨w.heap.size + 1, 0, none⟩) (by simp) (.bool true)).setCell (p := ⟨w.heap.size + 1 + 1, 0, none⟩) (by simp; omega) (.int .i64 0)
  have x4 := R4.x; have y4 := R4.y; have e4 := R4.e
  dsimp only
  simp only [bodyPostD, fell]
  refine leaves_cons (f := 14) (args := #[.pointer (some ⟨w.heap.size, 0, none⟩), .pointer (some ⟨w.heap.size + 1, 0, none⟩), .pointer (some ⟨w.heap.size + 1 + 1, 0, none⟩)]) (by simp) (by simp [go_sem]) ?_
  refine (catch_panicking _ _ _ (.bool false) (.bool false) (.int .i64 0) _ _ [] _ R1.x R1.zx R2.y R1.zy R3.e R1.ze).mono ?_
  rintro e u' w'' ⟨rfl, rfl, rfl⟩
  generalize ((w1.setCell ⟨w.heap.size, 0, none⟩ (.bool true)).setCell ⟨w.heap.size + 1, 0, none⟩ (.bool true)).setCell ⟨w.heap.size + 1 + 1, 0, none⟩ (.int .i64 0) = W4 at *
  simp [Leaves, settle, results, Try.results8, go_sem, x4, y4, e4]
  exact ⟨w1, hW ▸ ht, hq, b4⟩
end Og
end Go.Proofs.Ytgaafdfekgnccaa

/-
  A group in memory beside the law's two counts: which keys are done; what a call of 'call' answers and leaves.
-/
namespace Go.Proofs.Ytgaafdfekgnccaa
namespace Og
open Go.RowKit
set_option linter.unusedVariables false
set_option linter.unusedSimpArgs false

def Kf (d : Nat → Bool) (i : Nat) : Value := if i % 3 = 0 then .int .u32 (if d (i / 3) = true then 1 else 0) else if i % 3 = 1 then .int .i32 0 else .int .u32 0
def Cf (d : Nat → Bool) (i : Nat) : Value := .int .i64 (if d i = true then 1 else 0)
def did (d : Nat → Bool) (k : Nat) (i : Nat) : Bool := if i = k then true else d i

structure Grp (s : Nat) (w : World) (b gc ge gb n : Nat) (cp ep : Addr) (d : Nat → Bool) : Prop where
  size : s ≤ w.heap.size
  n64 : n ≤ 64
  g : w.cell? ⟨gb, 0, none⟩ = some (.slice (some ⟨b, 0, none⟩) n n)
  keys : w.rowIs b 68 (n * 3) (Kf d)
  called : w.rowIs gc 3 n (Cf d)
  ended : w.rowIs ge 3 n (Cf d)
  c : w.cell? cp = some (.slice (some ⟨gc, 0, none⟩) n n)
  e : w.cell? ep = some (.slice (some ⟨ge, 0, none⟩) n n)
  lg : gb < s
  lb : b < s
  lc : gc < s
  le : ge < s
  lcp : cp.block < s
  lep : ep.block < s
  bc : b ≠ gc
  be : b ≠ ge
  ce : gc ≠ ge
  bcp : b ≠ cp.block
  bep : b ≠ ep.block
  ccp : gc ≠ cp.block
  cep : gc ≠ ep.block
  ecp : ge ≠ cp.block
  eep : ge ≠ ep.block
  gb1 : gb ≠ b
  gb2 : gb ≠ gc
  gb3 : gb ≠ ge

namespace Grp
variable {s : Nat} {w w' : World} {b gc ge gb n : Nat} {cp ep : Addr} {d : Nat → Bool}
theorem below (h : Grp s w b gc ge gb n cp ep d) (hb : Below s w w') : Grp s w' b gc ge gb n cp ep d :=
  ⟨Nat.le_trans h.size hb.size, h.n64, by rw [hb.cell (p := ⟨gb, 0, none⟩) h.lg]; exact h.g, h.keys.of_block (hb.block _ h.lb), h.called.of_block (hb.block _ h.lc), h.ended.of_block (hb.block _ h.le),
    by rw [hb.cell h.lcp]; exact h.c, by rw [hb.cell h.lep]; exact h.e, h.lg, h.lb, h.lc, h.le, h.lcp, h.lep, h.bc, h.be, h.ce, h.bcp, h.bep, h.ccp, h.cep, h.ecp, h.eep, h.gb1, h.gb2, h.gb3⟩

theorem kf_mid (d : Nat → Bool) (k : Nat) : Kf d (k * 3 + 1) = .int .i32 0 := by
  have h : (k * 3 + 1) % 3 = 1 := by omega
  simp [Kf, h]
theorem kf_at (d : Nat → Bool) (k : Nat) : Kf d (k * 3) = .int .u32 (if d k = true then 1 else 0) := by
  simp [Kf]

theorem did (h : Grp s w b gc ge gb n cp ep d) {k : Nat} (hd : Did w w' b k gc ge) : Grp s w' b gc ge gb n cp ep (Og.did d k) := by
  have hb : ∀ i, i < w.heap.size → i ≠ b → i ≠ gc → i ≠ ge → w'.heap[i]? = w.heap[i]? := fun i hi h1 h2 h3 => hd.touch.block i hi (fun h => h.elim h1 (fun h => h.elim h2 h3))
  have hs := h.size
  refine ⟨Nat.le_trans h.size hd.touch.size, h.n64, ?_, ?_, ?_, ?_, ?_, ?_, h.lg, h.lb, h.lc, h.le, h.lcp, h.lep, h.bc, h.be, h.ce, h.bcp, h.bep, h.ccp, h.cep, h.ecp, h.eep, h.gb1, h.gb2, h.gb3⟩
  · exact (World.cell?_of_block (w := w) (a := ⟨gb, 0, none⟩) (hb gb (by have := h.lg; omega) h.gb1 h.gb2 h.gb3)).trans h.g
  · refine (hd.keys _ _ _ h.keys (kf_mid d k)).congr (fun i hi => ?_)
    by_cases e : i = k * 3
    · subst e
      simp [Kf, Og.did]
    · rw [if_neg e]
      unfold Kf Og.did
      by_cases h0 : i % 3 = 0
      · have hne : i / 3 ≠ k := by omega
        simp [h0, hne]
      · simp [h0]
  · refine (hd.called _ _ _ h.called).congr (fun i hi => ?_)
    by_cases e : i = k <;> simp [Cf, Og.did, e]
  · refine (hd.ended _ _ _ h.ended).congr (fun i hi => ?_)
    by_cases e : i = k <;> simp [Cf, Og.did, e]
  · exact (World.cell?_of_block (w := w) (hb cp.block (by have := h.lcp; omega) (fun e => h.bcp e.symm) (fun e => h.ccp e.symm) (fun e => h.ecp e.symm))).trans h.c
  · exact (World.cell?_of_block (w := w) (hb ep.block (by have := h.lep; omega) (fun e => h.bep e.symm) (fun e => h.cep e.symm) (fun e => h.eep e.symm))).trans h.e
end Grp

theorem one_ptr (a : Addr) : (Value.pointer (some a)).oneCell' = true := by rfl
theorem one_int (k : Int) : (Value.int .i64 k).oneCell' = true := by rfl
theorem one_func (fn : Fn) (fi ca : Array Value) : (Value.func fn fi ca).oneCell' = true := by rfl

/-- A wrong key. -/
theorem call_wrong {s : Nat} {w : World} {b gc ge gb n : Nat} {cp ep : Addr} {d : Nat → Bool} (G : Grp s w b gc ge gb n cp ep d) (key : Int) (hk : ¬ (0 ≤ key ∧ key < n)) (kp fp : Addr) :
    Calls Try.prog 8 #[.pointer (some ⟨gb, 0, none⟩), .int .i64 key, actv cp kp ep fp] w fun e w' => e = .returned (.tuple #[.bool false, .bool false, .int .i64 2]) ∧ Below w.heap.size w w' := by
  have hs := G.size
  have hb := below_made w
  have G' := G.below (hb.mono hs)
  have D := do_wrong key gb b n G.n64 (.func 9) #[] #[.pointer (some cp), .pointer (some kp), .pointer (some ep), .pointer (some fp)] (made3 w) G'.g (by have := G.lg; have := size_made w; omega) hk
  refine (call_ret (fi := false) (en := 2) (S := fun _ => False) (Q := fun w' => Below (made3 w).heap.size (made3 w) w') (one_ptr _) (one_int _) (one_func _ _ _) (fun k h => h.elim) (D.mono ?_)).mono ?_
  · rintro e w' ⟨rfl, h⟩
    exact ⟨rfl, Touch.of_below h _, h⟩
  · rintro e w' ⟨rfl, w1, h1, h2, h3⟩
    exact ⟨rfl, (hb.trans (h2.mono (by rw [size_made]; omega))).trans h3⟩

/-- A key that is there. -/
theorem call_right {s : Nat} {w : World} {b gc ge gb n : Nat} {cp ep : Addr} {d : Nat → Bool} (G : Grp s w b gc ge gb n cp ep d) (k : Nat) (hk : k < n) (kp fp : Addr) (fl : Bool)
    (hkp : w.cell? kp = some (.int .i64 k)) (hfp : w.cell? fp = some (.bool fl)) (lk : s ≤ kp.block) (lf : s ≤ fp.block) (uk : kp.block < w.heap.size) (uf : fp.block < w.heap.size) :
    Calls Try.prog 8 #[.pointer (some ⟨gb, 0, none⟩), .int .i64 k, actv cp kp ep fp] w fun e w' =>
      e = .returned (.tuple #[.bool (!d k), .bool (!d k && fl), .int .i64 0]) ∧ Grp s w' b gc ge gb n cp ep (did d k) ∧ Touch w w' (fun x => x = b ∨ x = gc ∨ x = ge) := by
  have hs := G.size
  have hb := below_made w
  have hz := size_made w
  have G' := G.below (hb.mono hs)
  have hg := G.lg; have hlb := G.lb; have hlc := G.lc; have hle := G.le; have hlcp := G.lcp; have hlep := G.lep
  have hkeys := G'.keys
  have hm : k * 3 + 1 < n * 3 := by omega
  cases hd : d k
  · have e0 : Kf d (k * 3) = .int .u32 0 := by rw [Grp.kf_at, hd]; rfl
    have A : Act (made3 w) cp kp ep fp gc ge k n fl :=
      ⟨G'.c, by rw [hb.cell uk]; exact hkp, G'.e, by rw [hb.cell uf]; exact hfp, by rw [G'.called.cell hk]; simp [Cf, hd], by rw [G'.ended.cell hk]; simp [Cf, hd], G'.called.frozen _, G'.ended.frozen _, hk, G.ce,
        fun e => G.ccp e.symm, fun e => G.ecp e.symm, by omega, by omega, fun e => G.cep e.symm, fun e => G.eep e.symm, by omega, by omega⟩
    have st : Stand (made3 w).heap.size b cp kp ep fp gc ge := ⟨G.bcp, by omega, G.bep, by omega, G.bc, G.be, by omega, by omega, by omega, by omega, by omega, by omega, by omega⟩
    have D := do_first st A G.n64 G'.g (by omega) hk hkeys hm e0 (Grp.kf_mid d k)
    have fin : ∀ w1 w', Did (made3 w) w1 b k gc ge → Below w.heap.size w1 w' → Grp s w' b gc ge gb n cp ep (did d k) ∧ Touch w w' (fun x => x = b ∨ x = gc ∨ x = ge) := by
      intro w1 w' h1 h2
      refine ⟨(G'.did h1).below (h2.mono hs), (Touch.of_below hb _).trans' (S := fun x => x = b ∨ x = gc ∨ x = ge) (S' := fun x => (x = b ∨ x = gc ∨ x = ge) ∨ w.heap.size ≤ x) ?_ (fun i hi h => h.elim id (fun h => by omega))⟩
      refine (h1.touch.mono (fun _ _ h => .inl h)).trans' (S' := fun x => w.heap.size ≤ x) ⟨h2.os, h2.tape, h2.output, h2.size, fun i hi hn => h2.block i (by omega)⟩ (fun i hi h => .inr h)
    cases fl
    · refine (call_ret (fi := true) (en := 0) (S := fun x => x = b ∨ x = gc ∨ x = ge) (Q := fun w' => Did (made3 w) w' b k gc ge) (one_ptr _) (one_int _) (one_func _ _ _) (fun k h => by rcases h with rfl | rfl | rfl <;> omega) (D.mono ?_)).mono ?_
      · rintro e w' ⟨rfl, h⟩
        exact ⟨rfl, h.touch, h⟩
      · rintro e w' ⟨rfl, w1, h1, h2, h3⟩
        exact ⟨rfl, fin w1 w' h2 h3⟩
    · refine (call_fall (S := fun x => x = b ∨ x = gc ∨ x = ge) (Q := fun w' => Did (made3 w) w' b k gc ge) (one_ptr _) (one_int _) (one_func _ _ _) (fun k h => by rcases h with rfl | rfl | rfl <;> omega) (D.mono ?_)).mono ?_
      · rintro e w' ⟨rfl, h⟩
        exact ⟨rfl, h.touch, h⟩
      · rintro e w' ⟨rfl, w1, h1, h2, h3⟩
        exact ⟨rfl, fin w1 w' h2 h3⟩
  · have e0 : Kf d (k * 3) = .int .u32 1 := by rw [Grp.kf_at, hd]; rfl
    have same : did d k = d := by
      funext i
      unfold did
      split
      · next h => rw [h, hd]
      · rfl
    have D := do_done k gb b n G.n64 (.func 9) #[] #[.pointer (some cp), .pointer (some kp), .pointer (some ep), .pointer (some fp)] 1 (by decide) (made3 w) G'.g (by omega) hk (by omega) (by rw [hkeys.cell (by omega), e0])
    refine (call_ret (fi := false) (en := 0) (S := fun _ => False) (Q := fun w' => Below (made3 w).heap.size (made3 w) w') (one_ptr _) (one_int _) (one_func _ _ _) (fun k h => h.elim) (D.mono ?_)).mono ?_
    · rintro e w' ⟨rfl, h⟩
      exact ⟨rfl, Touch.of_below h _, h⟩
    · rintro e w' ⟨rfl, w1, h1, h2, h3⟩
      have hall := (hb.trans (h2.mono (by omega))).trans h3
      refine ⟨by simp, ?_, Touch.of_below hall _⟩
      rw [same]
      exact G.below (hall.mono hs)
end Og
end Go.Proofs.Ytgaafdfekgnccaa
