/-
  View: what is sound; the smaller questions
-/
import Derived.Test.YtbffhfmhjnflbaaVwO
namespace Go.Proofs.Ytbffhfmhjnflbaa
open Go.RowKit
set_option linter.unusedVariables false
set_option linter.unusedSimpArgs false
set_option linter.unnecessarySimpa false
set_option maxRecDepth 20000
namespace Vw
open Shape

/-- A handle that is good. -/
def good (c : Cv) (u : Int) : Prop := 1 ≤ u % 4294967296 ∧ u % 4294967296 ≤ (c.no : Int) ∧ (c.ob ((u % 4294967296).toNat - 1)).us = true ∧ (c.ob ((u % 4294967296).toNat - 1)).ge = u / 4294967296
def hOk (c : Cv) (u : Int) : Prop := ¬ u = 0 → good c u
def obOk (c : Cv) (j : Nat) : Prop := ((c.ob j).us = true → (c.ob j).li = true ∧ ¬ ((j : Int) + 1) ∈ c.fr) ∧ ((c.ob j).us = false → (((j : Int) + 1) ∈ c.fr ∨ (c.ob j).ge = 4294967295) ∧ ∀ q, q < (c.ob j).ns → (c.ob j).sl q = 0)
def quOk (c : Cv) (i : Int) : Prop := (c.ob (i.toNat - 1)).us = true ∧ (c.ob (i.toNat - 1)).fi = true ∧ (c.ob (i.toNat - 1)).ta = true
/-- All that is held. -/
structure HaOk (c : Cv) : Prop where
  wk : ∀ i, i < c.nw → hOk c (c.wk i)
  rt : ∀ j, j < c.nr → ∀ i, i < c.rn j → hOk c (c.rt j i)
  ob : ∀ j, j < c.no → (c.ob j).us = true → ∀ i, i < (c.ob j).ns → hOk c ((c.ob j).sl i)
/-- What bounds a view's numbers. -/
structure Cv.Ok (c : Cv) : Prop where
  wk : ∀ i, i < c.nw → 0 ≤ c.wk i ∧ c.wk i < 18446744073709551616
  rt : ∀ j, j < c.nr → ∀ i, i < c.rn j → 0 ≤ c.rt j i ∧ c.rt j i < 18446744073709551616
  sl : ∀ j, j < c.no → ∀ i, i < (c.ob j).ns → 0 ≤ (c.ob j).sl i ∧ (c.ob j).sl i < 18446744073709551616
  nw : c.nw ≤ 70000
  nr : c.nr ≤ 70000
  rn : ∀ j, j < c.nr → c.rn j ≤ 70000
  no : c.no ≤ 70000
  ns : ∀ j, j < c.no → (c.ob j).ns ≤ 70000
  fr : c.fr.length ≤ 70000
  gr : c.gr.length ≤ 70000
  qu : c.qu.length ≤ 70000
  qr : ∀ i, i ∈ c.qu → 1 ≤ i ∧ i ≤ (c.no : Int)

theorem something_ok (v : Int) (w : World) : Calls Try.prog 102 #[.int .u64 v] w fun e w' => e = .returned (.bool (v != 0)) ∧ w' = w := by
  go_enter Try.func102, Try.ntmps102
  go_wp2
  go_ret
  exact ⟨rfl, rfl⟩

set_option maxHeartbeats 1000000 in
theorem indexFunc_ok {w : World} {B : Nat} {ao : Option Addr} {n cap : Nat} {g : Nat → Int} (h : Sees w B ao n g) (hn : n ≤ 70000) :
    Calls Try.prog 107 #[.slice ao n cap, .func (.func 102) #[] #[]] w fun e w' => (∃ v, e = .returned (.int .i64 v) ∧ (¬ 0 ≤ v ↔ ∀ q, q < n → g q = 0)) ∧ w' = w := by
  have H := hide h
  clear h
  go_enter Try.func107, Try.ntmps107
  go_wp2_with fail
  go_loopw [8] (fun i wr => ∃ k : Nat, k ≤ n ∧ i = .int .i64 k ∧ Hid (∀ q, q < k → g q = 0) ∧ wr = w) (fun i _ => n - (intOf i).toNat)
  case atStart => exact ⟨0, Nat.zero_le _, rfl, fun q hq => absurd hq (by omega), rfl⟩
  case round =>
    obtain ⟨k, hk, rfl, HK, rfl⟩ := hrel
    by_cases hlt : k < n
    · obtain ⟨b, off, rfl, hbl, hcc⟩ := H.out k hlt
      have hkn : (k : Int) < (n : Int) := by omega
      have SO := hide (fun w1 => something_ok (g k) w1)
      by_cases he : g k = 0
      · have he2 : (g k != 0) = false := by simp [he]
        rw [he2] at SO
        have HE := hide he
        clear he he2
        go_wp2_with (go_at_call 102; refine (SO.out _).mono ?_; rintro e w1 ⟨rfl, hq⟩; obtain rfl := hq.symm)
        go_roundw
        case rel => exact ⟨k + 1, by omega, by go_num, fun q hq => by (by_cases e : q < k); exact HK.out q e; (cases (show q = k by omega)); exact HE.out, trivial⟩
        case measure => simp [intOf]; omega
      · have he2 : (g k != 0) = true := by simp [he]
        rw [he2] at SO
        have HE := hide he
        clear he he2
        go_wp2_with (go_at_call 102; refine (SO.out _).mono ?_; rintro e w1 ⟨rfl, hq⟩; obtain rfl := hq.symm)
        go_ret
        exact ⟨⟨_, rfl, by constructor; intro h1; exact absurd h1 (by omega); intro h1; exact absurd (h1 k hlt) HE.out⟩, rfl⟩
    · have hkn : ¬ (k : Int) < (n : Int) := by omega
      go_wp2
      go_ret
      exact ⟨⟨_, rfl, by constructor; intro _ q hq; exact HK.out q (by omega); intro _; omega⟩, rfl⟩
set_option maxHeartbeats 1000000 in
theorem containsFunc_ok {w : World} {B : Nat} {ao : Option Addr} {n cap : Nat} {g : Nat → Int} (h : Sees w B ao n g) (hn : n ≤ 70000) :
    Calls Try.prog 101 #[.slice ao n cap, .func (.func 102) #[] #[]] w fun e w' => (∃ v, e = .returned (.bool v) ∧ (v = false ↔ ∀ q, q < n → g q = 0)) ∧ w' = w := by
  have IO := hide (indexFunc_ok (cap := cap) h hn)
  clear h
  go_enter Try.func101, Try.ntmps101
  go_wp2_with (go_at_call 107; refine IO.out.mono ?_; rintro e w1 ⟨⟨v, rfl, hv⟩, rfl⟩; have HV := hide hv; clear hv)
  go_ret
  refine ⟨⟨_, rfl, ?_⟩, rfl⟩
  have := HV.out
  rw [← this]
  simp
theorem obox (w : World) (u l fi ta : Bool) (ag ge lk nx : Int) (ao : Option Addr) (n cap : Nat) : ∃ W0, w.alloc (.cells #[.bool u, .bool l, .bool fi, .bool ta, .int .i64 ag, .int .u64 ge, .int .u64 lk, .int .u64 nx, .slice ao n cap] 57) = W0 ∧ Below w.heap.size w W0 ∧ W0.rowIs w.heap.size 57 9 (lrow [.bool u, .bool l, .bool fi, .bool ta, .int .i64 ag, .int .u64 ge, .int .u64 lk, .int .u64 nx, .slice ao n cap]) := ⟨_, rfl, (Below.refl _ w).alloc (Nat.le_refl _) _, rowL_alloc w [.bool u, .bool l, .bool fi, .bool ta, .int .i64 ag, .int .u64 ge, .int .u64 lk, .int .u64 nx, .slice ao n cap] _ rfl⟩
set_option maxHeartbeats 1000000 in
theorem usedSound_ok {u l fi ta : Bool} {ag ge lk nx : Int} {ao : Option Addr} {n cap : Nat} {q : Bool} (w : World) : Calls Try.prog 87 #[.agg #[.bool u, .bool l, .bool fi, .bool ta, .int .i64 ag, .int .u64 ge, .int .u64 lk, .int .u64 nx, .slice ao n cap], .bool q] w fun e w' => e = .returned (.bool (l && !q)) ∧ Below w.heap.size w w' := by
  obtain ⟨W0, hW0, B0, R0⟩ := obox w u l fi ta ag ge lk nx ao n cap
  have c1 := R0.cell (i := 1) (by decide)
  simp only [lrow] at c1
  have HB := hide B0
  clear R0 B0
  cases l
  · go_enter Try.func87, Try.ntmps87
    go_wp2
    go_ret
    exact ⟨rfl, HB.out⟩
  · go_enter Try.func87, Try.ntmps87
    go_wp2
    go_ret
    exact ⟨by simp, HB.out⟩
set_option maxHeartbeats 1000000 in
theorem unusedSound_ok {u l fi ta : Bool} {ag ge lk nx : Int} {ao : Option Addr} {n cap : Nat} {q : Bool} {g : Nat → Int} {w : World} (hS : Sees w w.heap.size ao n g) (hn : n ≤ 70000) : Calls Try.prog 88 #[.agg #[.bool u, .bool l, .bool fi, .bool ta, .int .i64 ag, .int .u64 ge, .int .u64 lk, .int .u64 nx, .slice ao n cap], .bool q] w fun e w' => (∃ v, e = .returned (.bool v) ∧ (v = true ↔ (q = true ∨ ge = 4294967295) ∧ ∀ i, i < n → g i = 0)) ∧ Below w.heap.size w w' := by
  obtain ⟨W0, hW0, B0, R0⟩ := obox w u l fi ta ag ge lk nx ao n cap
  have c5 := R0.cell (i := 5) (by decide)
  have c8 := R0.cell (i := 8) (by decide)
  simp only [lrow] at c5 c8
  have CF := hide (containsFunc_ok (w := W0) (cap := cap) (sees_on hS B0) hn)
  have HB := hide B0
  clear R0 B0 hS
  cases q
  · by_cases hg : ge = 4294967295
    · subst hg
      go_enter Try.func88, Try.ntmps88
      go_wp2_with (go_at_call 101; refine CF.out.mono ?_; rintro e w1 ⟨⟨v, rfl, hv⟩, hq⟩; obtain rfl := hq.symm; have HV := hide hv; clear hv)
      go_ret
      exact ⟨⟨_, rfl, by have := HV.out; cases v <;> simp_all⟩, HB.out⟩
    · have hg2 : (ge == 4294967295) = false := by simp [hg]
      go_enter Try.func88, Try.ntmps88
      go_wp2_with fail
      go_ret
      exact ⟨⟨_, rfl, by simp [hg]⟩, HB.out⟩
  · go_enter Try.func88, Try.ntmps88
    go_wp2_with (go_at_call 101; refine CF.out.mono ?_; rintro e w1 ⟨⟨v, rfl, hv⟩, hq⟩; obtain rfl := hq.symm; have HV := hide hv; clear hv)
    go_ret
    exact ⟨⟨_, rfl, by have := HV.out; cases v <;> simp_all⟩, HB.out⟩
end Vw
end Go.Proofs.Ytbffhfmhjnflbaa
