/-
  View: two views held against each other by the document
-/
import Derived.Test.YtbffhfmhjnflbaaVwK
namespace Go.Proofs.Ytbffhfmhjnflbaa
open Go.RowKit
set_option linter.unusedVariables false
set_option linter.unusedSimpArgs false
set_option linter.unnecessarySimpa false
set_option maxRecDepth 20000
namespace Vw
open Shape
set_option maxHeartbeats 800000 in
theorem same13 {w : World} {B B' : Nat} {ao ao' : Option Addr} {n cap cap' : Nat} {f f' : Nat → Int} (h : Sees w B ao n f) (h' : Sees w B' ao' n f') (e : ∀ i, i < n → f i = f' i) (hn : n ≤ 9223372036854775807) :
    Calls Try.prog 32 #[.slice ao n cap, .slice ao' n cap'] w fun e w' => e = .returned (.bool true) ∧ ∃ m, w' = w.drewN m := by
  have H := hide h
  have H' := hide h'
  clear h h'
  go_enter Try.func32, Try.ntmps32
  go_wp2_with fail
  go_loopw [5] (fun i wr => ∃ k m : Nat, k ≤ n ∧ i = .int .i64 k ∧ wr = w.drewN m) (fun i _ => n - (intOf i).toNat)
  case atStart => exact ⟨0, 0, Nat.zero_le _, rfl, rfl⟩
  case round =>
    obtain ⟨k, m, hk, rfl, rfl⟩ := hrel
    by_cases hlt : k < n
    · obtain ⟨b, off, rfl, hbl, hcc⟩ := H.out k hlt
      obtain ⟨b', off', rfl, hbl', hcc'⟩ := H'.out k hlt
      have he := e k hlt
      have hkn : (k : Int) < (n : Int) := by omega
      go_wp2
      go_quiet (fail)
      go_wp2
      go_roundw
      case rel => exact ⟨k + 1, _, by omega, by go_num, rfl⟩
      case measure => simp [intOf]; omega
    · go_wp2
      go_ret
      exact ⟨rfl, _, rfl⟩
set_option maxHeartbeats 800000 in
theorem sameI {w : World} {ao ao' : Option Addr} {l : List Int} {n cap cap' : Nat} (h : SeesN w ao l) (h' : SeesN w ao' l) (hl : l.length = n) (hn : n ≤ 9223372036854775807) :
    Calls Try.prog 34 #[.slice ao n cap, .slice ao' n cap'] w fun e w' => e = .returned (.bool true) ∧ ∃ m, w' = w.drewN m := by
  have H := hide h
  have H' := hide h'
  clear h h'
  go_enter Try.func34, Try.ntmps34
  go_wp2_with fail
  go_loopw [5] (fun i wr => ∃ k m : Nat, k ≤ n ∧ i = .int .i64 k ∧ wr = w.drewN m) (fun i _ => n - (intOf i).toNat)
  case atStart => exact ⟨0, 0, Nat.zero_le _, rfl, rfl⟩
  case round =>
    obtain ⟨k, m, hk, rfl, rfl⟩ := hrel
    by_cases hlt : k < n
    · obtain ⟨x, hx⟩ : ∃ x, l[k]? = some x := ⟨l[k]'(by omega), List.getElem?_eq_getElem _⟩
      obtain ⟨b, off, rfl, hbl, hcc⟩ := H.out k x hx
      obtain ⟨b', off', rfl, hbl', hcc'⟩ := H'.out k x hx
      clear hx
      have hkn : (k : Int) < (n : Int) := by omega
      go_wp2
      go_quiet (fail)
      go_wp2
      go_roundw
      case rel => exact ⟨k + 1, _, by omega, by go_num, rfl⟩
      case measure => simp [intOf]; omega
    · go_wp2
      go_ret
      exact ⟨rfl, _, rfl⟩

set_option maxHeartbeats 2000000 in
theorem sameObj {us li fi ta : Bool} {ag ge lk nx : Int} {ns ci cj : Nat} {ai aj : Option Addr} {g : Nat → Int} {w : World} (h : Sees w w.heap.size ai ns g) (h' : Sees w w.heap.size aj ns g) (hn : ns ≤ 70000) :
    Calls Try.prog 33 #[.agg #[.bool us, .bool li, .bool fi, .bool ta, .int .i64 ag, .int .u64 ge, .int .u64 lk, .int .u64 nx, .slice ai ns ci], .agg #[.bool us, .bool li, .bool fi, .bool ta, .int .i64 ag, .int .u64 ge, .int .u64 lk, .int .u64 nx, .slice aj ns cj]] w fun e w' => e = .returned (.bool true) ∧ Below w.heap.size w w' := by
  obtain ⟨W0, hW0, B0, R0⟩ := obox w us li fi ta ag ge lk nx ai ns ci
  obtain ⟨W1, hW1, B1, R1⟩ := obox W0 us li fi ta ag ge lk nx aj ns cj
  have R01 := row_on R0 B1
  have HB := hide (B0.trans (B1.mono B0.size))
  have SW := hide (same13 (cap := ci) (cap' := cj) (sees_on h HB.out) (sees_on h' HB.out) (fun _ _ => rfl) (by omega))
  have l0 : w.heap.size < W0.heap.size := R0.lt
  have x0 : W1.cell? ⟨w.heap.size, 0, none⟩ = some (.bool us) := R01.cell (i := 0) (by decide)
  have x1 : W1.cell? ⟨w.heap.size, 1, none⟩ = some (.bool li) := R01.cell (i := 1) (by decide)
  have x2 : W1.cell? ⟨w.heap.size, 2, none⟩ = some (.bool fi) := R01.cell (i := 2) (by decide)
  have x3 : W1.cell? ⟨w.heap.size, 3, none⟩ = some (.bool ta) := R01.cell (i := 3) (by decide)
  have x4 : W1.cell? ⟨w.heap.size, 4, none⟩ = some (.int .i64 ag) := R01.cell (i := 4) (by decide)
  have x5 : W1.cell? ⟨w.heap.size, 5, none⟩ = some (.int .u64 ge) := R01.cell (i := 5) (by decide)
  have x6 : W1.cell? ⟨w.heap.size, 6, none⟩ = some (.int .u64 lk) := R01.cell (i := 6) (by decide)
  have x7 : W1.cell? ⟨w.heap.size, 7, none⟩ = some (.int .u64 nx) := R01.cell (i := 7) (by decide)
  have x8 : W1.cell? ⟨w.heap.size, 8, none⟩ = some (.slice ai ns ci) := R01.cell (i := 8) (by decide)
  have y0 : W1.cell? ⟨W0.heap.size, 0, none⟩ = some (.bool us) := R1.cell (i := 0) (by decide)
  have y1 : W1.cell? ⟨W0.heap.size, 1, none⟩ = some (.bool li) := R1.cell (i := 1) (by decide)
  have y2 : W1.cell? ⟨W0.heap.size, 2, none⟩ = some (.bool fi) := R1.cell (i := 2) (by decide)
  have y3 : W1.cell? ⟨W0.heap.size, 3, none⟩ = some (.bool ta) := R1.cell (i := 3) (by decide)
  have y4 : W1.cell? ⟨W0.heap.size, 4, none⟩ = some (.int .i64 ag) := R1.cell (i := 4) (by decide)
  have y5 : W1.cell? ⟨W0.heap.size, 5, none⟩ = some (.int .u64 ge) := R1.cell (i := 5) (by decide)
  have y6 : W1.cell? ⟨W0.heap.size, 6, none⟩ = some (.int .u64 lk) := R1.cell (i := 6) (by decide)
  have y7 : W1.cell? ⟨W0.heap.size, 7, none⟩ = some (.int .u64 nx) := R1.cell (i := 7) (by decide)
  have y8 : W1.cell? ⟨W0.heap.size, 8, none⟩ = some (.slice aj ns cj) := R1.cell (i := 8) (by decide)
  clear R0 R1 R01 B0 B1 h h'
  go_enter Try.func33, Try.ntmps33
  go_wp2_with (go_at_call 32; refine SW.out.mono ?_; rintro e w1 ⟨rfl, m1, rfl⟩)
  go_ret
  exact ⟨rfl, below_drewN HB.out _⟩
end Vw
end Go.Proofs.Ytbffhfmhjnflbaa
