/-
  Slices as they are seen: rows of words, rows of steps; New, Words, and the two comparisons.
-/
import Derived.Test.YtdbiphibdaghkaaRef
import Derived.Deep.QuietTactic
import Derived.BigQuiet
namespace Go.Proofs.Ytdbiphibdaghkaa
open Go.RowKit
set_option linter.unusedVariables false
set_option maxRecDepth 20000
set_option linter.unusedSimpArgs false

/-- A slice at ao of n words, readable below block B: word j is 'f j'. -/
def Sees (w : World) (B : Nat) (ao : Option Addr) (n : Nat) (f : Nat → Int) : Prop :=
  ∀ j, j < n → ∃ b off, ao = some ⟨b, off, none⟩ ∧ b < B ∧ w.cell? ⟨b, off + j, none⟩ = some (.int .u64 (f j))

/-- The same of steps, six cells each. -/
def SeesS (w : World) (B : Nat) (ao : Option Addr) (n : Nat) (a : Nat → Stp) : Prop :=
  ∀ j, j < n → ∃ b off, ao = some ⟨b, off, none⟩ ∧ b < B ∧ ∀ i, i < 6 → w.cell? ⟨b, off + j * 6 + i, none⟩ = some ((a j).cell i)

theorem Sees.below {w w' : World} {B C : Nat} {ao : Option Addr} {n : Nat} {f : Nat → Int} (h : Sees w B ao n f) (hb : Below C w w') (hBC : B ≤ C) : Sees w' B ao n f :=
  fun j hj => by obtain ⟨b, off, e, hl, hc⟩ := h j hj; exact ⟨b, off, e, hl, (hb.cell (p := ⟨b, off + j, none⟩) (by show b < C; omega)).trans hc⟩
theorem SeesS.below {w w' : World} {B C : Nat} {ao : Option Addr} {n : Nat} {a : Nat → Stp} (h : SeesS w B ao n a) (hb : Below C w w') (hBC : B ≤ C) : SeesS w' B ao n a :=
  fun j hj => by obtain ⟨b, off, e, hl, hc⟩ := h j hj; exact ⟨b, off, e, hl, fun i hi => (hb.cell (p := ⟨b, off + j * 6 + i, none⟩) (by show b < C; omega)).trans (hc i hi)⟩
theorem Sees.mono {w : World} {B C : Nat} {ao : Option Addr} {n : Nat} {f : Nat → Int} (h : Sees w B ao n f) (hBC : B ≤ C) : Sees w C ao n f :=
  fun j hj => by obtain ⟨b, off, e, hl, hc⟩ := h j hj; exact ⟨b, off, e, by omega, hc⟩
theorem SeesS.mono {w : World} {B C : Nat} {ao : Option Addr} {n : Nat} {a : Nat → Stp} (h : SeesS w B ao n a) (hBC : B ≤ C) : SeesS w C ao n a :=
  fun j hj => by obtain ⟨b, off, e, hl, hc⟩ := h j hj; exact ⟨b, off, e, by omega, hc⟩
theorem IsRow.sees {w : World} {g n cap : Nat} {f : Nat → Int} (h : IsRow w g n cap f) : Sees w w.heap.size (some ⟨g, 0, none⟩) n f :=
  fun j hj => ⟨g, 0, rfl, h.lt, by simpa using h.cell hj⟩

set_option maxHeartbeats 800000 in
theorem same_words {w : World} {B B' : Nat} {ao ao' : Option Addr} {n cap cap' : Nat} {f f' : Nat → Int} (h : Sees w B ao n f) (h' : Sees w B' ao' n f') (e : ∀ i, i < n → f i = f' i) (hn : n ≤ 9223372036854775807) :
    Calls Try.prog 17 #[.slice ao n cap, .slice ao' n cap'] w fun e w' => e = .returned (.bool true) ∧ ∃ m, w' = w.drewN m := by
  have H := hide h
  have H' := hide h'
  clear h h'
  go_enter Try.func17, Try.ntmps17
  go_wp2_with fail
  go_loopw [5] (fun i wr => ∃ k m : Nat, k ≤ n ∧ i = .int .i64 k ∧ wr = w.drewN m) (fun i _ => n - (intOf i).toNat)
  case atStart => exact ⟨0, 0, Nat.zero_le _, rfl, rfl⟩
  case round =>
    obtain ⟨k, m, hk, rfl, rfl⟩ := hrel
    by_cases hlt : k < n
    · obtain ⟨b, off, rfl, hbl, hcc⟩ := H.out k hlt
      obtain ⟨b', off', rfl, hbl', hcc'⟩ := H'.out k hlt
      have he := e k hlt
      have hkn : (k : Int) < (n : Int) := by omega
      go_wp2
      go_quiet (fail)
      go_wp2
      go_roundw
      case rel => exact ⟨k + 1, _, by omega, by go_num, rfl⟩
      case measure => simp [intOf]; omega
    · go_wp2
      go_ret
      exact ⟨rfl, _, rfl⟩


end Go.Proofs.Ytdbiphibdaghkaa
