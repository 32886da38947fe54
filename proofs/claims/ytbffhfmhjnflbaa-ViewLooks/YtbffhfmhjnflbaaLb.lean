/-
  What texts without a machine of tasks share; the document's comparison of words.
-/
import Derived.Test.YtbffhfmhjnflbaaLb0
namespace Go.Proofs.Ytbffhfmhjnflbaa
open Go.RowKit
set_option linter.unusedVariables false
set_option maxRecDepth 20000
set_option linter.unusedSimpArgs false
set_option linter.unnecessarySimpa false
set_option maxHeartbeats 800000 in
theorem same_words {w : World} {B B' : Nat} {ao ao' : Option Addr} {n cap cap' : Nat} {f f' : Nat → Int} (h : Sees w B ao n f) (h' : Sees w B' ao' n f') (e : ∀ i, i < n → f i = f' i) (hn : n ≤ 9223372036854775807) :
    Calls Try.prog 17 #[.slice ao n cap, .slice ao' n cap'] w fun e w' => e = .returned (.bool true) ∧ ∃ m, w' = w.drewN m := by
  have H := hide h
  have H' := hide h'
  clear h h'
  go_enter Try.func17, Try.ntmps17
  go_wp2_with fail
  go_loopw [5] (fun i wr => ∃ k m : Nat, k ≤ n ∧ i = .int .i64 k ∧ wr = w.drewN m) (fun i _ => n - (intOf i).toNat)
  case atStart => exact ⟨0, 0, Nat.zero_le _, rfl, rfl⟩
  case round =>
    obtain ⟨k, m, hk, rfl, rfl⟩ := hrel
    by_cases hlt : k < n
    · obtain ⟨b, off, rfl, hbl, hcc⟩ := H.out k hlt
      obtain ⟨b', off', rfl, hbl', hcc'⟩ := H'.out k hlt
      have he := e k hlt
      have hkn : (k : Int) < (n : Int) := by omega
      go_wp2
      go_quiet (fail)
      go_wp2
      go_roundw
      case rel => exact ⟨k + 1, _, by omega, by go_num, rfl⟩
      case measure => simp [intOf]; omega
    · go_wp2
      go_ret
      exact ⟨rfl, _, rfl⟩
end Go.Proofs.Ytbffhfmhjnflbaa
