/-
  The reference's rule 8: Fits.
-/
import Derived.Test.YtdbiphibdaghkaaHands
namespace Go.Proofs.Ytdbiphibdaghkaa
open Go.RowKit
set_option linter.unusedVariables false
set_option linter.unusedSimpArgs false
set_option maxRecDepth 20000

section
variable {w : World} {B : Nat} {ao aos : Option Addr} {nh cap ns caps : Nat} {jn : Nat → Nat} {jb : Nat → Nat → Jb}

set_option maxHeartbeats 1600000 in
theorem fits_fine (H0 : SeesH w B ao nh jn jb) (h : ¬ LongHands nh jn) (hs : ns ≤ 65536) (most : Int) (hm2 : most ≤ 65536) (r : Int) (hr : (0 ≤ most ∧ r = 0) ∨ (most < 0 ∧ r = 2)) :
    Calls Try.prog 33 #[.slice ao nh cap, .slice aos ns caps, .int .i64 most] w fun e w' => e = .returned (.int .i64 r) ∧ w' = w := by
  have hn : nh ≤ 8 := by rcases Nat.lt_or_ge 8 nh with l | l; exact absurd (.inl l) h; exact l
  have hj : ∀ i, i < nh → jn i ≤ 256 := fun i hi => by rcases Nat.lt_or_ge 256 (jn i) with l | l; exact absurd (.inr ⟨i, hi, l⟩) h; exact l
  have H := hide H0
  have HJ := hide hj
  have h8 : ¬ (8 : Int) < (nh : Int) := by omega
  have hs' : ¬ (65536 : Int) < (ns : Int) := by omega
  have hm' : ¬ (65536 : Int) < most := by omega
  clear H0 h hj
  go_enter Try.func33, Try.ntmps33
  go_wp2_with fail
  go_loopw [7] (fun i wr => ∃ k : Nat, k ≤ nh ∧ i = .int .i64 k ∧ wr = w) (fun i _ => nh - (intOf i).toNat)
  case atStart => exact ⟨0, Nat.zero_le _, rfl, rfl⟩
  case round =>
    obtain ⟨k, hk, rfl, rfl⟩ := hrel
    by_cases hlt : k < nh
    · obtain ⟨b, off, ao', cap', rfl, hbl, hcc, _⟩ := H.out k hlt
      have hkn : (k : Int) < (nh : Int) := by omega
      have hjk := HJ.out k hlt
      have hjk' : ¬ (256 : Int) < (jn k : Int) := by omega
      go_wp2
      go_roundw
      case rel => exact ⟨k + 1, by omega, by go_num, by first | rfl | trivial⟩
      case measure => simp [intOf]; omega
    · obtain rfl : k = nh := by omega
      rcases hr with ⟨h1, rfl⟩ | ⟨h1, rfl⟩
      · have h1' : ¬ most < 0 := by omega
        go_wp2
        go_ret
        exact ⟨rfl, rfl⟩
      · go_wp2
        go_ret
        exact ⟨rfl, rfl⟩

set_option maxHeartbeats 1600000 in
theorem fits_long (H0 : SeesH w B ao nh jn jb) (hn63 : nh ≤ 9223372036854775807) (most : Int) (h : LongHands nh jn ∨ 65536 < ns ∨ 65536 < most) :
    Calls Try.prog 33 #[.slice ao nh cap, .slice aos ns caps, .int .i64 most] w fun e w' => e = .returned (.int .i64 1) ∧ w' = w := by
  by_cases hn : 8 < nh
  · have hni : (8 : Int) < (nh : Int) := by omega
    go_enter Try.func33, Try.ntmps33
    go_wp2
    go_ret
    exact ⟨rfl, rfl⟩
  · have hni : ¬ (8 : Int) < (nh : Int) := by omega
    by_cases h1 : 65536 < ns
    · have h1' : (65536 : Int) < (ns : Int) := by omega
      go_enter Try.func33, Try.ntmps33
      go_wp2
      go_ret
      exact ⟨rfl, rfl⟩
    · have h1' : ¬ (65536 : Int) < (ns : Int) := by omega
      by_cases h2 : 65536 < most
      · go_enter Try.func33, Try.ntmps33
        go_wp2
        go_ret
        exact ⟨rfl, rfl⟩
      · obtain ⟨i0, hi0, hj0⟩ : ∃ i, i < nh ∧ 256 < jn i := by
          rcases h with (h | h) | h | h
          · exact absurd h hn
          · exact h
          · exact absurd h h1
          · exact absurd h h2
        have H := hide H0
        clear H0 h
        go_enter Try.func33, Try.ntmps33
        go_wp2_with fail
        go_loopw [7] (fun i wr => ∃ k : Nat, k ≤ i0 ∧ i = .int .i64 k ∧ wr = w) (fun i _ => nh - (intOf i).toNat)
        case atStart => exact ⟨0, Nat.zero_le _, rfl, rfl⟩
        case round =>
          obtain ⟨k, hk, rfl, rfl⟩ := hrel
          have hlt : k < nh := by omega
          obtain ⟨b, off, ao', cap', rfl, hbl, hcc, _⟩ := H.out k hlt
          have hkn : (k : Int) < (nh : Int) := by omega
          by_cases hjk : 256 < jn k
          · have hjk' : (256 : Int) < (jn k : Int) := by omega
            go_wp2
            go_ret
            exact ⟨rfl, rfl⟩
          · have hki : k ≠ i0 := fun e => hjk (e ▸ hj0)
            have hjk' : ¬ (256 : Int) < (jn k : Int) := by omega
            go_wp2
            go_roundw
            case rel => exact ⟨k + 1, by omega, by go_num, by first | rfl | trivial⟩
            case measure => simp [intOf]; omega
end
end Go.Proofs.Ytdbiphibdaghkaa
