/-
  Lemmas: Hands.
-/
import Derived.Test.YtppgbndoijppnaaGreatTp05
namespace Go.Proofs.YtppgbndoijppnaaGreat
set_option maxHeartbeats 8000000
open Go.RowKit
set_option linter.unusedVariables false
set_option linter.unusedSimpArgs false
set_option maxRecDepth 20000
section
def SeesI (w : World) (B : Nat) (ao : Option Addr) (n : Nat) (s : Nat → Int) : Prop :=
 ∀ j, j < n → ∃ b off, ao = some ⟨b, off, none⟩ ∧ b < B ∧ w.cell? ⟨b, off + j, none⟩ = some (.int .i64 (s j))
def SeesJ (w : World) (B : Nat) (ao : Option Addr) (n : Nat) (j : Nat → Jb) : Prop :=
 ∀ i, i < n → ∃ b off, ao = some ⟨b, off, none⟩ ∧ b < B ∧ ∀ q, q < 5 → w.cell? ⟨b, off + i * 5 + q, none⟩ = some ((j i).cell q)
def SeesH (w : World) (B : Nat) (ao : Option Addr) (nh : Nat) (jn : Nat → Nat) (jb : Nat → Nat → Jb) : Prop :=
 ∀ h, h < nh → ∃ b off ao' cap, ao = some ⟨b, off, none⟩ ∧ b < B ∧ w.cell? ⟨b, off + h, none⟩ = some (.slice ao' (jn h) cap) ∧ SeesJ w B ao' (jn h) (jb h)
section
variable {w w' : World} {B C : Nat} {ao : Option Addr} {n nh : Nat}
theorem SeesI.below {s : Nat → Int} (h : SeesI w B ao n s) (hb : Below C w w') (hBC : B ≤ C) : SeesI w' B ao n s :=
 fun j hj => by obtain ⟨b, off, e, hl, hc⟩ := h j hj; exact ⟨b, off, e, hl, (hb.cell (p := ⟨b, off + j, none⟩) (by show b < C; omega)).trans hc⟩
theorem SeesJ.below {j : Nat → Jb} (h : SeesJ w B ao n j) (hb : Below C w w') (hBC : B ≤ C) : SeesJ w' B ao n j :=
 fun i hi => by obtain ⟨b, off, e, hl, hc⟩ := h i hi; exact ⟨b, off, e, hl, fun q hq => (hb.cell (p := ⟨b, off + i * 5 + q, none⟩) (by show b < C; omega)).trans (hc q hq)⟩
theorem SeesH.below {jn : Nat → Nat} {jb : Nat → Nat → Jb} (h : SeesH w B ao nh jn jb) (hb : Below C w w') (hBC : B ≤ C) : SeesH w' B ao nh jn jb :=
 fun i hi => by obtain ⟨b, off, ao', cap, e, hl, hc, hj⟩ := h i hi; exact ⟨b, off, ao', cap, e, hl, (hb.cell (p := ⟨b, off + i, none⟩) (by show b < C; omega)).trans hc, hj.below hb hBC⟩
end
def LongHands (nh : Nat) (jn : Nat → Nat) : Prop := 8 < nh ∨ ∃ h, h < nh ∧ 256 < jn h
section
variable {w : World} {B : Nat} {ao aos : Option Addr} {nh cap ns caps : Nat} {jn : Nat → Nat} {jb : Nat → Nat → Jb}
theorem checkHands_ok (H0 : SeesH w B ao nh jn jb) (h : ¬ LongHands nh jn) :
  Calls Tryz.prog 107 #[.slice ao nh cap] w fun e w' => e = .returned (.int .i64 0) ∧ w' = w := by
 have hn : nh ≤ 8 := by rcases Nat.lt_or_ge 8 nh with l | l; exact absurd (.inl l) h; exact l
 have hj : ∀ i, i < nh → jn i ≤ 256 := fun i hi => by rcases Nat.lt_or_ge 256 (jn i) with l | l; exact absurd (.inr ⟨i, hi, l⟩) h; exact l
 have H := hide H0
 have HJ := hide hj
 clear H0 h hj
 go_enter Tryz.func107, Tryz.ntmps107
 go_wp2_with fail
 go_loopw [10] (fun i wr => ∃ k : Nat, k ≤ nh ∧ i = .int .i64 k ∧ wr = w) (fun i _ => nh - (intOf i).toNat)
 case atStart => exact ⟨0, Nat.zero_le _, rfl, rfl⟩
 case round =>
  obtain ⟨k, hk, rfl, rfl⟩ := hrel
  by_cases hlt : k < nh
  ·obtain ⟨b, off, ao', cap', rfl, hbl, hcc, _⟩ := H.out k hlt
   have hkn : (k : Int) < (nh : Int) := by omega
   have hjk := HJ.out k hlt
   go_wp2
   go_roundw
   case rel => exact ⟨k + 1, by omega, by go_num, by first | rfl | trivial⟩
   case measure => simp [intOf]; omega
  ·obtain rfl : k = nh := by omega
   go_wp2
   go_ret
   exact ⟨rfl, rfl⟩
theorem checkHands_long (H0 : SeesH w B ao nh jn jb) (hn63 : nh ≤ 9223372036854775807) (h : LongHands nh jn) :
  Calls Tryz.prog 107 #[.slice ao nh cap] w fun e w' => e = .returned (.int .i64 1) ∧ w' = w := by
 by_cases hn : 8 < nh
 ·have hni : (8 : Int) < (nh : Int) := by omega
  go_enter Tryz.func107, Tryz.ntmps107
  go_wp2
  go_ret
  exact ⟨rfl, rfl⟩
 ·obtain ⟨i0, hi0, hj0⟩ : ∃ i, i < nh ∧ 256 < jn i := by rcases h with h | h; exact absurd h hn; exact h
  have H := hide H0
  clear H0 h
  go_enter Tryz.func107, Tryz.ntmps107
  go_wp2_with fail
  go_loopw [10] (fun i wr => ∃ k : Nat, k ≤ i0 ∧ i = .int .i64 k ∧ wr = w) (fun i _ => nh - (intOf i).toNat)
  case atStart => exact ⟨0, Nat.zero_le _, rfl, rfl⟩
  case round =>
   obtain ⟨k, hk, rfl, rfl⟩ := hrel
   have hlt : k < nh := by omega
   obtain ⟨b, off, ao', cap', rfl, hbl, hcc, _⟩ := H.out k hlt
   have hkn : (k : Int) < (nh : Int) := by omega
   by_cases hjk : 256 < jn k
   ·have hjk' : (256 : Int) < (jn k : Int) := by omega
    go_wp2
    go_ret
    exact ⟨rfl, rfl⟩
   ·have hki : k ≠ i0 := fun e => hjk (e ▸ hj0)
    go_wp2
    go_roundw
    case rel => exact ⟨k + 1, by omega, by go_num, by first | rfl | trivial⟩
    case measure => simp [intOf]; omega
theorem checkRun_ok (H0 : SeesH w B ao nh jn jb) (h : ¬ LongHands nh jn) (hs : ns ≤ 65536) (most : Int) (hm : 0 ≤ most) (hm2 : most ≤ 65536) :
  Calls Tryz.prog 78 #[.slice ao nh cap, .slice aos ns caps, .int .i64 most] w fun e w' => e = .returned (.int .i64 0) ∧ w' = w := by
 go_enter Tryz.func78, Tryz.ntmps78
 go_wp2_with (go_at_call 107; refine (checkHands_ok H0 h).mono ?_; rintro e w' ⟨rfl, hw⟩; obtain rfl := hw.symm)
 go_ret
 exact ⟨rfl, rfl⟩
theorem checkRun_long (H0 : SeesH w B ao nh jn jb) (hn63 : nh ≤ 9223372036854775807) (most : Int) (h : LongHands nh jn ∨ 65536 < ns ∨ 65536 < most) :
  Calls Tryz.prog 78 #[.slice ao nh cap, .slice aos ns caps, .int .i64 most] w fun e w' => e = .returned (.int .i64 1) ∧ w' = w := by
 by_cases hl : LongHands nh jn
 ·go_enter Tryz.func78, Tryz.ntmps78
  go_wp2_with (go_at_call 107; refine (checkHands_long H0 hn63 hl).mono ?_; rintro e w' ⟨rfl, hw⟩; obtain rfl := hw.symm)
  go_ret
  exact ⟨rfl, rfl⟩
 ·by_cases h1 : 65536 < ns
  ·have h1' : (65536 : Int) < (ns : Int) := by omega
   go_enter Tryz.func78, Tryz.ntmps78
   go_wp2_with (go_at_call 107; refine (checkHands_ok H0 hl).mono ?_; rintro e w' ⟨rfl, hw⟩; obtain rfl := hw.symm)
   go_ret
   exact ⟨rfl, rfl⟩
  ·have h2 : 65536 < most := by rcases h with h | h | h; exact absurd h hl; exact absurd h h1; exact h
   go_enter Tryz.func78, Tryz.ntmps78
   go_wp2_with (go_at_call 107; refine (checkHands_ok H0 hl).mono ?_; rintro e w' ⟨rfl, hw⟩; obtain rfl := hw.symm)
   go_ret
   exact ⟨rfl, rfl⟩
theorem checkRun_arg (H0 : SeesH w B ao nh jn jb) (h : ¬ LongHands nh jn) (hs : ns ≤ 65536) (most : Int) (hm : most < 0) :
  Calls Tryz.prog 78 #[.slice ao nh cap, .slice aos ns caps, .int .i64 most] w fun e w' => e = .returned (.int .i64 2) ∧ w' = w := by
 go_enter Tryz.func78, Tryz.ntmps78
 go_wp2_with (go_at_call 107; refine (checkHands_ok H0 h).mono ?_; rintro e w' ⟨rfl, hw⟩; obtain rfl := hw.symm)
 go_ret
 exact ⟨rfl, rfl⟩
end
end
end Go.Proofs.YtppgbndoijppnaaGreat
