/-
  The law's own look at five known words (awake) says yes, and turns nothing that was there.
-/
import Derived.Test.YtjonllmhgpfndaaPack
import Derived.Test.YtjonllmhgpfndaaMom
namespace Go.Proofs.Ytjonllmhgpfndaa
open Go.RowKit
set_option linter.unusedVariables false

theorem pack_known : packV true true true false 2 1 1 = 4294967815 ∧ packE 2 1 1 = 0 := by decide
theorem mom_known : momV 2 1 5 = 1290 ∧ momE 2 1 5 = 0 := by decide
theorem hd_known : hd 3 1 = 4294967299 := by decide
theorem white_known : whiteB 1 0 1 = true := by decide

theorem pack_at (s : Value) (w : World) :
    Calls Try.prog 19 #[.agg #[.bool true, .bool true, .bool true, .bool false, .int .i64 2, .int .u64 1, .int .u64 0, .int .u64 0, s], .int .i64 1] w fun e w' =>
      e = .returned (.tuple #[.int .u64 4294967815, .int .i64 0]) ∧ Below w.heap.size w w' := by
  have h := pack_word true true true false 2 1 0 0 s 1 (by omega) w
  rw [pack_known.1, pack_known.2] at h
  exact h
theorem mom_at (w : World) :
    Calls Try.prog 24 #[.int .i64 2, .int .i64 1, .int .u64 5] w fun e w' => e = .returned (.tuple #[.int .u64 1290, .int .i64 0]) ∧ w' = w := by
  have h := mom_word 2 1 5 (by omega) w
  rw [mom_known.1, mom_known.2] at h
  exact h
theorem hd_at (w : World) :
    Calls Try.prog 8 #[.int .i64 3, .int .u64 1] w fun e w' => e = .returned (.int .u64 4294967299) ∧ w' = w := by
  have h := handle_any 3 1 w
  rw [hd_known] at h
  exact h
theorem white_at (w : World) :
    Calls Try.prog 27 #[.int .u64 1, .int .u64 0, .int .i64 1] w fun e w' => e = .returned (.bool true) ∧ w' = w := by
  have h := white_word 1 0 1 (by omega) (by omega) w
  rw [white_known] at h
  exact h

set_option maxHeartbeats 400000 in
theorem awake_any (w : World) : Calls Try.prog 7 #[] w fun e w' => e = .returned (.bool true) ∧ Below w.heap.size w w' := by
  go_enter Try.func7, Try.ntmps7
  go_wp2_with fail
  refine (pack_at _ _).mono ?_
  rintro e w1 ⟨rfl, hb⟩
  go_wp2_with (first | (go_at_call 24; refine (mom_at _).mono ?_; rintro e w' ⟨rfl, rfl⟩) | (go_at_call 8; refine (hd_at _).mono ?_; rintro e w' ⟨rfl, rfl⟩) | (go_at_call 27; refine (white_at _).mono ?_; rintro e w' ⟨rfl, rfl⟩))
  go_ret
  exact ⟨rfl, hb⟩
end Go.Proofs.Ytjonllmhgpfndaa
