/-
  What Unpack returns, in package word and in the document's answer, for every word; and that two heads that are alike field by field, without slots, are told alike.
-/
import Derived.Test.YtjonllmhgpfndaaPack
import Derived.Deep.RegionWith
namespace Go.Proofs.Ytjonllmhgpfndaa
open Go.RowKit
set_option linter.unusedVariables false

/-- An object's head, as a value, its slots nil. -/
def obj (used live final taken : Bool) (age gen link next : Int) : Value :=
  .agg #[.bool used, .bool live, .bool final, .bool taken, .int .i64 age, .int .u64 gen, .int .u64 link, .int .u64 next, .slice none 0 0]

theorem age_eq (x : Int) (h0 : 0 ≤ x) (h1 : x < 18446744073709551616) : wrap64 (bits .and .u64 x 65280 / 256) = x / 256 % 256 := by
  rw [andAge x h0 h1]; unfold wrap64; omega

set_option maxHeartbeats 400000 in
theorem unpack_word (x : Int) (h0 : 0 ≤ x) (h1 : x < 18446744073709551616) (w : World) :
    Calls Try.prog 21 #[.int .u64 x] w fun e w' => e = .returned (.tuple #[obj (hasB x 1) false (hasB x 4) (hasB x 8) (x / 256 % 256) (x / 4294967296) 0 0, .int .i64 (numB x 2)]) ∧ Below w.heap.size w w' := by
  go_enter Try.func21, Try.ntmps21
  go_wp2_with (go_at_call 12; refine (gen_any _ h0 h1 _).mono ?_; rintro e w' ⟨rfl, rfl⟩)
  go_region_with (go_at_call 35; refine (numberOf_gen _ _ (num2 _ h0 h1) _).mono ?_; rintro e w' ⟨rfl, rfl⟩)
  all_goals go_wp2
  all_goals (refine bodyPost_ret (v := .tuple #[.agg #[.bool (bits .and .u64 x 1 != 0), .bool false, .bool (bits .and .u64 x 4 != 0), .bool (bits .and .u64 x 8 != 0), .int .i64 (wrap64 (bits .and .u64 x 65280 / 256)), .int .u64 (x / 4294967296), .int .u64 0, .int .u64 0, .slice none 0 0], .int .i64 (numB x 2)]) (by simp [results, Try.results21, go_sem]) rfl ⟨?_, ?_⟩)
  all_goals first | (rw [num1 x h0 h1, num4 x h0 h1, num8 x h0 h1, age_eq x h0 h1]; rfl) | exact ((Below.refl _ _).alloc (Nat.le_refl _) _).drew

set_option maxHeartbeats 400000 in
theorem unpack_ref (x : Int) (h0 : 0 ≤ x) (h1 : x < 18446744073709551616) (w : World) :
    Calls Try.prog 20 #[.int .u64 x] w fun e w' => e = .returned (.tuple #[obj (hasB x 1) false (hasB x 4) (hasB x 8) (x / 256 % 256) (x / 4294967296) 0 0, .int .i64 (numB x 2)]) ∧ Below w.heap.size w w' := by
  go_enter Try.func20, Try.ntmps20
  go_wp2_with (first | (go_at_call 33; refine (has_ref _ _ h0 h1 (by omega) _).mono ?_; rintro e w' ⟨rfl, rfl⟩) | (go_at_call 34; refine (colour_ref _ h0 h1 _).mono ?_; rintro e w' ⟨rfl, rfl⟩))
  exact bodyPost_ret (v := .tuple #[obj (hasB x 1) false (hasB x 4) (hasB x 8) (x / 256 % 256) (x / 4294967296) 0 0, .int .i64 (numB x 2)]) (by simp [results, Try.results20, go_sem, obj]) rfl ⟨rfl, (Below.refl _ _).alloc (Nat.le_refl _) _⟩

set_option maxHeartbeats 400000 in
theorem heads_same (used live final taken : Bool) (age gen link next : Int) (w : World) :
    Calls Try.prog 22 #[obj used live final taken age gen link next, obj used live final taken age gen link next] w fun e w' => e = .returned (.bool true) ∧ Below w.heap.size w w' := by
  unfold obj
  go_enter Try.func22, Try.ntmps22
  go_wp2
  go_ret
  exact ⟨rfl, ((Below.refl _ _).alloc (Nat.le_refl _) _).alloc (by simp) _⟩
end Go.Proofs.Ytjonllmhgpfndaa
