/-
  What each small function of package word, and of the document's answer for it, returns: the contracts of the calls that turn no memory.
-/
import Derived.Test.YtjonllmhgpfndaaRows
import Derived.Test.YtjonllmhgpfndaaBits
import Derived.WalkKit
import Derived.WalkSpells
import Derived.WalkLawsBesides
namespace Go.Proofs.Ytjonllmhgpfndaa
open Go.RowKit
set_option linter.unusedVariables false

theorem ret_int {k : IntKind} {a b : Int} (h : a = b) : Ending.returned (.int k a) = .returned (.int k b) := by rw [h]
theorem ret_bool {a b : Bool} (h : a = b) : Ending.returned (.bool a) = .returned (.bool b) := by rw [h]

set_option maxHeartbeats 400000 in
theorem join_any (i g : Int) (w : World) :
    Calls Try.prog 29 #[.int .i64 i, .int .u64 g] w fun e w' => e = .returned (.int .u64 (hd i g)) ∧ w' = w := by
  go_enter Try.func29, Try.ntmps29
  go_wp2
  go_ret
  exact ⟨ret_int (join_eq i g), rfl⟩

set_option maxHeartbeats 400000 in
theorem handle_any (i g : Int) (w : World) :
    Calls Try.prog 8 #[.int .i64 i, .int .u64 g] w fun e w' => e = .returned (.int .u64 (hd i g)) ∧ w' = w := by
  go_enter Try.func8, Try.ntmps8
  go_wp2_with (go_at_call 29; refine (join_any _ _ _).mono ?_; rintro e w' ⟨rfl, rfl⟩)
  go_ret
  exact ⟨rfl, rfl⟩

set_option maxHeartbeats 400000 in
theorem tagged_any (i g : Int) (w : World) :
    Calls Try.prog 14 #[.int .i64 i, .int .u64 g] w fun e w' => e = .returned (.int .u64 (hd i g)) ∧ w' = w := by
  go_enter Try.func14, Try.ntmps14
  go_wp2_with (go_at_call 29; refine (join_any _ _ _).mono ?_; rintro e w' ⟨rfl, rfl⟩)
  go_ret
  exact ⟨rfl, rfl⟩

set_option maxHeartbeats 400000 in
theorem handle_ref (i g : Int) (h0 : 0 ≤ g) (h1 : g < 18446744073709551616) (w : World) :
    Calls Try.prog 9 #[.int .i64 i, .int .u64 g] w fun e w' => e = .returned (.int .u64 (hd i g)) ∧ w' = w := by
  go_enter Try.func9, Try.ntmps9
  go_wp2
  go_ret
  exact ⟨ret_int (ref_eq i g), rfl⟩

set_option maxHeartbeats 400000 in
theorem tagged_ref (i g : Int) (h0 : 0 ≤ g) (h1 : g < 18446744073709551616) (w : World) :
    Calls Try.prog 15 #[.int .i64 i, .int .u64 g] w fun e w' => e = .returned (.int .u64 (hd i g)) ∧ w' = w := by
  go_enter Try.func15, Try.ntmps15
  go_wp2_with (go_at_call 9; refine (handle_ref _ _ h0 h1 _).mono ?_; rintro e w' ⟨rfl, rfl⟩)
  go_ret
  exact ⟨rfl, rfl⟩

theorem wrap64_low (h : Int) (h0 : 0 ≤ h) (h1 : h < 18446744073709551616) : wrap64 (bits .and .u64 h 4294967295) = h % 4294967296 := by
  rw [and_low h h0 h1]; unfold wrap64; omega

set_option maxHeartbeats 400000 in
theorem index_any (h : Int) (h0 : 0 ≤ h) (h1 : h < 18446744073709551616) (w : World) :
    Calls Try.prog 10 #[.int .u64 h] w fun e w' => e = .returned (.int .i64 (h % 4294967296)) ∧ w' = w := by
  go_enter Try.func10, Try.ntmps10
  go_wp2
  go_ret
  exact ⟨ret_int (wrap64_low h h0 h1), rfl⟩

set_option maxHeartbeats 400000 in
theorem index_ref (h : Int) (h0 : 0 ≤ h) (h1 : h < 18446744073709551616) (w : World) :
    Calls Try.prog 11 #[.int .u64 h] w fun e w' => e = .returned (.int .i64 (h % 4294967296)) ∧ w' = w := by
  go_enter Try.func11, Try.ntmps11
  go_wp2
  go_ret
  exact ⟨rfl, rfl⟩

set_option maxHeartbeats 400000 in
theorem gen_any (h : Int) (h0 : 0 ≤ h) (h1 : h < 18446744073709551616) (w : World) :
    Calls Try.prog 12 #[.int .u64 h] w fun e w' => e = .returned (.int .u64 (h / 4294967296)) ∧ w' = w := by
  go_enter Try.func12, Try.ntmps12
  go_wp2
  go_ret
  exact ⟨rfl, rfl⟩

set_option maxHeartbeats 400000 in
theorem gen_ref (h : Int) (h0 : 0 ≤ h) (h1 : h < 18446744073709551616) (w : World) :
    Calls Try.prog 13 #[.int .u64 h] w fun e w' => e = .returned (.int .u64 (h / 4294967296)) ∧ w' = w := by
  go_enter Try.func13, Try.ntmps13
  go_wp2
  go_ret
  exact ⟨rfl, rfl⟩

set_option maxHeartbeats 400000 in
theorem bump_any (t i : Int) (h0 : 0 ≤ t) (h1 : t < 18446744073709551616) (w : World) :
    Calls Try.prog 16 #[.int .u64 t, .int .i64 i] w fun e w' => e = .returned (.int .u64 (hd i (t / 4294967296 + 1))) ∧ w' = w := by
  go_enter Try.func16, Try.ntmps16
  go_wp2_with (first | (go_at_call 12; refine (gen_any _ h0 h1 _).mono ?_; rintro e w' ⟨rfl, rfl⟩) | (go_at_call 14; refine (tagged_any _ _ _).mono ?_; rintro e w' ⟨rfl, rfl⟩))
  go_ret
  exact ⟨rfl, rfl⟩

set_option maxHeartbeats 400000 in
theorem bump_ref (t i : Int) (h0 : 0 ≤ t) (h1 : t < 18446744073709551616) (w : World) :
    Calls Try.prog 17 #[.int .u64 t, .int .i64 i] w fun e w' => e = .returned (.int .u64 (hd i (t / 4294967296 + 1))) ∧ w' = w := by
  go_enter Try.func17, Try.ntmps17
  go_wp2_with (first | (go_at_call 13; refine (gen_ref _ h0 h1 _).mono ?_; rintro e w' ⟨rfl, rfl⟩) | (go_at_call 15; refine (tagged_ref _ _ (by omega) (by omega) _).mono ?_; rintro e w' ⟨rfl, rfl⟩))
  go_ret
  exact ⟨rfl, rfl⟩

set_option maxHeartbeats 400000 in
theorem isColour_any (c : Int) (w : World) :
    Calls Try.prog 31 #[.int .i64 c] w fun e w' => e = .returned (.bool (c == 0 || c == 1)) ∧ w' = w := by
  by_cases hc : c = 0
  · subst hc
    go_enter Try.func31, Try.ntmps31
    go_wp2
    go_ret
    exact ⟨rfl, rfl⟩
  · have hb : (c == 0) = false := beq_eq_false_iff_ne.2 hc
    go_enter Try.func31, Try.ntmps31
    go_wp2
    go_ret
    exact ⟨ret_bool (by simp [hb]), rfl⟩

set_option maxHeartbeats 400000 in
theorem bitIf_any (b : Bool) (v : Int) (w : World) :
    Calls Try.prog 32 #[.bool b, .int .u64 v] w fun e w' => e = .returned (.int .u64 (bit b v)) ∧ w' = w := by
  cases b
  · go_enter Try.func32, Try.ntmps32
    go_wp2
    go_ret
    exact ⟨rfl, rfl⟩
  · go_enter Try.func32, Try.ntmps32
    go_wp2
    go_ret
    exact ⟨rfl, rfl⟩

set_option maxHeartbeats 400000 in
theorem bit_ref (b : Bool) (v : Int) (w : World) :
    Calls Try.prog 30 #[.bool b, .int .u64 v] w fun e w' => e = .returned (.int .u64 (bit b v)) ∧ w' = w := by
  cases b
  · go_enter Try.func30, Try.ntmps30
    go_wp2
    go_ret
    exact ⟨rfl, rfl⟩
  · go_enter Try.func30, Try.ntmps30
    go_wp2
    go_ret
    exact ⟨rfl, rfl⟩

/-- Bit number 'place of v' of x, where v is the bit's worth. -/
def hasB (x v : Int) : Bool := x / v % 2 == 1
def numB (x v : Int) : Int := x / v % 2

theorem num2 (x : Int) (h0 : 0 ≤ x) (h1 : x < 18446744073709551616) : (bits .and .u64 x 2 != 0) = hasB x 2 := by
  rw [and2 x h0 h1]; unfold hasB; rw [Bool.eq_iff_iff]; simp; omega
theorem num8 (x : Int) (h0 : 0 ≤ x) (h1 : x < 18446744073709551616) : (bits .and .u64 x 8 != 0) = hasB x 8 := by
  rw [and8 x h0 h1]; unfold hasB; rw [Bool.eq_iff_iff]; simp; omega
theorem num1 (x : Int) (h0 : 0 ≤ x) (h1 : x < 18446744073709551616) : (bits .and .u64 x 1 != 0) = hasB x 1 := by
  rw [and1 x h0 h1]; unfold hasB; rw [Bool.eq_iff_iff]; simp; omega
theorem num4 (x : Int) (h0 : 0 ≤ x) (h1 : x < 18446744073709551616) : (bits .and .u64 x 4 != 0) = hasB x 4 := by
  rw [and4 x h0 h1]; unfold hasB; rw [Bool.eq_iff_iff]; simp; omega
theorem numB_of_true {x v : Int} (h : hasB x v = true) : numB x v = 1 := by unfold hasB at h; unfold numB; simpa using h
theorem numB_of_false {x v : Int} (h : hasB x v = false) : numB x v = 0 := by unfold hasB at h; unfold numB; simp at h; omega

set_option maxHeartbeats 400000 in
theorem numberOf_gen (x v : Int) (hx : (bits .and .u64 x v != 0) = hasB x v) (w : World) :
    Calls Try.prog 35 #[.int .u64 x, .int .u64 v] w fun e w' => e = .returned (.int .i64 (numB x v)) ∧ w' = w := by
  have H : Hid ((bits .and .u64 x v != 0) = hasB x v) := hx
  clear hx
  go_enter Try.func35, Try.ntmps35
  go_wp2
  · go_ret
    rename_i h
    exact ⟨ret_int (numB_of_true (H.out.symm.trans h)).symm, rfl⟩
  · go_ret
    rename_i h
    exact ⟨ret_int (numB_of_false (H.out.symm.trans h)).symm, rfl⟩

theorem has_eq (x v : Int) (h0 : 0 ≤ x) (hv : 0 < v) : ((x / v).tmod 2 == 1) = hasB x v := by
  unfold hasB; rw [Int.tmod_eq_emod_of_nonneg (Int.ediv_nonneg h0 (by omega))]

set_option maxHeartbeats 400000 in
theorem has_ref (x v : Int) (h0 : 0 ≤ x) (h1 : x < 18446744073709551616) (hv : 0 < v) (w : World) :
    Calls Try.prog 33 #[.int .u64 x, .int .u64 v] w fun e w' => e = .returned (.bool (hasB x v)) ∧ w' = w := by
  go_enter Try.func33, Try.ntmps33
  go_wp2
  go_ret
  exact ⟨ret_bool (has_eq x v h0 hv), rfl⟩

set_option maxHeartbeats 400000 in
theorem colour_ref (x : Int) (h0 : 0 ≤ x) (h1 : x < 18446744073709551616) (w : World) :
    Calls Try.prog 34 #[.int .u64 x] w fun e w' => e = .returned (.int .i64 (numB x 2)) ∧ w' = w := by
  go_enter Try.func34, Try.ntmps34
  go_wp2
  go_ret
  exact ⟨rfl, rfl⟩

end Go.Proofs.Ytjonllmhgpfndaa
