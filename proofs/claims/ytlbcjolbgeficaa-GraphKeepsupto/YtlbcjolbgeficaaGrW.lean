/-
  Graph: words: Index, Gen, Handle, the package's and the document's halves.
-/
import Derived.Test.YtlbcjolbgeficaaLb0
namespace Go.Proofs.Ytlbcjolbgeficaa
open Go.RowKit
set_option linter.unusedVariables false
set_option linter.unusedSimpArgs false
set_option maxRecDepth 20000
namespace Gr
theorem wrapU (n : Int) : IntKind.u64.wrap n = n % 18446744073709551616 := IntKind.wrap_u64 n

theorem and_low (x : Int) (h0 : 0 ≤ x) (h1 : x < 18446744073709551616) : bits .and .u64 x 4294967295 = x % 4294967296 := by
  rw [u64_and x 4294967295 h0 h1 (by omega) (by omega)]
  have e : x.toNat &&& (4294967295 : Int).toNat = x.toNat % 4294967296 := Nat.and_two_pow_sub_one_eq_mod x.toNat 32
  rw [e]; omega

theorem or_join (i : Nat) (a b : Int) (ha0 : 0 ≤ a) (ha1 : a.toNat < 2 ^ i) (ha2 : a < 18446744073709551616) (hb0 : 0 ≤ b) (hb1 : b.toNat % 2 ^ i = 0) (hb2 : b < 18446744073709551616) : bits .or .u64 a b = a + b := by
  rw [u64_or a b ha0 ha2 hb0 hb2, Nat.or_comm, nat_join i b.toNat a.toNat hb1 ha1]
  omega

theorem or32 (a b : Int) (ha0 : 0 ≤ a) (ha1 : a < 4294967296) (hb0 : 0 ≤ b) (hb1 : b % 4294967296 = 0) (hb2 : b < 18446744073709551616) : bits .or .u64 a b = a + b :=
  or_join 32 a b ha0 (by omega) (by omega) hb0 (by omega) hb2
/-- The word whose lower half is i and whose upper half is g, both modulo 2^32. -/
def hd (i g : Int) : Int := i % 4294967296 + g % 4294967296 * 4294967296

theorem hd_lo (i g : Int) : 0 ≤ hd i g := by unfold hd; omega
theorem hd_hi (i g : Int) : hd i g < 18446744073709551616 := by unfold hd; omega

theorem join_eq (i g : Int) : bits .or .u64 (bits .and .u64 (IntKind.u64.wrap i) 4294967295) (IntKind.u64.wrap (g * 4294967296)) = hd i g := by
  rw [wrapU, wrapU, and_low _ (by omega) (by omega), or32 _ _ (by omega) (by omega) (by omega) (by omega) (by omega)]
  unfold hd; omega

theorem ref_eq (i g : Int) : IntKind.u64.wrap ((IntKind.u64.wrap i).tmod 4294967296 + g % 4294967296 * 4294967296) = hd i g := by
  rw [wrapU, wrapU, Int.tmod_eq_emod_of_nonneg (by omega)]
  unfold hd; omega

theorem ret_int {k : IntKind} {a b : Int} (h : a = b) : Ending.returned (.int k a) = .returned (.int k b) := by rw [h]
theorem ret_bool {a b : Bool} (h : a = b) : Ending.returned (.bool a) = .returned (.bool b) := by rw [h]

set_option maxHeartbeats 400000 in
theorem join_any (i g : Int) (w : World) :
    Calls Try.prog 38 #[.int .i64 i, .int .u64 g] w fun e w' => e = .returned (.int .u64 (hd i g)) ∧ w' = w := by
  go_enter Try.func38, Try.ntmps38
  go_wp2
  go_ret
  exact ⟨ret_int (join_eq i g), rfl⟩

theorem wrap64_low (h : Int) (h0 : 0 ≤ h) (h1 : h < 18446744073709551616) : wrap64 (bits .and .u64 h 4294967295) = h % 4294967296 := by
  rw [and_low h h0 h1]; unfold wrap64; omega

set_option maxHeartbeats 400000 in
theorem index_any (h : Int) (h0 : 0 ≤ h) (h1 : h < 18446744073709551616) (w : World) :
    Calls Try.prog 34 #[.int .u64 h] w fun e w' => e = .returned (.int .i64 (h % 4294967296)) ∧ w' = w := by
  go_enter Try.func34, Try.ntmps34
  go_wp2
  go_ret
  exact ⟨ret_int (wrap64_low h h0 h1), rfl⟩

set_option maxHeartbeats 400000 in
theorem gen_any (h : Int) (h0 : 0 ≤ h) (h1 : h < 18446744073709551616) (w : World) :
    Calls Try.prog 35 #[.int .u64 h] w fun e w' => e = .returned (.int .u64 (h / 4294967296)) ∧ w' = w := by
  go_enter Try.func35, Try.ntmps35
  go_wp2
  go_ret
  exact ⟨rfl, rfl⟩

set_option maxHeartbeats 400000 in
theorem handle_any (i g : Int) (w : World) :
    Calls Try.prog 31 #[.int .i64 i, .int .u64 g] w fun e w' => e = .returned (.int .u64 (hd i g)) ∧ w' = w := by
  go_enter Try.func31, Try.ntmps31
  go_wp2_with (go_at_call 38; refine (join_any _ _ _).mono ?_; rintro e w' ⟨rfl, rfl⟩)
  go_ret
  exact ⟨rfl, rfl⟩
set_option maxHeartbeats 400000 in
theorem index_r (h : Int) (h0 : 0 ≤ h) (h1 : h < 18446744073709551616) (w : World) :
    Calls Try.prog 32 #[.int .u64 h] w fun e w' => e = .returned (.int .i64 (h % 4294967296)) ∧ w' = w := by
  go_enter Try.func32, Try.ntmps32
  go_wp2
  go_ret
  exact ⟨ret_int (wrap64_low h h0 h1), rfl⟩
set_option maxHeartbeats 400000 in
theorem gen_r (h : Int) (h0 : 0 ≤ h) (h1 : h < 18446744073709551616) (w : World) :
    Calls Try.prog 33 #[.int .u64 h] w fun e w' => e = .returned (.int .u64 (h / 4294967296)) ∧ w' = w := by
  go_enter Try.func33, Try.ntmps33
  go_wp2
  go_ret
  exact ⟨rfl, rfl⟩
end Gr
end Go.Proofs.Ytlbcjolbgeficaa
