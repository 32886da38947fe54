/-
  What the word operations of package word come to as plain numbers: masks, shifts and joins of 64-bit words, said by division and remainder. No program is named here.
-/
import Derived.WalkKit
namespace Go.Proofs.Ytjonllmhgpfndaa
open Go.RowKit

theorem wrapU (n : Int) : IntKind.u64.wrap n = n % 18446744073709551616 := IntKind.wrap_u64 n

theorem and_low (x : Int) (h0 : 0 ≤ x) (h1 : x < 18446744073709551616) : bits .and .u64 x 4294967295 = x % 4294967296 := by
  rw [u64_and x 4294967295 h0 h1 (by omega) (by omega)]
  have e : x.toNat &&& (4294967295 : Int).toNat = x.toNat % 4294967296 := Nat.and_two_pow_sub_one_eq_mod x.toNat 32
  rw [e]; omega

theorem and7 (x : Int) (h0 : 0 ≤ x) (h1 : x < 18446744073709551616) : bits .and .u64 x 7 = x % 8 := by
  rw [u64_and x 7 h0 h1 (by omega) (by omega)]
  have e : x.toNat &&& (7 : Int).toNat = x.toNat % 8 := Nat.and_two_pow_sub_one_eq_mod x.toNat 3
  rw [e]; omega

theorem and1 (x : Int) (h0 : 0 ≤ x) (h1 : x < 18446744073709551616) : bits .and .u64 x 1 = x % 2 := by
  rw [u64_and x 1 h0 h1 (by omega) (by omega)]
  have e : x.toNat &&& (1 : Int).toNat = x.toNat % 2 := Nat.and_two_pow_sub_one_eq_mod x.toNat 1
  rw [e]; omega

theorem and2 (x : Int) (h0 : 0 ≤ x) (h1 : x < 18446744073709551616) : bits .and .u64 x 2 = x / 2 % 2 * 2 := by
  rw [u64_and x 2 h0 h1 (by omega) (by omega)]
  have e : x.toNat &&& (2 : Int).toNat = x.toNat / 2 % 2 * 2 := nat_bit 1 x.toNat
  rw [e]; omega

theorem and4 (x : Int) (h0 : 0 ≤ x) (h1 : x < 18446744073709551616) : bits .and .u64 x 4 = x / 4 % 2 * 4 := by
  rw [u64_and x 4 h0 h1 (by omega) (by omega)]
  have e : x.toNat &&& (4 : Int).toNat = x.toNat / 4 % 2 * 4 := nat_bit 2 x.toNat
  rw [e]; omega

theorem and8 (x : Int) (h0 : 0 ≤ x) (h1 : x < 18446744073709551616) : bits .and .u64 x 8 = x / 8 % 2 * 8 := by
  rw [u64_and x 8 h0 h1 (by omega) (by omega)]
  have e : x.toNat &&& (8 : Int).toNat = x.toNat / 8 % 2 * 8 := nat_bit 3 x.toNat
  rw [e]; omega

theorem nat_shiftmask (x m i : Nat) : x &&& (m * 2 ^ i) = (x / 2 ^ i &&& m) * 2 ^ i := by
  apply Nat.eq_of_testBit_eq
  intro j
  rw [Nat.testBit_and, Nat.testBit_mul_two_pow, Nat.testBit_mul_two_pow, Nat.testBit_and, Nat.testBit_div_two_pow]
  by_cases h : i ≤ j
  · simp [h]
  · simp [h]

theorem andAge (x : Int) (h0 : 0 ≤ x) (h1 : x < 18446744073709551616) : bits .and .u64 x 65280 = x / 256 % 256 * 256 := by
  rw [u64_and x 65280 h0 h1 (by omega) (by omega)]
  have e1 : x.toNat &&& (255 * 2 ^ 8) = (x.toNat / 2 ^ 8 &&& 255) * 2 ^ 8 := nat_shiftmask x.toNat 255 8
  have e2 : x.toNat / 2 ^ 8 &&& 255 = x.toNat / 2 ^ 8 % 256 := Nat.and_two_pow_sub_one_eq_mod (x.toNat / 2 ^ 8) 8
  have e : x.toNat &&& (65280 : Int).toNat = x.toNat / 256 % 256 * 256 := by
    show x.toNat &&& (255 * 2 ^ 8) = _
    rw [e1, e2]
  rw [e]; omega

theorem or_join (i : Nat) (a b : Int) (ha0 : 0 ≤ a) (ha1 : a.toNat < 2 ^ i) (ha2 : a < 18446744073709551616) (hb0 : 0 ≤ b) (hb1 : b.toNat % 2 ^ i = 0) (hb2 : b < 18446744073709551616) : bits .or .u64 a b = a + b := by
  rw [u64_or a b ha0 ha2 hb0 hb2, Nat.or_comm, nat_join i b.toNat a.toNat hb1 ha1]
  omega

theorem or32 (a b : Int) (ha0 : 0 ≤ a) (ha1 : a < 4294967296) (hb0 : 0 ≤ b) (hb1 : b % 4294967296 = 0) (hb2 : b < 18446744073709551616) : bits .or .u64 a b = a + b :=
  or_join 32 a b ha0 (by omega) (by omega) hb0 (by omega) hb2
theorem or8 (a b : Int) (ha0 : 0 ≤ a) (ha1 : a < 256) (hb0 : 0 ≤ b) (hb1 : b % 256 = 0) (hb2 : b < 18446744073709551616) : bits .or .u64 a b = a + b :=
  or_join 8 a b ha0 (by omega) (by omega) hb0 (by omega) hb2
theorem or3 (a b : Int) (ha0 : 0 ≤ a) (ha1 : a < 8) (hb0 : 0 ≤ b) (hb1 : b % 8 = 0) (hb2 : b < 18446744073709551616) : bits .or .u64 a b = a + b :=
  or_join 3 a b ha0 (by omega) (by omega) hb0 (by omega) hb2
theorem or2 (a b : Int) (ha0 : 0 ≤ a) (ha1 : a < 4) (hb0 : 0 ≤ b) (hb1 : b % 4 = 0) (hb2 : b < 18446744073709551616) : bits .or .u64 a b = a + b :=
  or_join 2 a b ha0 (by omega) (by omega) hb0 (by omega) hb2
theorem or1 (a b : Int) (ha0 : 0 ≤ a) (ha1 : a < 2) (hb0 : 0 ≤ b) (hb1 : b % 2 = 0) (hb2 : b < 18446744073709551616) : bits .or .u64 a b = a + b :=
  or_join 1 a b ha0 (by omega) (by omega) hb0 (by omega) hb2

/-- The word whose lower half is i and whose upper half is g, both modulo 2^32. -/
def hd (i g : Int) : Int := i % 4294967296 + g % 4294967296 * 4294967296

theorem hd_lo (i g : Int) : 0 ≤ hd i g := by unfold hd; omega
theorem hd_hi (i g : Int) : hd i g < 18446744073709551616 := by unfold hd; omega

theorem join_eq (i g : Int) : bits .or .u64 (bits .and .u64 (IntKind.u64.wrap i) 4294967295) (IntKind.u64.wrap (g * 4294967296)) = hd i g := by
  rw [wrapU, wrapU, and_low _ (by omega) (by omega), or32 _ _ (by omega) (by omega) (by omega) (by omega) (by omega)]
  unfold hd; omega

theorem ref_eq (i g : Int) : IntKind.u64.wrap ((IntKind.u64.wrap i).tmod 4294967296 + g % 4294967296 * 4294967296) = hd i g := by
  rw [wrapU, wrapU, Int.tmod_eq_emod_of_nonneg (by omega)]
  unfold hd; omega

/-- A bool as a bit of that worth. -/
def bit (b : Bool) (v : Int) : Int := if b then v else 0
theorem bit_true (v : Int) : bit true v = v := rfl
theorem bit_false (v : Int) : bit false v = 0 := rfl

end Go.Proofs.Ytjonllmhgpfndaa
