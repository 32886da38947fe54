/-
  Words: Index, Gen, Tagged, Parts, Unpack, the package's and the document's.
-/
import Derived.Test.YtbffhfmhjnflbaaRows
import Derived.WalkKit
import Derived.WalkSpells
import Derived.WalkLawsBesides
import Derived.Laws.Bits64
import Derived.Deep.RegionWith
namespace Go.Proofs.Ytbffhfmhjnflbaa
open Go.RowKit
set_option linter.unusedVariables false
set_option linter.unusedSimpArgs false
set_option maxRecDepth 20000


theorem wrapU (n : Int) : IntKind.u64.wrap n = n % 18446744073709551616 := IntKind.wrap_u64 n

theorem and_low (x : Int) (h0 : 0 ≤ x) (h1 : x < 18446744073709551616) : bits .and .u64 x 4294967295 = x % 4294967296 := by
  rw [u64_and x 4294967295 h0 h1 (by omega) (by omega)]
  have e : x.toNat &&& (4294967295 : Int).toNat = x.toNat % 4294967296 := Nat.and_two_pow_sub_one_eq_mod x.toNat 32
  rw [e]; omega

theorem and7 (x : Int) (h0 : 0 ≤ x) (h1 : x < 18446744073709551616) : bits .and .u64 x 7 = x % 8 := by
  rw [u64_and x 7 h0 h1 (by omega) (by omega)]
  have e : x.toNat &&& (7 : Int).toNat = x.toNat % 8 := Nat.and_two_pow_sub_one_eq_mod x.toNat 3
  rw [e]; omega

theorem and1 (x : Int) (h0 : 0 ≤ x) (h1 : x < 18446744073709551616) : bits .and .u64 x 1 = x % 2 := by
  rw [u64_and x 1 h0 h1 (by omega) (by omega)]
  have e : x.toNat &&& (1 : Int).toNat = x.toNat % 2 := Nat.and_two_pow_sub_one_eq_mod x.toNat 1
  rw [e]; omega

theorem and2 (x : Int) (h0 : 0 ≤ x) (h1 : x < 18446744073709551616) : bits .and .u64 x 2 = x / 2 % 2 * 2 := by
  rw [u64_and x 2 h0 h1 (by omega) (by omega)]
  have e : x.toNat &&& (2 : Int).toNat = x.toNat / 2 % 2 * 2 := nat_bit 1 x.toNat
  rw [e]; omega

theorem and4 (x : Int) (h0 : 0 ≤ x) (h1 : x < 18446744073709551616) : bits .and .u64 x 4 = x / 4 % 2 * 4 := by
  rw [u64_and x 4 h0 h1 (by omega) (by omega)]
  have e : x.toNat &&& (4 : Int).toNat = x.toNat / 4 % 2 * 4 := nat_bit 2 x.toNat
  rw [e]; omega

theorem and8 (x : Int) (h0 : 0 ≤ x) (h1 : x < 18446744073709551616) : bits .and .u64 x 8 = x / 8 % 2 * 8 := by
  rw [u64_and x 8 h0 h1 (by omega) (by omega)]
  have e : x.toNat &&& (8 : Int).toNat = x.toNat / 8 % 2 * 8 := nat_bit 3 x.toNat
  rw [e]; omega

theorem nat_shiftmask (x m i : Nat) : x &&& (m * 2 ^ i) = (x / 2 ^ i &&& m) * 2 ^ i := by
  apply Nat.eq_of_testBit_eq
  intro j
  rw [Nat.testBit_and, Nat.testBit_mul_two_pow, Nat.testBit_mul_two_pow, Nat.testBit_and, Nat.testBit_div_two_pow]
  by_cases h : i ≤ j
  · simp [h]
  · simp [h]

theorem andAge (x : Int) (h0 : 0 ≤ x) (h1 : x < 18446744073709551616) : bits .and .u64 x 65280 = x / 256 % 256 * 256 := by
  rw [u64_and x 65280 h0 h1 (by omega) (by omega)]
  have e1 : x.toNat &&& (255 * 2 ^ 8) = (x.toNat / 2 ^ 8 &&& 255) * 2 ^ 8 := nat_shiftmask x.toNat 255 8
  have e2 : x.toNat / 2 ^ 8 &&& 255 = x.toNat / 2 ^ 8 % 256 := Nat.and_two_pow_sub_one_eq_mod (x.toNat / 2 ^ 8) 8
  have e : x.toNat &&& (65280 : Int).toNat = x.toNat / 256 % 256 * 256 := by
    show x.toNat &&& (255 * 2 ^ 8) = _
    rw [e1, e2]
  rw [e]; omega

theorem or_join (i : Nat) (a b : Int) (ha0 : 0 ≤ a) (ha1 : a.toNat < 2 ^ i) (ha2 : a < 18446744073709551616) (hb0 : 0 ≤ b) (hb1 : b.toNat % 2 ^ i = 0) (hb2 : b < 18446744073709551616) : bits .or .u64 a b = a + b := by
  rw [u64_or a b ha0 ha2 hb0 hb2, Nat.or_comm, nat_join i b.toNat a.toNat hb1 ha1]
  omega

theorem or32 (a b : Int) (ha0 : 0 ≤ a) (ha1 : a < 4294967296) (hb0 : 0 ≤ b) (hb1 : b % 4294967296 = 0) (hb2 : b < 18446744073709551616) : bits .or .u64 a b = a + b :=
  or_join 32 a b ha0 (by omega) (by omega) hb0 (by omega) hb2
theorem or8 (a b : Int) (ha0 : 0 ≤ a) (ha1 : a < 256) (hb0 : 0 ≤ b) (hb1 : b % 256 = 0) (hb2 : b < 18446744073709551616) : bits .or .u64 a b = a + b :=
  or_join 8 a b ha0 (by omega) (by omega) hb0 (by omega) hb2
theorem or3 (a b : Int) (ha0 : 0 ≤ a) (ha1 : a < 8) (hb0 : 0 ≤ b) (hb1 : b % 8 = 0) (hb2 : b < 18446744073709551616) : bits .or .u64 a b = a + b :=
  or_join 3 a b ha0 (by omega) (by omega) hb0 (by omega) hb2
theorem or2 (a b : Int) (ha0 : 0 ≤ a) (ha1 : a < 4) (hb0 : 0 ≤ b) (hb1 : b % 4 = 0) (hb2 : b < 18446744073709551616) : bits .or .u64 a b = a + b :=
  or_join 2 a b ha0 (by omega) (by omega) hb0 (by omega) hb2
theorem or1 (a b : Int) (ha0 : 0 ≤ a) (ha1 : a < 2) (hb0 : 0 ≤ b) (hb1 : b % 2 = 0) (hb2 : b < 18446744073709551616) : bits .or .u64 a b = a + b :=
  or_join 1 a b ha0 (by omega) (by omega) hb0 (by omega) hb2

/-- The word whose lower half is i and whose upper half is g, both modulo 2^32. -/
def hd (i g : Int) : Int := i % 4294967296 + g % 4294967296 * 4294967296

theorem hd_lo (i g : Int) : 0 ≤ hd i g := by unfold hd; omega
theorem hd_hi (i g : Int) : hd i g < 18446744073709551616 := by unfold hd; omega

theorem join_eq (i g : Int) : bits .or .u64 (bits .and .u64 (IntKind.u64.wrap i) 4294967295) (IntKind.u64.wrap (g * 4294967296)) = hd i g := by
  rw [wrapU, wrapU, and_low _ (by omega) (by omega), or32 _ _ (by omega) (by omega) (by omega) (by omega) (by omega)]
  unfold hd; omega

theorem ref_eq (i g : Int) : IntKind.u64.wrap ((IntKind.u64.wrap i).tmod 4294967296 + g % 4294967296 * 4294967296) = hd i g := by
  rw [wrapU, wrapU, Int.tmod_eq_emod_of_nonneg (by omega)]
  unfold hd; omega

/-- A bool as a bit of that worth. -/
def bit (b : Bool) (v : Int) : Int := if b then v else 0
theorem bit_true (v : Int) : bit true v = v := rfl
theorem bit_false (v : Int) : bit false v = 0 := rfl




theorem ret_int {k : IntKind} {a b : Int} (h : a = b) : Ending.returned (.int k a) = .returned (.int k b) := by rw [h]
theorem ret_bool {a b : Bool} (h : a = b) : Ending.returned (.bool a) = .returned (.bool b) := by rw [h]

set_option maxHeartbeats 400000 in
theorem join_any (i g : Int) (w : World) :
    Calls Try.prog 75 #[.int .i64 i, .int .u64 g] w fun e w' => e = .returned (.int .u64 (hd i g)) ∧ w' = w := by
  go_enter Try.func75, Try.ntmps75
  go_wp2
  go_ret
  exact ⟨ret_int (join_eq i g), rfl⟩

set_option maxHeartbeats 400000 in
theorem tagged_any (i g : Int) (w : World) :
    Calls Try.prog 42 #[.int .i64 i, .int .u64 g] w fun e w' => e = .returned (.int .u64 (hd i g)) ∧ w' = w := by
  go_enter Try.func42, Try.ntmps42
  go_wp2_with (go_at_call 75; refine (join_any _ _ _).mono ?_; rintro e w' ⟨rfl, rfl⟩)
  go_ret
  exact ⟨rfl, rfl⟩

theorem wrap64_low (h : Int) (h0 : 0 ≤ h) (h1 : h < 18446744073709551616) : wrap64 (bits .and .u64 h 4294967295) = h % 4294967296 := by
  rw [and_low h h0 h1]; unfold wrap64; omega

set_option maxHeartbeats 400000 in
theorem index_any (h : Int) (h0 : 0 ≤ h) (h1 : h < 18446744073709551616) (w : World) :
    Calls Try.prog 99 #[.int .u64 h] w fun e w' => e = .returned (.int .i64 (h % 4294967296)) ∧ w' = w := by
  go_enter Try.func99, Try.ntmps99
  go_wp2
  go_ret
  exact ⟨ret_int (wrap64_low h h0 h1), rfl⟩

set_option maxHeartbeats 400000 in
theorem index_ref (h : Int) (h0 : 0 ≤ h) (h1 : h < 18446744073709551616) (w : World) :
    Calls Try.prog 48 #[.int .u64 h] w fun e w' => e = .returned (.int .i64 (h % 4294967296)) ∧ w' = w := by
  go_enter Try.func48, Try.ntmps48
  go_wp2
  go_ret
  exact ⟨rfl, rfl⟩

set_option maxHeartbeats 400000 in
theorem gen_any (h : Int) (h0 : 0 ≤ h) (h1 : h < 18446744073709551616) (w : World) :
    Calls Try.prog 98 #[.int .u64 h] w fun e w' => e = .returned (.int .u64 (h / 4294967296)) ∧ w' = w := by
  go_enter Try.func98, Try.ntmps98
  go_wp2
  go_ret
  exact ⟨rfl, rfl⟩

set_option maxHeartbeats 400000 in
theorem gen_ref (h : Int) (h0 : 0 ≤ h) (h1 : h < 18446744073709551616) (w : World) :
    Calls Try.prog 104 #[.int .u64 h] w fun e w' => e = .returned (.int .u64 (h / 4294967296)) ∧ w' = w := by
  go_enter Try.func104, Try.ntmps104
  go_wp2
  go_ret
  exact ⟨rfl, rfl⟩

set_option maxHeartbeats 400000 in
theorem isColour_any (c : Int) (w : World) :
    Calls Try.prog 105 #[.int .i64 c] w fun e w' => e = .returned (.bool (c == 0 || c == 1)) ∧ w' = w := by
  by_cases hc : c = 0
  · subst hc
    go_enter Try.func105, Try.ntmps105
    go_wp2
    go_ret
    exact ⟨rfl, rfl⟩
  · have hb : (c == 0) = false := beq_eq_false_iff_ne.2 hc
    go_enter Try.func105, Try.ntmps105
    go_wp2
    go_ret
    exact ⟨ret_bool (by simp [hb]), rfl⟩

set_option maxHeartbeats 400000 in
theorem bitIf_any (b : Bool) (v : Int) (w : World) :
    Calls Try.prog 106 #[.bool b, .int .u64 v] w fun e w' => e = .returned (.int .u64 (bit b v)) ∧ w' = w := by
  cases b
  · go_enter Try.func106, Try.ntmps106
    go_wp2
    go_ret
    exact ⟨rfl, rfl⟩
  · go_enter Try.func106, Try.ntmps106
    go_wp2
    go_ret
    exact ⟨rfl, rfl⟩

/-- Bit number 'place of v' of x, where v is the bit's worth. -/
def hasB (x v : Int) : Bool := x / v % 2 == 1
def numB (x v : Int) : Int := x / v % 2

theorem num2 (x : Int) (h0 : 0 ≤ x) (h1 : x < 18446744073709551616) : (bits .and .u64 x 2 != 0) = hasB x 2 := by
  rw [and2 x h0 h1]; unfold hasB; rw [Bool.eq_iff_iff]; simp; omega
theorem num8 (x : Int) (h0 : 0 ≤ x) (h1 : x < 18446744073709551616) : (bits .and .u64 x 8 != 0) = hasB x 8 := by
  rw [and8 x h0 h1]; unfold hasB; rw [Bool.eq_iff_iff]; simp; omega
theorem num1 (x : Int) (h0 : 0 ≤ x) (h1 : x < 18446744073709551616) : (bits .and .u64 x 1 != 0) = hasB x 1 := by
  rw [and1 x h0 h1]; unfold hasB; rw [Bool.eq_iff_iff]; simp; omega
theorem num4 (x : Int) (h0 : 0 ≤ x) (h1 : x < 18446744073709551616) : (bits .and .u64 x 4 != 0) = hasB x 4 := by
  rw [and4 x h0 h1]; unfold hasB; rw [Bool.eq_iff_iff]; simp; omega
theorem numB_of_true {x v : Int} (h : hasB x v = true) : numB x v = 1 := by unfold hasB at h; unfold numB; simpa using h
theorem numB_of_false {x v : Int} (h : hasB x v = false) : numB x v = 0 := by unfold hasB at h; unfold numB; simp at h; omega

set_option maxHeartbeats 400000 in
theorem numberOf_gen (x v : Int) (hx : (bits .and .u64 x v != 0) = hasB x v) (w : World) :
    Calls Try.prog 78 #[.int .u64 x, .int .u64 v] w fun e w' => e = .returned (.int .i64 (numB x v)) ∧ w' = w := by
  have H : Hid ((bits .and .u64 x v != 0) = hasB x v) := hx
  clear hx
  go_enter Try.func78, Try.ntmps78
  go_wp2
  · go_ret
    rename_i h
    exact ⟨ret_int (numB_of_true (H.out.symm.trans h)).symm, rfl⟩
  · go_ret
    rename_i h
    exact ⟨ret_int (numB_of_false (H.out.symm.trans h)).symm, rfl⟩

theorem has_eq (x v : Int) (h0 : 0 ≤ x) (hv : 0 < v) : ((x / v).tmod 2 == 1) = hasB x v := by
  unfold hasB; rw [Int.tmod_eq_emod_of_nonneg (Int.ediv_nonneg h0 (by omega))]

set_option maxHeartbeats 400000 in
theorem has_ref (x v : Int) (h0 : 0 ≤ x) (h1 : x < 18446744073709551616) (hv : 0 < v) (w : World) :
    Calls Try.prog 46 #[.int .u64 x, .int .u64 v] w fun e w' => e = .returned (.bool (hasB x v)) ∧ w' = w := by
  go_enter Try.func46, Try.ntmps46
  go_wp2
  go_ret
  exact ⟨ret_bool (has_eq x v h0 hv), rfl⟩

set_option maxHeartbeats 400000 in
theorem colour_ref (x : Int) (h0 : 0 ≤ x) (h1 : x < 18446744073709551616) (w : World) :
    Calls Try.prog 47 #[.int .u64 x] w fun e w' => e = .returned (.int .i64 (numB x 2)) ∧ w' = w := by
  go_enter Try.func47, Try.ntmps47
  go_wp2
  go_ret
  exact ⟨rfl, rfl⟩




theorem ret_two {k l : IntKind} {a b c d : Int} (h : a = b) (h' : c = d) : Ending.returned (.tuple #[.int k a, .int l c]) = .returned (.tuple #[.int k b, .int l d]) := by rw [h, h']

def packOk (age gen c : Int) : Prop := (c = 0 ∨ c = 1) ∧ 0 ≤ age ∧ age ≤ 255 ∧ gen ≤ 4294967295
def ownB (live : Bool) (c : Int) : Bool := if live then c == 1 else !(c == 1)
def packW (used own final taken : Bool) (age gen : Int) : Int := bit used 1 + bit own 2 + bit final 4 + bit taken 8 + age * 256 + gen * 4294967296

theorem or_bits (u o f t : Bool) : bits .or .u64 (bits .or .u64 (bits .or .u64 (bit u 1) (bit o 2)) (bit f 4)) (bit t 8) = bit u 1 + bit o 2 + bit f 4 + bit t 8 := by
  rw [or1 (bit u 1) (bit o 2) (by cases u <;> simp [bit]) (by cases u <;> simp [bit]) (by cases o <;> simp [bit]) (by cases o <;> simp [bit]) (by cases o <;> simp [bit])]
  rw [or2 _ (bit f 4) (by cases u <;> cases o <;> simp [bit]) (by cases u <;> cases o <;> simp [bit]) (by cases f <;> simp [bit]) (by cases f <;> simp [bit]) (by cases f <;> simp [bit])]
  rw [or3 _ (bit t 8) (by cases u <;> cases o <;> cases f <;> simp [bit]) (by cases u <;> cases o <;> cases f <;> simp [bit]) (by cases t <;> simp [bit]) (by cases t <;> simp [bit]) (by cases t <;> simp [bit])]

theorem bits_lt (u o f t : Bool) : 0 ≤ bit u 1 + bit o 2 + bit f 4 + bit t 8 ∧ bit u 1 + bit o 2 + bit f 4 + bit t 8 < 16 := by
  cases u <;> cases o <;> cases f <;> cases t <;> simp [bit]


theorem pack_eq (u o f t : Bool) (age gen : Int) (ha0 : 0 ≤ age) (ha1 : age ≤ 255) (hg0 : 0 ≤ gen) (hg1 : gen ≤ 4294967295) :
    bits .or .u64 (bits .or .u64 (bits .or .u64 (bits .or .u64 (bits .or .u64 (bit u 1) (bit o 2)) (bit f 4)) (bit t 8)) (age * 256)) (gen * 4294967296) = packW u o f t age gen := by
  have hb := bits_lt u o f t
  rw [or_bits, or8 _ (age * 256) (by omega) (by omega) (by omega) (by omega) (by omega), or32 _ (gen * 4294967296) (by omega) (by omega) (by omega) (by omega) (by omega)]
  rfl

theorem pack_eq_ref (u o f t : Bool) (age gen : Int) (ha0 : 0 ≤ age) (ha1 : age ≤ 255) (hg0 : 0 ≤ gen) (hg1 : gen ≤ 4294967295) :
    IntKind.u64.wrap (IntKind.u64.wrap (IntKind.u64.wrap (IntKind.u64.wrap (IntKind.u64.wrap (bit u 1 + bit o 2) + bit f 4) + bit t 8) + age * 256) + gen * 4294967296) = packW u o f t age gen := by
  have e1 : bit u 1 = 0 ∨ bit u 1 = 1 := by cases u <;> simp [bit]
  have e2 : bit o 2 = 0 ∨ bit o 2 = 2 := by cases o <;> simp [bit]
  have e3 : bit f 4 = 0 ∨ bit f 4 = 4 := by cases f <;> simp [bit]
  have e4 : bit t 8 = 0 ∨ bit t 8 = 8 := by cases t <;> simp [bit]
  simp only [wrapU, packW]
  omega

theorem below_box (w : World) (o : Obj) (n : Nat) : Below w.heap.size w ((w.alloc o).drewN n) := below_drewN ((Below.refl _ _).alloc (Nat.le_refl _) _) n

/-- What Pack takes, as one test. -/
def packB (age gen c : Int) : Bool := (c == 0 || c == 1) && decide (0 ≤ age) && decide (age ≤ 255) && decide (gen ≤ 4294967295)
def packV (used live final taken : Bool) (age gen c : Int) : Int := if packB age gen c then packW used (ownB live c) final taken age gen else 0
def packE (age gen c : Int) : Int := if packB age gen c then 0 else 10



theorem ret2 {k l : IntKind} {a b c d : Int} (h : a = b) (h' : c = d) : Ending.returned (.tuple #[.int k a, .int l c]) = .returned (.tuple #[.int k b, .int l d]) := by rw [h, h']
theorem ret3 {k l m : IntKind} {a b c d x y : Int} (h : a = b) (h' : c = d) (h'' : x = y) : Ending.returned (.tuple #[.int k a, .int l c, .int m x]) = .returned (.tuple #[.int k b, .int l d, .int m y]) := by rw [h, h', h'']

def momB (p c r : Int) : Bool := decide (0 ≤ p) && decide (p ≤ 4) && (c == 0 || c == 1) && decide (r < 72057594037927936)
def momV (p c r : Int) : Int := if momB p c r then p + c * 8 + r * 256 else 0
def momE (p c r : Int) : Int := if momB p c r then 0 else 10

theorem mom_eq (p c r : Int) (hc : c = 0 ∨ c = 1) (hp0 : 0 ≤ p) (hp1 : p ≤ 4) (hr0 : 0 ≤ r) (hr1 : r < 72057594037927936) (b : Bool) (hb : b = (c == 1)) :
    bits .or .u64 (bits .or .u64 p (bit b 8)) (r * 256) = p + c * 8 + r * 256 := by
  have e : bit b 8 = c * 8 := by subst hb; rcases hc with rfl | rfl <;> rfl
  rw [e, or3 p (c * 8) hp0 (by omega) (by omega) (by omega) (by omega), or8 _ (r * 256) (by omega) (by omega) (by omega) (by omega) (by omega)]

theorem wrap64_small (a : Int) (h0 : 0 ≤ a) (h1 : a < 9223372036854775808) : wrap64 a = a := by unfold wrap64; omega

set_option maxHeartbeats 400000 in
theorem parts_word (x : Int) (h0 : 0 ≤ x) (h1 : x < 18446744073709551616) (w : World) :
    Calls Try.prog 50 #[.int .u64 x] w fun e w' => e = .returned (.tuple #[.int .i64 (x % 8), .int .i64 (numB x 8), .int .u64 (x / 256)]) ∧ w' = w := by
  go_enter Try.func50, Try.ntmps50
  go_wp2_with (go_at_call 78; refine (numberOf_gen _ _ (num8 _ h0 h1) _).mono ?_; rintro e w' ⟨rfl, rfl⟩)
  go_ret3
  exact ⟨ret3 (by rw [and7 x h0 h1]; exact wrap64_small _ (by omega) (by omega)) rfl rfl, rfl⟩
set_option maxHeartbeats 400000 in
theorem parts_ref (x : Int) (h0 : 0 ≤ x) (h1 : x < 18446744073709551616) (w : World) :
    Calls Try.prog 22 #[.int .u64 x] w fun e w' => e = .returned (.tuple #[.int .i64 (x % 8), .int .i64 (numB x 8), .int .u64 (x / 256)]) ∧ w' = w := by
  go_enter Try.func22, Try.ntmps22
  go_wp2
  go_ret3
  exact ⟨rfl, rfl⟩



/-- An object's head, as a value, its slots nil. -/
def obj (used live final taken : Bool) (age gen link next : Int) : Value :=
  .agg #[.bool used, .bool live, .bool final, .bool taken, .int .i64 age, .int .u64 gen, .int .u64 link, .int .u64 next, .slice none 0 0]

theorem age_eq (x : Int) (h0 : 0 ≤ x) (h1 : x < 18446744073709551616) : wrap64 (bits .and .u64 x 65280 / 256) = x / 256 % 256 := by
  rw [andAge x h0 h1]; unfold wrap64; omega

set_option maxHeartbeats 400000 in
theorem unpack_word (x : Int) (h0 : 0 ≤ x) (h1 : x < 18446744073709551616) (w : World) :
    Calls Try.prog 83 #[.int .u64 x] w fun e w' => e = .returned (.tuple #[obj (hasB x 1) false (hasB x 4) (hasB x 8) (x / 256 % 256) (x / 4294967296) 0 0, .int .i64 (numB x 2)]) ∧ Below w.heap.size w w' := by
  go_enter Try.func83, Try.ntmps83
  go_wp2_with (go_at_call 98; refine (gen_any _ h0 h1 _).mono ?_; rintro e w' ⟨rfl, rfl⟩)
  go_region_with (go_at_call 78; refine (numberOf_gen _ _ (num2 _ h0 h1) _).mono ?_; rintro e w' ⟨rfl, rfl⟩)
  all_goals go_wp2
  all_goals (refine bodyPost_ret (v := .tuple #[.agg #[.bool (bits .and .u64 x 1 != 0), .bool false, .bool (bits .and .u64 x 4 != 0), .bool (bits .and .u64 x 8 != 0), .int .i64 (wrap64 (bits .and .u64 x 65280 / 256)), .int .u64 (x / 4294967296), .int .u64 0, .int .u64 0, .slice none 0 0], .int .i64 (numB x 2)]) (by simp [results, Try.results83, go_sem]) rfl ⟨?_, ?_⟩)
  all_goals first | (rw [num1 x h0 h1, num4 x h0 h1, num8 x h0 h1, age_eq x h0 h1]; rfl) | exact ((Below.refl _ _).alloc (Nat.le_refl _) _).drew

set_option maxHeartbeats 400000 in
theorem unpack_ref (x : Int) (h0 : 0 ≤ x) (h1 : x < 18446744073709551616) (w : World) :
    Calls Try.prog 28 #[.int .u64 x] w fun e w' => e = .returned (.tuple #[obj (hasB x 1) false (hasB x 4) (hasB x 8) (x / 256 % 256) (x / 4294967296) 0 0, .int .i64 (numB x 2)]) ∧ Below w.heap.size w w' := by
  go_enter Try.func28, Try.ntmps28
  go_wp2_with (first | (go_at_call 46; refine (has_ref _ _ h0 h1 (by omega) _).mono ?_; rintro e w' ⟨rfl, rfl⟩) | (go_at_call 47; refine (colour_ref _ h0 h1 _).mono ?_; rintro e w' ⟨rfl, rfl⟩))
  exact bodyPost_ret (v := .tuple #[obj (hasB x 1) false (hasB x 4) (hasB x 8) (x / 256 % 256) (x / 4294967296) 0 0, .int .i64 (numB x 2)]) (by simp [results, Try.results28, go_sem, obj]) rfl ⟨rfl, (Below.refl _ _).alloc (Nat.le_refl _) _⟩

end Go.Proofs.Ytbffhfmhjnflbaa
