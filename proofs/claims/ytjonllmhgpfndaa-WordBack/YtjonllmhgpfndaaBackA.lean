/-
  What WordBack leans on: a word is told by its halves, a bumped head by its index and the next tag, a head and a phase word by what they hold.
-/
import Derived.Test.YtjonllmhgpfndaaAwake
import Derived.Test.YtjonllmhgpfndaaUnpack
namespace Go.Proofs.Ytjonllmhgpfndaa
open Go.RowKit
set_option linter.unusedVariables false

theorem hd_back (x : Int) (h0 : 0 ≤ x) (h1 : x < 18446744073709551616) : hd (x % 4294967296) (x / 4294967296) = x := by unfold hd; omega

theorem handle_back (x : Int) (h0 : 0 ≤ x) (h1 : x < 18446744073709551616) (w : World) :
    Calls Try.prog 8 #[.int .i64 (x % 4294967296), .int .u64 (x / 4294967296)] w fun e w' => e = .returned (.int .u64 x) ∧ w' = w := by
  have h := handle_any (x % 4294967296) (x / 4294967296) w
  rw [hd_back x h0 h1] at h
  exact h
theorem tagged_back (x : Int) (h0 : 0 ≤ x) (h1 : x < 18446744073709551616) (w : World) :
    Calls Try.prog 14 #[.int .i64 (x % 4294967296), .int .u64 (x / 4294967296)] w fun e w' => e = .returned (.int .u64 x) ∧ w' = w := by
  have h := tagged_any (x % 4294967296) (x / 4294967296) w
  rw [hd_back x h0 h1] at h
  exact h
theorem bump_fresh (x i : Int) (h0 : 0 ≤ x) (h1 : x < 18446744073709551616) (w : World) :
    Calls Try.prog 16 #[.int .u64 x, .int .i64 i] w fun e w' => ∃ b : Int, e = .returned (.int .u64 b) ∧ w' = w ∧ 0 ≤ b ∧ b < 18446744073709551616 ∧ (b == x) = false ∧ b % 4294967296 = IntKind.u32.wrap i ∧ b / 4294967296 = IntKind.u32.wrap (x / 4294967296 + 1) := by
  refine (bump_any x i h0 h1 w).mono ?_
  rintro e w' ⟨rfl, rfl⟩
  refine ⟨_, rfl, rfl, hd_lo _ _, hd_hi _ _, beq_eq_false_iff_ne.2 ?_, ?_, ?_⟩ <;> (try rw [IntKind.wrap_u32']) <;> unfold hd <;> omega
theorem wrap32_hi (y : Int) : IntKind.u32.wrap y ≤ 4294967295 := by rw [IntKind.wrap_u32']; omega

theorem numB_01 (x v : Int) : 0 ≤ numB x v ∧ numB x v ≤ 1 := by unfold numB; omega
theorem bit_has (x v u : Int) : bit (hasB x v) u = numB x v * u := by
  unfold bit hasB numB
  by_cases h : x / v % 2 = 1
  · simp [h]
  · have : x / v % 2 = 0 := by omega
    simp [this]
theorem own_has (x : Int) : ownB true (numB x 2) = hasB x 2 := rfl

/-- The head without the bits that aren't looked at. -/
theorem mask_head (x : Int) (h0 : 0 ≤ x) (h1 : x < 18446744073709551616) : bits .and .u64 x 18446744069414649615 = x % 16 + x / 256 % 256 * 256 + x / 4294967296 * 4294967296 := by
  rw [u64_and x 18446744069414649615 h0 h1 (by omega) (by omega)]
  have e0 : (18446744069414649615 : Int).toNat = 15 ||| (255 * 2 ^ 8 ||| 4294967295 * 2 ^ 32) := by decide
  rw [e0, Nat.and_or_distrib_left, Nat.and_or_distrib_left, nat_shiftmask, nat_shiftmask]
  have e1 : x.toNat &&& 15 = x.toNat % 16 := Nat.and_two_pow_sub_one_eq_mod x.toNat 4
  have e2 : x.toNat / 2 ^ 8 &&& 255 = x.toNat / 2 ^ 8 % 256 := Nat.and_two_pow_sub_one_eq_mod _ 8
  have e3 : x.toNat / 2 ^ 32 &&& 4294967295 = x.toNat / 2 ^ 32 % 4294967296 := Nat.and_two_pow_sub_one_eq_mod _ 32
  rw [e1, e2, e3]
  have j1 : x.toNat / 2 ^ 8 % 256 * 2 ^ 8 ||| x.toNat / 2 ^ 32 % 4294967296 * 2 ^ 32 = x.toNat / 2 ^ 32 % 4294967296 * 2 ^ 32 + x.toNat / 2 ^ 8 % 256 * 2 ^ 8 := by
    rw [Nat.or_comm]; exact nat_join 32 _ _ (by omega) (by omega)
  rw [j1]
  have j2 : x.toNat % 16 ||| (x.toNat / 2 ^ 32 % 4294967296 * 2 ^ 32 + x.toNat / 2 ^ 8 % 256 * 2 ^ 8) = x.toNat / 2 ^ 32 % 4294967296 * 2 ^ 32 + x.toNat / 2 ^ 8 % 256 * 2 ^ 8 + x.toNat % 16 := by
    rw [Nat.or_comm]; exact nat_join 8 _ _ (by omega) (by omega)
  rw [j2]
  omega

/-- The phase word without the bits that aren't looked at. -/
theorem mask_phase (x : Int) (h0 : 0 ≤ x) (h1 : x < 18446744073709551616) : bits .andNot .u64 x 240 = x % 16 + x / 256 * 256 := by
  rw [u64_andNot x 240 h0 h1 (by omega) (by omega)]
  have e0 : 18446744073709551615 - (240 : Int).toNat = 15 ||| 72057594037927935 * 2 ^ 8 := by decide
  rw [e0, Nat.and_or_distrib_left, nat_shiftmask]
  have e1 : x.toNat &&& 15 = x.toNat % 16 := Nat.and_two_pow_sub_one_eq_mod x.toNat 4
  have e2 : x.toNat / 2 ^ 8 &&& 72057594037927935 = x.toNat / 2 ^ 8 % 72057594037927936 := Nat.and_two_pow_sub_one_eq_mod _ 56
  rw [e1, e2]
  have j2 : x.toNat % 16 ||| x.toNat / 2 ^ 8 % 72057594037927936 * 2 ^ 8 = x.toNat / 2 ^ 8 % 72057594037927936 * 2 ^ 8 + x.toNat % 16 := by
    rw [Nat.or_comm]; exact nat_join 8 _ _ (by omega) (by omega)
  rw [j2]
  omega

theorem pack_back_v (x : Int) (h0 : 0 ≤ x) (h1 : x < 18446744073709551616) :
    packV (hasB x 1) true (hasB x 4) (hasB x 8) (x / 256 % 256) (x / 4294967296) (numB x 2) = bits .and .u64 x 18446744069414649615 ∧ packE (x / 256 % 256) (x / 4294967296) (numB x 2) = 0 := by
  have hn := numB_01 x 2
  have hb : packB (x / 256 % 256) (x / 4294967296) (numB x 2) = true := by unfold packB; simp; omega
  unfold packV packE
  rw [hb]
  refine ⟨?_, rfl⟩
  rw [if_pos rfl, mask_head x h0 h1]
  unfold packW
  rw [own_has, bit_has, bit_has, bit_has, bit_has]
  unfold numB
  omega

theorem pack_back (x : Int) (h0 : 0 ≤ x) (h1 : x < 18446744073709551616) (w : World) :
    Calls Try.prog 19 #[.agg #[.bool (hasB x 1), .bool true, .bool (hasB x 4), .bool (hasB x 8), .int .i64 (x / 256 % 256), .int .u64 (x / 4294967296), .int .u64 0, .int .u64 0, .slice none 0 0], .int .i64 (numB x 2)] w
      fun e w' => e = .returned (.tuple #[.int .u64 (bits .and .u64 x 18446744069414649615), .int .i64 0]) ∧ Below w.heap.size w w' := by
  have h := pack_word (hasB x 1) true (hasB x 4) (hasB x 8) (x / 256 % 256) (x / 4294967296) 0 0 (.slice none 0 0) (numB x 2) (by omega) w
  rw [(pack_back_v x h0 h1).1, (pack_back_v x h0 h1).2] at h
  exact h

theorem white_same (x : Int) : whiteB x (x / 4294967296) (numB x 2) = false := by unfold whiteB; simp
theorem white_other (x : Int) : whiteB x (x / 4294967296) (1 - numB x 2) = hasB x 1 := by
  have hn := numB_01 x 2
  have : (numB x 2 != 1 - numB x 2) = true := bne_iff_ne.2 (by omega)
  unfold whiteB; simp [this]

/-- What is packed is unpacked. -/
theorem packW_parts (used own final taken : Bool) (age gen : Int) (ha0 : 0 ≤ age) (ha1 : age ≤ 255) (hg0 : 0 ≤ gen) (hg1 : gen ≤ 4294967295) :
    0 ≤ packW used own final taken age gen ∧ packW used own final taken age gen < 18446744073709551616 ∧ hasB (packW used own final taken age gen) 1 = used ∧ hasB (packW used own final taken age gen) 4 = final ∧
    hasB (packW used own final taken age gen) 8 = taken ∧ packW used own final taken age gen / 256 % 256 = age ∧ packW used own final taken age gen / 4294967296 = gen ∧ numB (packW used own final taken age gen) 2 = bit own 1 := by
  have hb := bits_lt used own final taken
  have key : ∀ a : Int, 0 ≤ a → a < 16 → (a + age * 256 + gen * 4294967296) % 16 = a := by intro a; omega
  unfold packW
  refine ⟨by omega, by omega, ?_, ?_, ?_, by omega, by omega, ?_⟩
  · unfold hasB; cases used <;> cases own <;> cases final <;> cases taken <;> simp [bit] <;> omega
  · unfold hasB; cases used <;> cases own <;> cases final <;> cases taken <;> simp [bit] <;> omega
  · unfold hasB; cases used <;> cases own <;> cases final <;> cases taken <;> simp [bit] <;> omega
  · unfold numB; cases used <;> cases own <;> cases final <;> cases taken <;> simp [bit] <;> omega

/-- The colour of an int's lowest bit. -/
theorem and1_i64 (m : Int) : bits .and .i64 m 1 = 0 ∨ bits .and .i64 m 1 = 1 := by
  have e : (BitVec.ofInt 64 m &&& BitVec.ofInt 64 1).toNat = (BitVec.ofInt 64 m).toNat % 2 := by
    rw [BitVec.toNat_and]
    exact Nat.and_two_pow_sub_one_eq_mod _ 1
  have h : bits .and .i64 m 1 = IntKind.i64.wrap ((BitVec.ofInt 64 m &&& BitVec.ofInt 64 1).toNat : Int) := rfl
  rw [h, e]
  have h2 : (BitVec.ofInt 64 m).toNat % 2 = 0 ∨ (BitVec.ofInt 64 m).toNat % 2 = 1 := by omega
  rcases h2 with h2 | h2 <;> rw [h2]
  · left; rfl
  · right; rfl

theorem unpack_packed (used own final taken : Bool) (age gen : Int) (ha0 : 0 ≤ age) (ha1 : age ≤ 255) (hg0 : 0 ≤ gen) (hg1 : gen ≤ 4294967295) (w : World) :
    Calls Try.prog 21 #[.int .u64 (packW used own final taken age gen)] w fun e w' => e = .returned (.tuple #[.agg #[.bool used, .bool false, .bool final, .bool taken, .int .i64 age, .int .u64 gen, .int .u64 0, .int .u64 0, .slice none 0 0], .int .i64 (bit own 1)]) ∧ Below w.heap.size w w' := by
  obtain ⟨p0, p1, p2, p3, p4, p5, p6, p7⟩ := packW_parts used own final taken age gen ha0 ha1 hg0 hg1
  have h := unpack_word _ p0 p1 w
  rw [p2, p3, p4, p5, p6, p7] at h
  exact h

theorem live_back (live : Bool) (c : Int) (hc : c = 0 ∨ c = 1) : (bit (ownB live c) 1 == c) = live := by
  rcases hc with rfl | rfl <;> cases live <;> rfl

/-- What is a moment has its parts. -/
theorem mom_back (x : Int) (h0 : 0 ≤ x) (h1 : x < 18446744073709551616) (hp : x % 8 ≤ 4) (w : World) :
    Calls Try.prog 24 #[.int .i64 (x % 8), .int .i64 (numB x 8), .int .u64 (x / 256)] w fun e w' => e = .returned (.tuple #[.int .u64 (bits .andNot .u64 x 240), .int .i64 0]) ∧ w' = w := by
  have hn := numB_01 x 8
  have hb : momB (x % 8) (numB x 8) (x / 256) = true := by unfold momB; simp; omega
  have h := mom_word (x % 8) (numB x 8) (x / 256) (by omega) w
  unfold momV momE at h
  rw [hb] at h
  have e : x % 8 + numB x 8 * 8 + x / 256 * 256 = bits .andNot .u64 x 240 := by
    rw [mask_phase x h0 h1]; unfold numB; omega
  rw [if_pos rfl, if_pos rfl, e] at h
  exact h
theorem mom_none (x : Int) (h0 : 0 ≤ x) (hp : 4 < x % 8) (w : World) :
    Calls Try.prog 24 #[.int .i64 (x % 8), .int .i64 (numB x 8), .int .u64 (x / 256)] w fun e w' => e = .returned (.tuple #[.int .u64 0, .int .i64 10]) ∧ w' = w :=
  mom_word_big (x % 8) (numB x 8) (x / 256) (by omega) hp w

/-- Behind one store into a block of the call's own, some draws, and a call that turns nothing old. -/
theorem after_store {w4 w5 : World} {B k n : Nat} {v : Value} (h : Below ((w4.drewN n).setCell ⟨B, k, none⟩ v).heap.size ((w4.drewN n).setCell ⟨B, k, none⟩ v) w5) :
    (∀ b o, b < w4.heap.size → (b ≠ B ∨ o ≠ k) → w5.cell? ⟨b, o, none⟩ = w4.cell? ⟨b, o, none⟩) ∧
    (∀ u, w4.cell? ⟨B, k, none⟩ = some u → B < w4.heap.size → w5.cell? ⟨B, k, none⟩ = some v) ∧ w4.heap.size ≤ w5.heap.size ∧ (∀ w, Below B w w4 → B ≤ w4.heap.size → Below B w w5) := by
  have hz : ((w4.drewN n).setCell ⟨B, k, none⟩ v).heap.size = w4.heap.size := by simp [World.setCell]
  refine ⟨fun b o hb hne => ?_, fun u hu hB => ?_, ?_, fun w hw hB => ?_⟩
  · rw [h.cell (p := ⟨b, o, none⟩) (by rw [hz]; exact hb), World.cell?_setCell_other _ _ _ _ (by intro e; cases e; simp at hne)]
    rfl
  · rw [h.cell (p := ⟨B, k, none⟩) (by rw [hz]; exact hB)]
    exact World.cell?_setCell_same _ _ _ (u := u) hu
  · have := h.size; rw [hz] at this; exact this
  · exact ((below_drewN hw n).setCell (Nat.le_refl _) v).trans (h.mono (by rw [hz]; exact hB))
end Go.Proofs.Ytjonllmhgpfndaa
