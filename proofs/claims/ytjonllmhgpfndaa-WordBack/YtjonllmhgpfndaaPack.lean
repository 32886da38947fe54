/-
  What Pack returns, in package word and in the document's answer, for every object and every colour, and that it turns nothing that was there.
-/
import Derived.Test.YtjonllmhgpfndaaLeaf
import Derived.Deep.QuietTactic
import Derived.BigQuiet
import Derived.Below
namespace Go.Proofs.Ytjonllmhgpfndaa
open Go.RowKit
set_option linter.unusedVariables false

theorem ret_two {k l : IntKind} {a b c d : Int} (h : a = b) (h' : c = d) : Ending.returned (.tuple #[.int k a, .int l c]) = .returned (.tuple #[.int k b, .int l d]) := by rw [h, h']

def packOk (age gen c : Int) : Prop := (c = 0 ∨ c = 1) ∧ 0 ≤ age ∧ age ≤ 255 ∧ gen ≤ 4294967295
def ownB (live : Bool) (c : Int) : Bool := if live then c == 1 else !(c == 1)
def packW (used own final taken : Bool) (age gen : Int) : Int := bit used 1 + bit own 2 + bit final 4 + bit taken 8 + age * 256 + gen * 4294967296

theorem or_bits (u o f t : Bool) : bits .or .u64 (bits .or .u64 (bits .or .u64 (bit u 1) (bit o 2)) (bit f 4)) (bit t 8) = bit u 1 + bit o 2 + bit f 4 + bit t 8 := by
  rw [or1 (bit u 1) (bit o 2) (by cases u <;> simp [bit]) (by cases u <;> simp [bit]) (by cases o <;> simp [bit]) (by cases o <;> simp [bit]) (by cases o <;> simp [bit])]
  rw [or2 _ (bit f 4) (by cases u <;> cases o <;> simp [bit]) (by cases u <;> cases o <;> simp [bit]) (by cases f <;> simp [bit]) (by cases f <;> simp [bit]) (by cases f <;> simp [bit])]
  rw [or3 _ (bit t 8) (by cases u <;> cases o <;> cases f <;> simp [bit]) (by cases u <;> cases o <;> cases f <;> simp [bit]) (by cases t <;> simp [bit]) (by cases t <;> simp [bit]) (by cases t <;> simp [bit])]

theorem bits_lt (u o f t : Bool) : 0 ≤ bit u 1 + bit o 2 + bit f 4 + bit t 8 ∧ bit u 1 + bit o 2 + bit f 4 + bit t 8 < 16 := by
  cases u <;> cases o <;> cases f <;> cases t <;> simp [bit]


theorem pack_eq (u o f t : Bool) (age gen : Int) (ha0 : 0 ≤ age) (ha1 : age ≤ 255) (hg0 : 0 ≤ gen) (hg1 : gen ≤ 4294967295) :
    bits .or .u64 (bits .or .u64 (bits .or .u64 (bits .or .u64 (bits .or .u64 (bit u 1) (bit o 2)) (bit f 4)) (bit t 8)) (age * 256)) (gen * 4294967296) = packW u o f t age gen := by
  have hb := bits_lt u o f t
  rw [or_bits, or8 _ (age * 256) (by omega) (by omega) (by omega) (by omega) (by omega), or32 _ (gen * 4294967296) (by omega) (by omega) (by omega) (by omega) (by omega)]
  rfl

theorem pack_eq_ref (u o f t : Bool) (age gen : Int) (ha0 : 0 ≤ age) (ha1 : age ≤ 255) (hg0 : 0 ≤ gen) (hg1 : gen ≤ 4294967295) :
    IntKind.u64.wrap (IntKind.u64.wrap (IntKind.u64.wrap (IntKind.u64.wrap (IntKind.u64.wrap (bit u 1 + bit o 2) + bit f 4) + bit t 8) + age * 256) + gen * 4294967296) = packW u o f t age gen := by
  have e1 : bit u 1 = 0 ∨ bit u 1 = 1 := by cases u <;> simp [bit]
  have e2 : bit o 2 = 0 ∨ bit o 2 = 2 := by cases o <;> simp [bit]
  have e3 : bit f 4 = 0 ∨ bit f 4 = 4 := by cases f <;> simp [bit]
  have e4 : bit t 8 = 0 ∨ bit t 8 = 8 := by cases t <;> simp [bit]
  simp only [wrapU, packW]
  omega

theorem below_box (w : World) (o : Obj) (n : Nat) : Below w.heap.size w ((w.alloc o).drewN n) := below_drewN ((Below.refl _ _).alloc (Nat.le_refl _) _) n

set_option maxHeartbeats 400000 in
theorem pack_word_ok_true0 (used final taken : Bool) (age gen link next : Int) (s : Value) (ha0 : 0 ≤ age) (ha1 : age ≤ 255) (hg0 : 0 ≤ gen) (hg1 : gen ≤ 4294967295) (w : World) :
    Calls Try.prog 19 #[.agg #[.bool used, .bool true, .bool final, .bool taken, .int .i64 age, .int .u64 gen, .int .u64 link, .int .u64 next, s], .int .i64 0] w fun e w' =>
      e = .returned (.tuple #[.int .u64 (packW used false final taken age gen), .int .i64 0]) ∧ Below w.heap.size w w' := by
  go_enter Try.func19, Try.ntmps19
  go_wp2_with (go_at_call 31; refine (isColour_any _ _).mono ?_; rintro e w' ⟨rfl, rfl⟩)
  go_quiet ((go_at_call 32; exact Calls.quiet_of_same (bitIf_any _ _ _)))
  go_wp2
  go_ret2
  exact ⟨ret_two (pack_eq used false final taken age gen ha0 ha1 hg0 hg1) rfl, below_box _ _ _⟩

set_option maxHeartbeats 400000 in
theorem pack_word_ok_true1 (used final taken : Bool) (age gen link next : Int) (s : Value) (ha0 : 0 ≤ age) (ha1 : age ≤ 255) (hg0 : 0 ≤ gen) (hg1 : gen ≤ 4294967295) (w : World) :
    Calls Try.prog 19 #[.agg #[.bool used, .bool true, .bool final, .bool taken, .int .i64 age, .int .u64 gen, .int .u64 link, .int .u64 next, s], .int .i64 1] w fun e w' =>
      e = .returned (.tuple #[.int .u64 (packW used true final taken age gen), .int .i64 0]) ∧ Below w.heap.size w w' := by
  go_enter Try.func19, Try.ntmps19
  go_wp2_with (go_at_call 31; refine (isColour_any _ _).mono ?_; rintro e w' ⟨rfl, rfl⟩)
  go_quiet ((go_at_call 32; exact Calls.quiet_of_same (bitIf_any _ _ _)))
  go_wp2
  go_ret2
  exact ⟨ret_two (pack_eq used true final taken age gen ha0 ha1 hg0 hg1) rfl, below_box _ _ _⟩

set_option maxHeartbeats 400000 in
theorem pack_word_ok_false0 (used final taken : Bool) (age gen link next : Int) (s : Value) (ha0 : 0 ≤ age) (ha1 : age ≤ 255) (hg0 : 0 ≤ gen) (hg1 : gen ≤ 4294967295) (w : World) :
    Calls Try.prog 19 #[.agg #[.bool used, .bool false, .bool final, .bool taken, .int .i64 age, .int .u64 gen, .int .u64 link, .int .u64 next, s], .int .i64 0] w fun e w' =>
      e = .returned (.tuple #[.int .u64 (packW used true final taken age gen), .int .i64 0]) ∧ Below w.heap.size w w' := by
  go_enter Try.func19, Try.ntmps19
  go_wp2_with (go_at_call 31; refine (isColour_any _ _).mono ?_; rintro e w' ⟨rfl, rfl⟩)
  go_quiet ((go_at_call 32; exact Calls.quiet_of_same (bitIf_any _ _ _)))
  go_wp2
  go_ret2
  exact ⟨ret_two (pack_eq used true final taken age gen ha0 ha1 hg0 hg1) rfl, below_box _ _ _⟩

set_option maxHeartbeats 400000 in
theorem pack_word_ok_false1 (used final taken : Bool) (age gen link next : Int) (s : Value) (ha0 : 0 ≤ age) (ha1 : age ≤ 255) (hg0 : 0 ≤ gen) (hg1 : gen ≤ 4294967295) (w : World) :
    Calls Try.prog 19 #[.agg #[.bool used, .bool false, .bool final, .bool taken, .int .i64 age, .int .u64 gen, .int .u64 link, .int .u64 next, s], .int .i64 1] w fun e w' =>
      e = .returned (.tuple #[.int .u64 (packW used false final taken age gen), .int .i64 0]) ∧ Below w.heap.size w w' := by
  go_enter Try.func19, Try.ntmps19
  go_wp2_with (go_at_call 31; refine (isColour_any _ _).mono ?_; rintro e w' ⟨rfl, rfl⟩)
  go_quiet ((go_at_call 32; exact Calls.quiet_of_same (bitIf_any _ _ _)))
  go_wp2
  go_ret2
  exact ⟨ret_two (pack_eq used false final taken age gen ha0 ha1 hg0 hg1) rfl, below_box _ _ _⟩

set_option maxHeartbeats 400000 in
theorem pack_ref_ok_true0 (used final taken : Bool) (age gen link next : Int) (s : Value) (ha0 : 0 ≤ age) (ha1 : age ≤ 255) (hg0 : 0 ≤ gen) (hg1 : gen ≤ 4294967295) (w : World) :
    Calls Try.prog 18 #[.agg #[.bool used, .bool true, .bool final, .bool taken, .int .i64 age, .int .u64 gen, .int .u64 link, .int .u64 next, s], .int .i64 0] w fun e w' =>
      e = .returned (.tuple #[.int .u64 (packW used false final taken age gen), .int .i64 0]) ∧ Below w.heap.size w w' := by
  go_enter Try.func18, Try.ntmps18
  go_wp2_with fail
  go_quiet ((go_at_call 30; exact Calls.quiet_of_same (bit_ref _ _ _)))
  go_wp2
  go_ret2
  exact ⟨ret_two (pack_eq_ref used false final taken age gen ha0 ha1 hg0 hg1) rfl, below_box _ _ _⟩

set_option maxHeartbeats 400000 in
theorem pack_ref_ok_true1 (used final taken : Bool) (age gen link next : Int) (s : Value) (ha0 : 0 ≤ age) (ha1 : age ≤ 255) (hg0 : 0 ≤ gen) (hg1 : gen ≤ 4294967295) (w : World) :
    Calls Try.prog 18 #[.agg #[.bool used, .bool true, .bool final, .bool taken, .int .i64 age, .int .u64 gen, .int .u64 link, .int .u64 next, s], .int .i64 1] w fun e w' =>
      e = .returned (.tuple #[.int .u64 (packW used true final taken age gen), .int .i64 0]) ∧ Below w.heap.size w w' := by
  go_enter Try.func18, Try.ntmps18
  go_wp2_with fail
  go_quiet ((go_at_call 30; exact Calls.quiet_of_same (bit_ref _ _ _)))
  go_wp2
  go_ret2
  exact ⟨ret_two (pack_eq_ref used true final taken age gen ha0 ha1 hg0 hg1) rfl, below_box _ _ _⟩

set_option maxHeartbeats 400000 in
theorem pack_ref_ok_false0 (used final taken : Bool) (age gen link next : Int) (s : Value) (ha0 : 0 ≤ age) (ha1 : age ≤ 255) (hg0 : 0 ≤ gen) (hg1 : gen ≤ 4294967295) (w : World) :
    Calls Try.prog 18 #[.agg #[.bool used, .bool false, .bool final, .bool taken, .int .i64 age, .int .u64 gen, .int .u64 link, .int .u64 next, s], .int .i64 0] w fun e w' =>
      e = .returned (.tuple #[.int .u64 (packW used true final taken age gen), .int .i64 0]) ∧ Below w.heap.size w w' := by
  go_enter Try.func18, Try.ntmps18
  go_wp2_with fail
  go_quiet ((go_at_call 30; exact Calls.quiet_of_same (bit_ref _ _ _)))
  go_wp2
  go_ret2
  exact ⟨ret_two (pack_eq_ref used true final taken age gen ha0 ha1 hg0 hg1) rfl, below_box _ _ _⟩

set_option maxHeartbeats 400000 in
theorem pack_ref_ok_false1 (used final taken : Bool) (age gen link next : Int) (s : Value) (ha0 : 0 ≤ age) (ha1 : age ≤ 255) (hg0 : 0 ≤ gen) (hg1 : gen ≤ 4294967295) (w : World) :
    Calls Try.prog 18 #[.agg #[.bool used, .bool false, .bool final, .bool taken, .int .i64 age, .int .u64 gen, .int .u64 link, .int .u64 next, s], .int .i64 1] w fun e w' =>
      e = .returned (.tuple #[.int .u64 (packW used false final taken age gen), .int .i64 0]) ∧ Below w.heap.size w w' := by
  go_enter Try.func18, Try.ntmps18
  go_wp2_with fail
  go_quiet ((go_at_call 30; exact Calls.quiet_of_same (bit_ref _ _ _)))
  go_wp2
  go_ret2
  exact ⟨ret_two (pack_eq_ref used false final taken age gen ha0 ha1 hg0 hg1) rfl, below_box _ _ _⟩

set_option maxHeartbeats 400000 in
theorem pack_word_colour (used live final taken : Bool) (age gen link next : Int) (s : Value) (c : Int) (hb0 : (c == 0) = false) (hb1 : (c == 1) = false) (w : World) :
    Calls Try.prog 19 #[.agg #[.bool used, .bool live, .bool final, .bool taken, .int .i64 age, .int .u64 gen, .int .u64 link, .int .u64 next, s], .int .i64 c] w fun e w' =>
      e = .returned (.tuple #[.int .u64 0, .int .i64 10]) ∧ Below w.heap.size w w' := by
  go_enter Try.func19, Try.ntmps19
  go_wp2_with (go_at_call 31; refine (isColour_any _ _).mono ?_; rintro e w' ⟨rfl, rfl⟩)
  go_ret2
  exact ⟨rfl, below_box _ _ 0⟩

set_option maxHeartbeats 400000 in
theorem pack_word_neg0 (used live final taken : Bool) (age gen link next : Int) (s : Value) (ha : age < 0) (w : World) :
    Calls Try.prog 19 #[.agg #[.bool used, .bool live, .bool final, .bool taken, .int .i64 age, .int .u64 gen, .int .u64 link, .int .u64 next, s], .int .i64 0] w fun e w' =>
      e = .returned (.tuple #[.int .u64 0, .int .i64 10]) ∧ Below w.heap.size w w' := by
  go_enter Try.func19, Try.ntmps19
  go_wp2_with (go_at_call 31; refine (isColour_any _ _).mono ?_; rintro e w' ⟨rfl, rfl⟩)
  go_ret2
  exact ⟨rfl, below_box _ _ 0⟩

set_option maxHeartbeats 400000 in
theorem pack_word_old0 (used live final taken : Bool) (age gen link next : Int) (s : Value) (ha0 : 0 ≤ age) (ha : 255 < age) (w : World) :
    Calls Try.prog 19 #[.agg #[.bool used, .bool live, .bool final, .bool taken, .int .i64 age, .int .u64 gen, .int .u64 link, .int .u64 next, s], .int .i64 0] w fun e w' =>
      e = .returned (.tuple #[.int .u64 0, .int .i64 10]) ∧ Below w.heap.size w w' := by
  go_enter Try.func19, Try.ntmps19
  go_wp2_with (go_at_call 31; refine (isColour_any _ _).mono ?_; rintro e w' ⟨rfl, rfl⟩)
  go_ret2
  exact ⟨rfl, below_box _ _ 0⟩

set_option maxHeartbeats 400000 in
theorem pack_word_gen0 (used live final taken : Bool) (age gen link next : Int) (s : Value) (ha0 : 0 ≤ age) (ha : age ≤ 255) (hg : 4294967295 < gen) (w : World) :
    Calls Try.prog 19 #[.agg #[.bool used, .bool live, .bool final, .bool taken, .int .i64 age, .int .u64 gen, .int .u64 link, .int .u64 next, s], .int .i64 0] w fun e w' =>
      e = .returned (.tuple #[.int .u64 0, .int .i64 10]) ∧ Below w.heap.size w w' := by
  go_enter Try.func19, Try.ntmps19
  go_wp2_with (go_at_call 31; refine (isColour_any _ _).mono ?_; rintro e w' ⟨rfl, rfl⟩)
  go_ret2
  exact ⟨rfl, below_box _ _ 0⟩

set_option maxHeartbeats 400000 in
theorem pack_word_neg1 (used live final taken : Bool) (age gen link next : Int) (s : Value) (ha : age < 0) (w : World) :
    Calls Try.prog 19 #[.agg #[.bool used, .bool live, .bool final, .bool taken, .int .i64 age, .int .u64 gen, .int .u64 link, .int .u64 next, s], .int .i64 1] w fun e w' =>
      e = .returned (.tuple #[.int .u64 0, .int .i64 10]) ∧ Below w.heap.size w w' := by
  go_enter Try.func19, Try.ntmps19
  go_wp2_with (go_at_call 31; refine (isColour_any _ _).mono ?_; rintro e w' ⟨rfl, rfl⟩)
  go_ret2
  exact ⟨rfl, below_box _ _ 0⟩

set_option maxHeartbeats 400000 in
theorem pack_word_old1 (used live final taken : Bool) (age gen link next : Int) (s : Value) (ha0 : 0 ≤ age) (ha : 255 < age) (w : World) :
    Calls Try.prog 19 #[.agg #[.bool used, .bool live, .bool final, .bool taken, .int .i64 age, .int .u64 gen, .int .u64 link, .int .u64 next, s], .int .i64 1] w fun e w' =>
      e = .returned (.tuple #[.int .u64 0, .int .i64 10]) ∧ Below w.heap.size w w' := by
  go_enter Try.func19, Try.ntmps19
  go_wp2_with (go_at_call 31; refine (isColour_any _ _).mono ?_; rintro e w' ⟨rfl, rfl⟩)
  go_ret2
  exact ⟨rfl, below_box _ _ 0⟩

set_option maxHeartbeats 400000 in
theorem pack_word_gen1 (used live final taken : Bool) (age gen link next : Int) (s : Value) (ha0 : 0 ≤ age) (ha : age ≤ 255) (hg : 4294967295 < gen) (w : World) :
    Calls Try.prog 19 #[.agg #[.bool used, .bool live, .bool final, .bool taken, .int .i64 age, .int .u64 gen, .int .u64 link, .int .u64 next, s], .int .i64 1] w fun e w' =>
      e = .returned (.tuple #[.int .u64 0, .int .i64 10]) ∧ Below w.heap.size w w' := by
  go_enter Try.func19, Try.ntmps19
  go_wp2_with (go_at_call 31; refine (isColour_any _ _).mono ?_; rintro e w' ⟨rfl, rfl⟩)
  go_ret2
  exact ⟨rfl, below_box _ _ 0⟩

set_option maxHeartbeats 400000 in
theorem pack_ref_colour (used live final taken : Bool) (age gen link next : Int) (s : Value) (c : Int) (hb0 : (c != 0) = true) (hb1 : (c != 1) = true) (hn0 : ¬ c = 0) (hn1 : ¬ c = 1) (w : World) :
    Calls Try.prog 18 #[.agg #[.bool used, .bool live, .bool final, .bool taken, .int .i64 age, .int .u64 gen, .int .u64 link, .int .u64 next, s], .int .i64 c] w fun e w' =>
      e = .returned (.tuple #[.int .u64 0, .int .i64 10]) ∧ Below w.heap.size w w' := by
  go_enter Try.func18, Try.ntmps18
  go_wp2
  go_ret2
  exact ⟨rfl, below_box _ _ 0⟩

set_option maxHeartbeats 400000 in
theorem pack_ref_neg0 (used live final taken : Bool) (age gen link next : Int) (s : Value) (ha : age < 0) (w : World) :
    Calls Try.prog 18 #[.agg #[.bool used, .bool live, .bool final, .bool taken, .int .i64 age, .int .u64 gen, .int .u64 link, .int .u64 next, s], .int .i64 0] w fun e w' =>
      e = .returned (.tuple #[.int .u64 0, .int .i64 10]) ∧ Below w.heap.size w w' := by
  go_enter Try.func18, Try.ntmps18
  go_wp2
  go_ret2
  exact ⟨rfl, below_box _ _ 0⟩

set_option maxHeartbeats 400000 in
theorem pack_ref_old0 (used live final taken : Bool) (age gen link next : Int) (s : Value) (ha0 : 0 ≤ age) (ha : 255 < age) (w : World) :
    Calls Try.prog 18 #[.agg #[.bool used, .bool live, .bool final, .bool taken, .int .i64 age, .int .u64 gen, .int .u64 link, .int .u64 next, s], .int .i64 0] w fun e w' =>
      e = .returned (.tuple #[.int .u64 0, .int .i64 10]) ∧ Below w.heap.size w w' := by
  go_enter Try.func18, Try.ntmps18
  go_wp2
  go_ret2
  exact ⟨rfl, below_box _ _ 0⟩

set_option maxHeartbeats 400000 in
theorem pack_ref_gen0 (used live final taken : Bool) (age gen link next : Int) (s : Value) (ha0 : 0 ≤ age) (ha : age ≤ 255) (hg : 4294967295 < gen) (w : World) :
    Calls Try.prog 18 #[.agg #[.bool used, .bool live, .bool final, .bool taken, .int .i64 age, .int .u64 gen, .int .u64 link, .int .u64 next, s], .int .i64 0] w fun e w' =>
      e = .returned (.tuple #[.int .u64 0, .int .i64 10]) ∧ Below w.heap.size w w' := by
  go_enter Try.func18, Try.ntmps18
  go_wp2
  go_ret2
  exact ⟨rfl, below_box _ _ 0⟩

set_option maxHeartbeats 400000 in
theorem pack_ref_neg1 (used live final taken : Bool) (age gen link next : Int) (s : Value) (ha : age < 0) (w : World) :
    Calls Try.prog 18 #[.agg #[.bool used, .bool live, .bool final, .bool taken, .int .i64 age, .int .u64 gen, .int .u64 link, .int .u64 next, s], .int .i64 1] w fun e w' =>
      e = .returned (.tuple #[.int .u64 0, .int .i64 10]) ∧ Below w.heap.size w w' := by
  go_enter Try.func18, Try.ntmps18
  go_wp2
  go_ret2
  exact ⟨rfl, below_box _ _ 0⟩

set_option maxHeartbeats 400000 in
theorem pack_ref_old1 (used live final taken : Bool) (age gen link next : Int) (s : Value) (ha0 : 0 ≤ age) (ha : 255 < age) (w : World) :
    Calls Try.prog 18 #[.agg #[.bool used, .bool live, .bool final, .bool taken, .int .i64 age, .int .u64 gen, .int .u64 link, .int .u64 next, s], .int .i64 1] w fun e w' =>
      e = .returned (.tuple #[.int .u64 0, .int .i64 10]) ∧ Below w.heap.size w w' := by
  go_enter Try.func18, Try.ntmps18
  go_wp2
  go_ret2
  exact ⟨rfl, below_box _ _ 0⟩

set_option maxHeartbeats 400000 in
theorem pack_ref_gen1 (used live final taken : Bool) (age gen link next : Int) (s : Value) (ha0 : 0 ≤ age) (ha : age ≤ 255) (hg : 4294967295 < gen) (w : World) :
    Calls Try.prog 18 #[.agg #[.bool used, .bool live, .bool final, .bool taken, .int .i64 age, .int .u64 gen, .int .u64 link, .int .u64 next, s], .int .i64 1] w fun e w' =>
      e = .returned (.tuple #[.int .u64 0, .int .i64 10]) ∧ Below w.heap.size w w' := by
  go_enter Try.func18, Try.ntmps18
  go_wp2
  go_ret2
  exact ⟨rfl, below_box _ _ 0⟩

/-- What Pack takes, as one test. -/
def packB (age gen c : Int) : Bool := (c == 0 || c == 1) && decide (0 ≤ age) && decide (age ≤ 255) && decide (gen ≤ 4294967295)
def packV (used live final taken : Bool) (age gen c : Int) : Int := if packB age gen c then packW used (ownB live c) final taken age gen else 0
def packE (age gen c : Int) : Int := if packB age gen c then 0 else 10

theorem pack_word (used live final taken : Bool) (age gen link next : Int) (s : Value) (c : Int) (hg0 : 0 ≤ gen) (w : World) :
    Calls Try.prog 19 #[.agg #[.bool used, .bool live, .bool final, .bool taken, .int .i64 age, .int .u64 gen, .int .u64 link, .int .u64 next, s], .int .i64 c] w fun e w' =>
      e = .returned (.tuple #[.int .u64 (packV used live final taken age gen c), .int .i64 (packE age gen c)]) ∧ Below w.heap.size w w' := by
  by_cases hc : c = 0 ∨ c = 1
  · by_cases h1 : age < 0
    · have hb : packB age gen c = false := by unfold packB; simp; omega
      unfold packV packE
      rw [hb]
      rcases hc with rfl | rfl
      · exact pack_word_neg0 used live final taken age gen link next s h1 w
      · exact pack_word_neg1 used live final taken age gen link next s h1 w
    · by_cases h2 : 255 < age
      · have hb : packB age gen c = false := by unfold packB; simp; omega
        unfold packV packE
        rw [hb]
        rcases hc with rfl | rfl
        · exact pack_word_old0 used live final taken age gen link next s (by omega) h2 w
        · exact pack_word_old1 used live final taken age gen link next s (by omega) h2 w
      · by_cases h3 : 4294967295 < gen
        · have hb : packB age gen c = false := by unfold packB; simp; omega
          unfold packV packE
          rw [hb]
          rcases hc with rfl | rfl
          · exact pack_word_gen0 used live final taken age gen link next s (by omega) (by omega) h3 w
          · exact pack_word_gen1 used live final taken age gen link next s (by omega) (by omega) h3 w
        · have hb : packB age gen c = true := by unfold packB; simp; omega
          unfold packV packE
          rw [hb]
          rcases hc with rfl | rfl <;> cases live
          · exact pack_word_ok_false0 used final taken age gen link next s (by omega) (by omega) hg0 (by omega) w
          · exact pack_word_ok_true0 used final taken age gen link next s (by omega) (by omega) hg0 (by omega) w
          · exact pack_word_ok_false1 used final taken age gen link next s (by omega) (by omega) hg0 (by omega) w
          · exact pack_word_ok_true1 used final taken age gen link next s (by omega) (by omega) hg0 (by omega) w
  · have hb : packB age gen c = false := by unfold packB; simp; omega
    unfold packV packE
    rw [hb]
    exact pack_word_colour used live final taken age gen link next s c (beq_eq_false_iff_ne.2 (by omega)) (beq_eq_false_iff_ne.2 (by omega)) w

theorem pack_ref (used live final taken : Bool) (age gen link next : Int) (s : Value) (c : Int) (hg0 : 0 ≤ gen) (w : World) :
    Calls Try.prog 18 #[.agg #[.bool used, .bool live, .bool final, .bool taken, .int .i64 age, .int .u64 gen, .int .u64 link, .int .u64 next, s], .int .i64 c] w fun e w' =>
      e = .returned (.tuple #[.int .u64 (packV used live final taken age gen c), .int .i64 (packE age gen c)]) ∧ Below w.heap.size w w' := by
  by_cases hc : c = 0 ∨ c = 1
  · by_cases h1 : age < 0
    · have hb : packB age gen c = false := by unfold packB; simp; omega
      unfold packV packE
      rw [hb]
      rcases hc with rfl | rfl
      · exact pack_ref_neg0 used live final taken age gen link next s h1 w
      · exact pack_ref_neg1 used live final taken age gen link next s h1 w
    · by_cases h2 : 255 < age
      · have hb : packB age gen c = false := by unfold packB; simp; omega
        unfold packV packE
        rw [hb]
        rcases hc with rfl | rfl
        · exact pack_ref_old0 used live final taken age gen link next s (by omega) h2 w
        · exact pack_ref_old1 used live final taken age gen link next s (by omega) h2 w
      · by_cases h3 : 4294967295 < gen
        · have hb : packB age gen c = false := by unfold packB; simp; omega
          unfold packV packE
          rw [hb]
          rcases hc with rfl | rfl
          · exact pack_ref_gen0 used live final taken age gen link next s (by omega) (by omega) h3 w
          · exact pack_ref_gen1 used live final taken age gen link next s (by omega) (by omega) h3 w
        · have hb : packB age gen c = true := by unfold packB; simp; omega
          unfold packV packE
          rw [hb]
          rcases hc with rfl | rfl <;> cases live
          · exact pack_ref_ok_false0 used final taken age gen link next s (by omega) (by omega) hg0 (by omega) w
          · exact pack_ref_ok_true0 used final taken age gen link next s (by omega) (by omega) hg0 (by omega) w
          · exact pack_ref_ok_false1 used final taken age gen link next s (by omega) (by omega) hg0 (by omega) w
          · exact pack_ref_ok_true1 used final taken age gen link next s (by omega) (by omega) hg0 (by omega) w
  · have hb : packB age gen c = false := by unfold packB; simp; omega
    unfold packV packE
    rw [hb]
    exact pack_ref_colour used live final taken age gen link next s c (bne_iff_ne.2 (by omega)) (bne_iff_ne.2 (by omega)) (by omega) (by omega) w

end Go.Proofs.Ytjonllmhgpfndaa
