/-
  Lemmas: VwBn, WordVP, VwLc, VwH, VwI, VwJ.
-/
import Derived.Test.YtecjegjnnahddaaTp03
import Derived.Test.YtecjegjnnahddaaTp07
import Derived.Deep.QuietTactic
import Derived.BigQuiet
import Derived.Test.YtecjegjnnahddaaTp10
import Derived.Test.YtecjegjnnahddaaTp08
/-
  View, pure: the words that are laid for a view, and what is seen in them
-/
namespace Go.Proofs.Ytecjegjnnahddaa
open Go.RowKit
set_option linter.unusedVariables false
set_option linter.unusedSimpArgs false
set_option linter.unnecessarySimpa false
set_option maxRecDepth 20000
namespace Vw
open Shape

def mo (c : Cv) : Int := bits .or .u64 (momV 0 c.co c.ro) (IntKind.u64.wrap c.ph)
def hdV (l : List Int) : Int := hd (l.headD 0) 0
/-- The word q of an object's. -/
def obW (x : Sh) (c : Cv) (j q : Nat) : Int :=
  if q = 0 then packV (c.ob j).us (c.ob j).li (c.ob j).fi (c.ob j).ta (c.ob j).ag (c.ob j).ge c.co else if q = 1 then (c.ob j).lk else if q = 2 then (c.ob j).nx else if q - 3 < (c.ob j).ns then (c.ob j).sl (q - 3) else 0
/-- The words that are laid. -/
def lwF (x : Sh) (c : Cv) (i : Nat) : Int :=
  if i = 0 then mo c else if i = 1 then hdV c.fr else if i = 2 then hdV c.gr else if i = 3 then hdV c.qu
  else if i < 8 then c.cn (i - 4)
  else if i < bR x then (if i - 8 < c.na then c.ac (i - 8) else 0)
  else if i < bK x then (if (i - bR x) % x.r < c.rn ((i - bR x) / x.r) then c.rt ((i - bR x) / x.r) ((i - bR x) % x.r) else 0)
  else if i < bO x then (if i - bK x < c.nw then c.wk (i - bK x) else 0)
  else obW x c ((i - bO x) / ow x) ((i - bO x) % ow x)

theorem lw_ack {x : Sh} {c : Cv} {i : Nat} (h : i < x.h) : lwF x c (8 + i) = if i < c.na then c.ac i else 0 := by
  have := lay_out x
  unfold lwF
  rw [if_neg (by omega), if_neg (by omega), if_neg (by omega), if_neg (by omega), if_neg (by omega), if_pos (by omega)]
  rw [show 8 + i - 8 = i by omega]
theorem lw_cn {x : Sh} {c : Cv} {i : Nat} (h : i < 4) : lwF x c (4 + i) = c.cn i := by
  unfold lwF
  rw [if_neg (by omega), if_neg (by omega), if_neg (by omega), if_neg (by omega), if_pos (by omega)]
  rw [show 4 + i - 4 = i by omega]
theorem lw_root {x : Sh} {c : Cv} {j q : Nat} (hj : j < x.h) (hq : q < x.r) : lwF x c (bR x + j * x.r + q) = if q < c.rn j then c.rt j q else 0 := by
  have hl := lay_out x
  have h1 : (j + 1) * x.r ≤ x.h * x.r := Nat.mul_le_mul_right _ hj
  rw [Nat.succ_mul] at h1
  unfold lwF
  rw [if_neg (by omega), if_neg (by omega), if_neg (by omega), if_neg (by omega), if_neg (by omega), if_neg (by omega), if_pos (by omega)]
  have e : bR x + j * x.r + q - bR x = q + x.r * j := by rw [Nat.mul_comm x.r j]; omega
  have e1 : (q + x.r * j) % x.r = q := by rw [Nat.add_mul_mod_self_left]; exact Nat.mod_eq_of_lt hq
  have e2 : (q + x.r * j) / x.r = j := by rw [Nat.add_mul_div_left _ _ (by omega), Nat.div_eq_of_lt hq]; omega
  rw [e, e1, e2]
theorem lw_weak {x : Sh} {c : Cv} {i : Nat} (h : i < x.k) : lwF x c (bK x + i) = if i < c.nw then c.wk i else 0 := by
  have := lay_out x
  unfold lwF
  rw [if_neg (by omega), if_neg (by omega), if_neg (by omega), if_neg (by omega), if_neg (by omega), if_neg (by omega), if_neg (by omega), if_pos (by omega)]
  rw [show bK x + i - bK x = i by omega]
theorem lw_obj {x : Sh} {c : Cv} {j q : Nat} (hq : q < ow x) : lwF x c (pO x j + q) = obW x c j q := by
  have hl := lay_out x
  unfold lwF pO
  rw [if_neg (by omega), if_neg (by omega), if_neg (by omega), if_neg (by omega), if_neg (by omega), if_neg (by omega), if_neg (by omega), if_neg (by omega)]
  have e : bO x + j * ow x + q - bO x = q + ow x * j := by rw [Nat.mul_comm (ow x) j]; omega
  have e1 : (q + ow x * j) % ow x = q := by rw [Nat.add_mul_mod_self_left]; exact Nat.mod_eq_of_lt hq
  have e2 : (q + ow x * j) / ow x = j := by rw [Nat.add_mul_div_left _ _ (by omega), Nat.div_eq_of_lt hq]; omega
  rw [e, e1, e2]

/-- Numbers of a view that words can be. -/
structure Bnd (c : Cv) : Prop where
  ro : 0 ≤ c.ro
  cn : ∀ i, i < 4 → 0 ≤ c.cn i ∧ c.cn i < 18446744073709551616
  ac : ∀ i, i < c.na → 0 ≤ c.ac i ∧ c.ac i < 18446744073709551616
  rt : ∀ j, j < c.nr → ∀ i, i < c.rn j → 0 ≤ c.rt j i ∧ c.rt j i < 18446744073709551616
  wk : ∀ i, i < c.nw → 0 ≤ c.wk i ∧ c.wk i < 18446744073709551616
  ob : ∀ j, j < c.no → 0 ≤ (c.ob j).ge ∧ (0 ≤ (c.ob j).lk ∧ (c.ob j).lk < 18446744073709551616) ∧ (0 ≤ (c.ob j).nx ∧ (c.ob j).nx < 18446744073709551616) ∧ ∀ i, i < (c.ob j).ns → 0 ≤ (c.ob j).sl i ∧ (c.ob j).sl i < 18446744073709551616
theorem momV_bnd (p c r : Int) (hr : 0 ≤ r) : 0 ≤ momV p c r ∧ momV p c r < 18446744073709551616 := by
  unfold momV momB
  split
  · rename_i h
    simp at h
    obtain ⟨⟨⟨h1, h2⟩, h3⟩, h4⟩ := h
    rcases h3 with rfl | rfl <;> omega
  · omega
theorem or_bnd (a b : Int) (ha0 : 0 ≤ a) (ha1 : a < 18446744073709551616) (hb0 : 0 ≤ b) (hb1 : b < 18446744073709551616) : 0 ≤ bits .or .u64 a b ∧ bits .or .u64 a b < 18446744073709551616 := by
  rw [u64_or a b ha0 ha1 hb0 hb1]
  have h1 : a.toNat ||| b.toNat < 2 ^ 64 := Nat.or_lt_two_pow (by omega) (by omega)
  omega
theorem mo_bnd {c : Cv} (h : Bnd c) : 0 ≤ mo c ∧ mo c < 18446744073709551616 := by
  have h1 := momV_bnd 0 c.co c.ro h.ro
  exact or_bnd _ _ h1.1 h1.2 (by rw [wrapU]; omega) (by rw [wrapU]; omega)
theorem packV_bnd (u l f t : Bool) (age gen c : Int) (hg : 0 ≤ gen) : 0 ≤ packV u l f t age gen c ∧ packV u l f t age gen c < 18446744073709551616 := by
  unfold packV packB
  split
  · rename_i h
    simp at h
    obtain ⟨⟨⟨h1, h2⟩, h3⟩, h4⟩ := h
    have hb := bits_lt u (ownB l c) f t
    unfold packW
    omega
  · omega
theorem lw_bnd {x : Sh} (H : x.Ok) {c : Cv} (h : Bnd c) (hr : c.nr = x.h) (ho : c.no = x.o) : ∀ i, i < size x → 0 ≤ lwF x c i ∧ lwF x c i < 18446744073709551616 := by
  intro i hi
  have hl := lay_out x
  have hh := fun l : List Int => And.intro (hd_lo (l.headD 0) 0) (hd_hi (l.headD 0) 0)
  by_cases h8 : i < 8
  · have e : i = 0 ∨ i = 1 ∨ i = 2 ∨ i = 3 ∨ ∃ q, q < 4 ∧ i = 4 + q := by
      by_cases i < 4
      · omega
      · exact .inr (.inr (.inr (.inr ⟨i - 4, by omega, by omega⟩)))
    rcases e with rfl | rfl | rfl | rfl | ⟨q, hq, rfl⟩
    · exact mo_bnd h
    · exact hh _
    · exact hh _
    · exact hh _
    · rw [lw_cn hq]; exact h.cn q hq
  · by_cases h1 : i < bR x
    · obtain ⟨q, rfl⟩ : ∃ q, i = 8 + q := ⟨i - 8, by omega⟩
      rw [lw_ack (by omega)]
      split
      · exact h.ac q (by assumption)
      · omega
    · by_cases h2 : i < bK x
      · have hr1 : 0 < x.r := H.r1
        obtain ⟨m, rfl⟩ : ∃ m, i = bR x + m := ⟨i - bR x, by omega⟩
        have e1 : m / x.r < x.h := Nat.div_lt_of_lt_mul (by rw [Nat.mul_comm]; omega)
        have e2 := Nat.mod_lt m hr1
        have e3 := Nat.div_add_mod m x.r
        rw [show bR x + m = bR x + m / x.r * x.r + m % x.r by rw [Nat.mul_comm (m / x.r)]; omega, lw_root e1 e2]
        split
        · exact h.rt _ (by omega) _ (by assumption)
        · omega
      · by_cases h3 : i < bO x
        · obtain ⟨q, rfl⟩ : ∃ q, i = bK x + q := ⟨i - bK x, by omega⟩
          rw [lw_weak (by omega)]
          split
          · exact h.wk q (by assumption)
          · omega
        · obtain ⟨m, rfl⟩ : ∃ m, i = bO x + m := ⟨i - bO x, by omega⟩
          have hw : 0 < ow x := by omega
          have e1 : m / ow x < x.o := Nat.div_lt_of_lt_mul (by rw [Nat.mul_comm]; omega)
          have e2 := Nat.mod_lt m hw
          have e3 := Nat.div_add_mod m (ow x)
          have hob := h.ob (m / ow x) (by omega)
          rw [show bO x + m = pO x (m / ow x) + m % ow x by unfold pO; rw [Nat.mul_comm (m / ow x)]; omega, lw_obj e2]
          unfold obW
          split
          · exact packV_bnd _ _ _ _ _ _ _ hob.1
          · split
            · exact hob.2.1
            · split
              · exact hob.2.2.1
              · split
                · exact hob.2.2.2 _ (by assumption)
                · omega
end Vw
end Go.Proofs.Ytecjegjnnahddaa

/-
  Words: Pack and Moment of the package.
-/
namespace Go.Proofs.Ytecjegjnnahddaa
open Go.RowKit
set_option linter.unusedVariables false
set_option linter.unusedSimpArgs false
set_option maxRecDepth 20000
set_option maxHeartbeats 400000 in
theorem pack_word_ok_true0 (used final taken : Bool) (age gen link next : Int) (s : Value) (ha0 : 0 ≤ age) (ha1 : age ≤ 255) (hg0 : 0 ≤ gen) (hg1 : gen ≤ 4294967295) (w : World) :
    Calls Try.prog 93 #[.agg #[.bool used, .bool true, .bool final, .bool taken, .int .i64 age, .int .u64 gen, .int .u64 link, .int .u64 next, s], .int .i64 0] w fun e w' =>
      e = .returned (.tuple #[.int .u64 (packW used false final taken age gen), .int .i64 0]) ∧ Below w.heap.size w w' := by
  go_enter Try.func93, Try.ntmps93
  go_wp2_with (go_at_call 105; refine (isColour_any _ _).mono ?_; rintro e w' ⟨rfl, rfl⟩)
  go_quiet ((go_at_call 106; exact Calls.quiet_of_same (bitIf_any _ _ _)))
  go_wp2
  go_ret2
  exact ⟨ret_two (pack_eq used false final taken age gen ha0 ha1 hg0 hg1) rfl, below_box _ _ _⟩

set_option maxHeartbeats 400000 in
theorem pack_word_ok_true1 (used final taken : Bool) (age gen link next : Int) (s : Value) (ha0 : 0 ≤ age) (ha1 : age ≤ 255) (hg0 : 0 ≤ gen) (hg1 : gen ≤ 4294967295) (w : World) :
    Calls Try.prog 93 #[.agg #[.bool used, .bool true, .bool final, .bool taken, .int .i64 age, .int .u64 gen, .int .u64 link, .int .u64 next, s], .int .i64 1] w fun e w' =>
      e = .returned (.tuple #[.int .u64 (packW used true final taken age gen), .int .i64 0]) ∧ Below w.heap.size w w' := by
  go_enter Try.func93, Try.ntmps93
  go_wp2_with (go_at_call 105; refine (isColour_any _ _).mono ?_; rintro e w' ⟨rfl, rfl⟩)
  go_quiet ((go_at_call 106; exact Calls.quiet_of_same (bitIf_any _ _ _)))
  go_wp2
  go_ret2
  exact ⟨ret_two (pack_eq used true final taken age gen ha0 ha1 hg0 hg1) rfl, below_box _ _ _⟩

set_option maxHeartbeats 400000 in
theorem pack_word_ok_false0 (used final taken : Bool) (age gen link next : Int) (s : Value) (ha0 : 0 ≤ age) (ha1 : age ≤ 255) (hg0 : 0 ≤ gen) (hg1 : gen ≤ 4294967295) (w : World) :
    Calls Try.prog 93 #[.agg #[.bool used, .bool false, .bool final, .bool taken, .int .i64 age, .int .u64 gen, .int .u64 link, .int .u64 next, s], .int .i64 0] w fun e w' =>
      e = .returned (.tuple #[.int .u64 (packW used true final taken age gen), .int .i64 0]) ∧ Below w.heap.size w w' := by
  go_enter Try.func93, Try.ntmps93
  go_wp2_with (go_at_call 105; refine (isColour_any _ _).mono ?_; rintro e w' ⟨rfl, rfl⟩)
  go_quiet ((go_at_call 106; exact Calls.quiet_of_same (bitIf_any _ _ _)))
  go_wp2
  go_ret2
  exact ⟨ret_two (pack_eq used true final taken age gen ha0 ha1 hg0 hg1) rfl, below_box _ _ _⟩

set_option maxHeartbeats 400000 in
theorem pack_word_ok_false1 (used final taken : Bool) (age gen link next : Int) (s : Value) (ha0 : 0 ≤ age) (ha1 : age ≤ 255) (hg0 : 0 ≤ gen) (hg1 : gen ≤ 4294967295) (w : World) :
    Calls Try.prog 93 #[.agg #[.bool used, .bool false, .bool final, .bool taken, .int .i64 age, .int .u64 gen, .int .u64 link, .int .u64 next, s], .int .i64 1] w fun e w' =>
      e = .returned (.tuple #[.int .u64 (packW used false final taken age gen), .int .i64 0]) ∧ Below w.heap.size w w' := by
  go_enter Try.func93, Try.ntmps93
  go_wp2_with (go_at_call 105; refine (isColour_any _ _).mono ?_; rintro e w' ⟨rfl, rfl⟩)
  go_quiet ((go_at_call 106; exact Calls.quiet_of_same (bitIf_any _ _ _)))
  go_wp2
  go_ret2
  exact ⟨ret_two (pack_eq used false final taken age gen ha0 ha1 hg0 hg1) rfl, below_box _ _ _⟩

set_option maxHeartbeats 400000 in
theorem pack_word_colour (used live final taken : Bool) (age gen link next : Int) (s : Value) (c : Int) (hb0 : (c == 0) = false) (hb1 : (c == 1) = false) (w : World) :
    Calls Try.prog 93 #[.agg #[.bool used, .bool live, .bool final, .bool taken, .int .i64 age, .int .u64 gen, .int .u64 link, .int .u64 next, s], .int .i64 c] w fun e w' =>
      e = .returned (.tuple #[.int .u64 0, .int .i64 10]) ∧ Below w.heap.size w w' := by
  go_enter Try.func93, Try.ntmps93
  go_wp2_with (go_at_call 105; refine (isColour_any _ _).mono ?_; rintro e w' ⟨rfl, rfl⟩)
  go_ret2
  exact ⟨rfl, below_box _ _ 0⟩

set_option maxHeartbeats 400000 in
theorem pack_word_neg0 (used live final taken : Bool) (age gen link next : Int) (s : Value) (ha : age < 0) (w : World) :
    Calls Try.prog 93 #[.agg #[.bool used, .bool live, .bool final, .bool taken, .int .i64 age, .int .u64 gen, .int .u64 link, .int .u64 next, s], .int .i64 0] w fun e w' =>
      e = .returned (.tuple #[.int .u64 0, .int .i64 10]) ∧ Below w.heap.size w w' := by
  go_enter Try.func93, Try.ntmps93
  go_wp2_with (go_at_call 105; refine (isColour_any _ _).mono ?_; rintro e w' ⟨rfl, rfl⟩)
  go_ret2
  exact ⟨rfl, below_box _ _ 0⟩

set_option maxHeartbeats 400000 in
theorem pack_word_old0 (used live final taken : Bool) (age gen link next : Int) (s : Value) (ha0 : 0 ≤ age) (ha : 255 < age) (w : World) :
    Calls Try.prog 93 #[.agg #[.bool used, .bool live, .bool final, .bool taken, .int .i64 age, .int .u64 gen, .int .u64 link, .int .u64 next, s], .int .i64 0] w fun e w' =>
      e = .returned (.tuple #[.int .u64 0, .int .i64 10]) ∧ Below w.heap.size w w' := by
  go_enter Try.func93, Try.ntmps93
  go_wp2_with (go_at_call 105; refine (isColour_any _ _).mono ?_; rintro e w' ⟨rfl, rfl⟩)
  go_ret2
  exact ⟨rfl, below_box _ _ 0⟩

set_option maxHeartbeats 400000 in
theorem pack_word_gen0 (used live final taken : Bool) (age gen link next : Int) (s : Value) (ha0 : 0 ≤ age) (ha : age ≤ 255) (hg : 4294967295 < gen) (w : World) :
    Calls Try.prog 93 #[.agg #[.bool used, .bool live, .bool final, .bool taken, .int .i64 age, .int .u64 gen, .int .u64 link, .int .u64 next, s], .int .i64 0] w fun e w' =>
      e = .returned (.tuple #[.int .u64 0, .int .i64 10]) ∧ Below w.heap.size w w' := by
  go_enter Try.func93, Try.ntmps93
  go_wp2_with (go_at_call 105; refine (isColour_any _ _).mono ?_; rintro e w' ⟨rfl, rfl⟩)
  go_ret2
  exact ⟨rfl, below_box _ _ 0⟩

set_option maxHeartbeats 400000 in
theorem pack_word_neg1 (used live final taken : Bool) (age gen link next : Int) (s : Value) (ha : age < 0) (w : World) :
    Calls Try.prog 93 #[.agg #[.bool used, .bool live, .bool final, .bool taken, .int .i64 age, .int .u64 gen, .int .u64 link, .int .u64 next, s], .int .i64 1] w fun e w' =>
      e = .returned (.tuple #[.int .u64 0, .int .i64 10]) ∧ Below w.heap.size w w' := by
  go_enter Try.func93, Try.ntmps93
  go_wp2_with (go_at_call 105; refine (isColour_any _ _).mono ?_; rintro e w' ⟨rfl, rfl⟩)
  go_ret2
  exact ⟨rfl, below_box _ _ 0⟩

set_option maxHeartbeats 400000 in
theorem pack_word_old1 (used live final taken : Bool) (age gen link next : Int) (s : Value) (ha0 : 0 ≤ age) (ha : 255 < age) (w : World) :
    Calls Try.prog 93 #[.agg #[.bool used, .bool live, .bool final, .bool taken, .int .i64 age, .int .u64 gen, .int .u64 link, .int .u64 next, s], .int .i64 1] w fun e w' =>
      e = .returned (.tuple #[.int .u64 0, .int .i64 10]) ∧ Below w.heap.size w w' := by
  go_enter Try.func93, Try.ntmps93
  go_wp2_with (go_at_call 105; refine (isColour_any _ _).mono ?_; rintro e w' ⟨rfl, rfl⟩)
  go_ret2
  exact ⟨rfl, below_box _ _ 0⟩

set_option maxHeartbeats 400000 in
theorem pack_word_gen1 (used live final taken : Bool) (age gen link next : Int) (s : Value) (ha0 : 0 ≤ age) (ha : age ≤ 255) (hg : 4294967295 < gen) (w : World) :
    Calls Try.prog 93 #[.agg #[.bool used, .bool live, .bool final, .bool taken, .int .i64 age, .int .u64 gen, .int .u64 link, .int .u64 next, s], .int .i64 1] w fun e w' =>
      e = .returned (.tuple #[.int .u64 0, .int .i64 10]) ∧ Below w.heap.size w w' := by
  go_enter Try.func93, Try.ntmps93
  go_wp2_with (go_at_call 105; refine (isColour_any _ _).mono ?_; rintro e w' ⟨rfl, rfl⟩)
  go_ret2
  exact ⟨rfl, below_box _ _ 0⟩

theorem pack_word (used live final taken : Bool) (age gen link next : Int) (s : Value) (c : Int) (hg0 : 0 ≤ gen) (w : World) :
    Calls Try.prog 93 #[.agg #[.bool used, .bool live, .bool final, .bool taken, .int .i64 age, .int .u64 gen, .int .u64 link, .int .u64 next, s], .int .i64 c] w fun e w' =>
      e = .returned (.tuple #[.int .u64 (packV used live final taken age gen c), .int .i64 (packE age gen c)]) ∧ Below w.heap.size w w' := by
  by_cases hc : c = 0 ∨ c = 1
  · by_cases h1 : age < 0
    · have hb : packB age gen c = false := by unfold packB; simp; omega
      unfold packV packE
      rw [hb]
      rcases hc with rfl | rfl
      · exact pack_word_neg0 used live final taken age gen link next s h1 w
      · exact pack_word_neg1 used live final taken age gen link next s h1 w
    · by_cases h2 : 255 < age
      · have hb : packB age gen c = false := by unfold packB; simp; omega
        unfold packV packE
        rw [hb]
        rcases hc with rfl | rfl
        · exact pack_word_old0 used live final taken age gen link next s (by omega) h2 w
        · exact pack_word_old1 used live final taken age gen link next s (by omega) h2 w
      · by_cases h3 : 4294967295 < gen
        · have hb : packB age gen c = false := by unfold packB; simp; omega
          unfold packV packE
          rw [hb]
          rcases hc with rfl | rfl
          · exact pack_word_gen0 used live final taken age gen link next s (by omega) (by omega) h3 w
          · exact pack_word_gen1 used live final taken age gen link next s (by omega) (by omega) h3 w
        · have hb : packB age gen c = true := by unfold packB; simp; omega
          unfold packV packE
          rw [hb]
          rcases hc with rfl | rfl <;> cases live
          · exact pack_word_ok_false0 used final taken age gen link next s (by omega) (by omega) hg0 (by omega) w
          · exact pack_word_ok_true0 used final taken age gen link next s (by omega) (by omega) hg0 (by omega) w
          · exact pack_word_ok_false1 used final taken age gen link next s (by omega) (by omega) hg0 (by omega) w
          · exact pack_word_ok_true1 used final taken age gen link next s (by omega) (by omega) hg0 (by omega) w
  · have hb : packB age gen c = false := by unfold packB; simp; omega
    unfold packV packE
    rw [hb]
    exact pack_word_colour used live final taken age gen link next s c (beq_eq_false_iff_ne.2 (by omega)) (beq_eq_false_iff_ne.2 (by omega)) w

set_option maxHeartbeats 400000 in
theorem mom_word_ok0 (p r : Int) (hp0 : 0 ≤ p) (hp1 : p ≤ 4) (hr0 : 0 ≤ r) (hr1 : r ≤ 72057594037927935) (w : World) :
    Calls Try.prog 92 #[.int .i64 p, .int .i64 0, .int .u64 r] w fun e w' => e = .returned (.tuple #[.int .u64 (p + 0 * 8 + r * 256), .int .i64 0]) ∧ w' = w := by
  go_enter Try.func92, Try.ntmps92
  go_wp2_with (first | (go_at_call 105; refine (isColour_any _ _).mono ?_; rintro e w' ⟨rfl, rfl⟩) | (go_at_call 106; refine (bitIf_any _ _ _).mono ?_; rintro e w' ⟨rfl, rfl⟩))
  go_ret2
  exact ⟨ret2 (mom_eq p 0 r (Or.inl rfl) hp0 hp1 hr0 (by omega) _ rfl) rfl, rfl⟩
set_option maxHeartbeats 400000 in
theorem mom_word_ok1 (p r : Int) (hp0 : 0 ≤ p) (hp1 : p ≤ 4) (hr0 : 0 ≤ r) (hr1 : r ≤ 72057594037927935) (w : World) :
    Calls Try.prog 92 #[.int .i64 p, .int .i64 1, .int .u64 r] w fun e w' => e = .returned (.tuple #[.int .u64 (p + 1 * 8 + r * 256), .int .i64 0]) ∧ w' = w := by
  go_enter Try.func92, Try.ntmps92
  go_wp2_with (first | (go_at_call 105; refine (isColour_any _ _).mono ?_; rintro e w' ⟨rfl, rfl⟩) | (go_at_call 106; refine (bitIf_any _ _ _).mono ?_; rintro e w' ⟨rfl, rfl⟩))
  go_ret2
  exact ⟨ret2 (mom_eq p 1 r (Or.inr rfl) hp0 hp1 hr0 (by omega) _ rfl) rfl, rfl⟩
set_option maxHeartbeats 400000 in
theorem mom_word_neg (p c r : Int) (hp : p < 0) (w : World) :
    Calls Try.prog 92 #[.int .i64 p, .int .i64 c, .int .u64 r] w fun e w' => e = .returned (.tuple #[.int .u64 0, .int .i64 10]) ∧ w' = w := by
  go_enter Try.func92, Try.ntmps92
  go_wp2
  go_ret2
  exact ⟨rfl, rfl⟩
set_option maxHeartbeats 400000 in
theorem mom_word_big (p c r : Int) (hp0 : 0 ≤ p) (hp : 4 < p) (w : World) :
    Calls Try.prog 92 #[.int .i64 p, .int .i64 c, .int .u64 r] w fun e w' => e = .returned (.tuple #[.int .u64 0, .int .i64 10]) ∧ w' = w := by
  go_enter Try.func92, Try.ntmps92
  go_wp2
  go_ret2
  exact ⟨rfl, rfl⟩
set_option maxHeartbeats 400000 in
theorem mom_word_colour (p c r : Int) (hp0 : 0 ≤ p) (hp : p ≤ 4) (hb0 : (c == 0) = false) (hb1 : (c == 1) = false) (w : World) :
    Calls Try.prog 92 #[.int .i64 p, .int .i64 c, .int .u64 r] w fun e w' => e = .returned (.tuple #[.int .u64 0, .int .i64 10]) ∧ w' = w := by
  go_enter Try.func92, Try.ntmps92
  go_wp2_with (first | (go_at_call 105; refine (isColour_any _ _).mono ?_; rintro e w' ⟨rfl, rfl⟩) | (go_at_call 106; refine (bitIf_any _ _ _).mono ?_; rintro e w' ⟨rfl, rfl⟩))
  go_ret2
  exact ⟨rfl, rfl⟩
set_option maxHeartbeats 400000 in
theorem mom_word_round0 (p r : Int) (hp0 : 0 ≤ p) (hp : p ≤ 4) (hr : 72057594037927935 < r) (w : World) :
    Calls Try.prog 92 #[.int .i64 p, .int .i64 0, .int .u64 r] w fun e w' => e = .returned (.tuple #[.int .u64 0, .int .i64 10]) ∧ w' = w := by
  go_enter Try.func92, Try.ntmps92
  go_wp2_with (first | (go_at_call 105; refine (isColour_any _ _).mono ?_; rintro e w' ⟨rfl, rfl⟩) | (go_at_call 106; refine (bitIf_any _ _ _).mono ?_; rintro e w' ⟨rfl, rfl⟩))
  go_ret2
  exact ⟨rfl, rfl⟩
set_option maxHeartbeats 400000 in
theorem mom_word_round1 (p r : Int) (hp0 : 0 ≤ p) (hp : p ≤ 4) (hr : 72057594037927935 < r) (w : World) :
    Calls Try.prog 92 #[.int .i64 p, .int .i64 1, .int .u64 r] w fun e w' => e = .returned (.tuple #[.int .u64 0, .int .i64 10]) ∧ w' = w := by
  go_enter Try.func92, Try.ntmps92
  go_wp2_with (first | (go_at_call 105; refine (isColour_any _ _).mono ?_; rintro e w' ⟨rfl, rfl⟩) | (go_at_call 106; refine (bitIf_any _ _ _).mono ?_; rintro e w' ⟨rfl, rfl⟩))
  go_ret2
  exact ⟨rfl, rfl⟩
theorem mom_word (p c r : Int) (hr0 : 0 ≤ r) (w : World) :
    Calls Try.prog 92 #[.int .i64 p, .int .i64 c, .int .u64 r] w fun e w' => e = .returned (.tuple #[.int .u64 (momV p c r), .int .i64 (momE p c r)]) ∧ w' = w := by
  by_cases h1 : p < 0
  · have hb : momB p c r = false := by unfold momB; simp; omega
    unfold momV momE; rw [hb]
    exact mom_word_neg p c r h1 w
  · by_cases h2 : 4 < p
    · have hb : momB p c r = false := by unfold momB; simp; omega
      unfold momV momE; rw [hb]
      exact mom_word_big p c r (by omega) h2 w
    · by_cases hc : c = 0 ∨ c = 1
      · by_cases h3 : 72057594037927935 < r
        · have hb : momB p c r = false := by unfold momB; simp; omega
          unfold momV momE; rw [hb]
          rcases hc with rfl | rfl
          · exact mom_word_round0 p r (by omega) (by omega) h3 w
          · exact mom_word_round1 p r (by omega) (by omega) h3 w
        · have hb : momB p c r = true := by unfold momB; simp; omega
          unfold momV momE; rw [hb]
          rcases hc with rfl | rfl
          · exact mom_word_ok0 p r (by omega) (by omega) hr0 (by omega) w
          · exact mom_word_ok1 p r (by omega) (by omega) hr0 (by omega) w
      · have hb : momB p c r = false := by unfold momB; simp; omega
        unfold momV momE; rw [hb]
        exact mom_word_colour p c r (by omega) (by omega) (beq_eq_false_iff_ne.2 (by omega)) (beq_eq_false_iff_ne.2 (by omega)) w

end Go.Proofs.Ytecjegjnnahddaa

/-
  View: words laid: a row of one's own, written word by word and by copies
-/
namespace Go.Proofs.Ytecjegjnnahddaa
open Go.RowKit
set_option linter.unusedVariables false
set_option linter.unusedSimpArgs false
set_option linter.unnecessarySimpa false
set_option maxRecDepth 20000
namespace Vw
open Shape

/-- Block g holds the z words F. -/
def Wr (w : World) (g z : Nat) (F : Nat → Int) : Prop := w.heap[g]? = some (.cells (wcs z F).toArray 27 (0, 0))
theorem wcs_ext {z : Nat} {F G : Nat → Int} (h : ∀ i, i < z → F i = G i) : wcs z F = wcs z G := by
  unfold wcs
  refine List.map_congr_left (fun i hi => ?_)
  rw [h i (List.mem_range.1 hi)]
section
variable {w : World} {g z : Nat} {F : Nat → Int}
theorem Wr.lt (h : Wr w g z F) : g < w.heap.size := (Array.getElem?_eq_some_iff.1 h).1
theorem Wr.cell (h : Wr w g z F) {i : Nat} (hi : i < z) : w.cell? ⟨g, i, none⟩ = some (.int .u64 (F i)) := by
  have := wcs_get F hi
  simp only [World.cell?, show w.heap[g]? = _ from h]
  simpa using this
theorem Wr.frozen (h : Wr w g z F) (i : Nat) : w.frozen? ⟨g, i, none⟩ = false := by simp [World.frozen?, show w.heap[g]? = _ from h]
theorem Wr.ext (h : Wr w g z F) {G : Nat → Int} (e : ∀ i, i < z → F i = G i) : Wr w g z G := by unfold Wr; rw [← wcs_ext e]; exact h
theorem Wr.on (h : Wr w g z F) {w' : World} (hb : Below w.heap.size w w') : Wr w' g z F := by unfold Wr; rw [hb.block g h.lt]; exact h
theorem Wr.other (h : Wr w g z F) {w' : World} (hb : w'.heap[g]? = w.heap[g]?) : Wr w' g z F := by unfold Wr; rw [hb]; exact h
theorem Wr.set (h : Wr w g z F) {k : Nat} (hk : k < z) (v : Int) : Wr (w.setCell ⟨g, k, none⟩ (.int .u64 v)) g z (fun i => if i = k then v else F i) := by
  unfold Wr World.setCell
  have hlt := h.lt
  have hv := (Array.getElem?_eq_some_iff.1 h).2
  rw [Array.getElem?_eq_getElem (by simpa using hlt)]
  simp only [Array.getElem_modify, hv, if_true, Option.isSome_none, Bool.false_eq_true, if_false]
  congr 2
  apply Array.ext'
  simp only [Array.toList_setIfInBounds, List.toList_toArray]
  apply List.ext_getElem?
  intro i
  rw [List.getElem?_set]
  by_cases hi : i < z
  · rw [wcs_get _ hi]
    by_cases e : k = i
    · subst e
      have h5 := wcs_get (fun i => if i = k then v else F i) hi
      simp only [if_true] at h5
      rw [h5]
      simp [wcs_len, hi]
    · rw [if_neg e, wcs_get _ hi, if_neg (fun e' => e e'.symm)]
  · rw [List.getElem?_eq_none (by rw [wcs_len]; omega), List.getElem?_eq_none (by rw [wcs_len]; omega)]
    split <;> simp [wcs_len] ; omega
theorem Wr.sees (h : Wr w g z F) : Sees w w.heap.size (some ⟨g, 0, none⟩) z F := fun j hj => ⟨g, 0, rfl, h.lt, by rw [Nat.zero_add]; exact h.cell hj⟩
end
/-- A copy into such a row. -/
theorem copy_wr {W : World} {g z : Nat} {F : Nat → Int} {ao : Option Addr} {n cap : Nat} {f : Nat → Int} (hg : Wr W g z F) (h : Sees W W.heap.size ao n f) {p : Addr} {off m c : Nat} (hp : 0 < m → p = ⟨g, off, none⟩) (hm : off + m ≤ z) :
    ∃ v W', (Builtin.copy_ #[24, 24] 3 #[.slice (some p) m c, .slice ao n cap]).run Try.prog W = .ok v W' ∧ Hid (Wr W' g z (fun i => if off ≤ i ∧ i < off + m ∧ i - off < n then f (i - off) else F i)) ∧ (∀ B, B ≤ g → Below B W W') ∧ ∀ k, ¬ k = g → W'.heap[k]? = W.heap[k]? := by
  by_cases h0 : Nat.min n m = 0
  · refine ⟨_, W, run_copy_none (P := Try.prog) W 24 24 3 27 (some p) ao m c n cap Try.underlying24 (by kernel_rfl) h0, ?_, fun B _ => Below.refl _ _, fun _ _ => rfl⟩
    refine hg.ext (fun i hi => ?_)
    rw [if_neg]
    simp only [Nat.min_def] at h0
    split at h0 <;> omega
  · have hmn : 0 < n ∧ 0 < m := by simp only [Nat.min_def] at h0; split at h0 <;> omega
    obtain ⟨b, o', rfl, hb, hc⟩ := h 0 hmn.1
    have hpp := hp hmn.2
    subst hpp
    obtain ⟨q, hq⟩ : ∃ q, Nat.min n m = q := ⟨_, rfl⟩
    have hqn : q ≤ n ∧ q ≤ m ∧ (q = n ∨ q = m) := by rw [← hq]; simp only [Nat.min_def]; split <;> omega
    have hnews : ∀ j u, (wcs q f)[j]? = some u → W.cell? ((⟨b, o', none⟩ : Addr).add j) = some u := by
      intro j u hj
      have hjq : j < q := by have := (List.getElem?_eq_some_iff.1 hj).1; rw [wcs_len] at this; exact this
      refine news_of h _ rfl j u ?_
      rw [wcs_get f hjq] at hj
      rw [wcs_get f (by omega)]
      exact hj
    have hr := run_copy_row (P := Try.prog) W 24 24 3 27 g off m c ⟨b, o', none⟩ n cap (wcs z F).toArray 27 (wcs q f) Try.underlying24 (by kernel_rfl) hg (by rw [wcs_len]; exact hq.symm) hnews (by rw [wcs_len]; simp only [List.size_toArray, wcs_len]; omega) (wcs_one q f)
    refine ⟨_, _, hr, ?_, fun B hB => below_setRow (Below.refl _ _) hB _, fun k hk => setRow_other W g k _ hk⟩
    have hs := setRow_heap W g (wcs z F).toArray (((wcs z F).toArray.toList.take off ++ wcs q f ++ (wcs z F).toArray.toList.drop (off + (wcs q f).length)).toArray) 27 (0, 0) hg
    show Wr _ _ _ _
    unfold Wr
    rw [hs]
    congr 3
    simp only [List.toList_toArray, wcs_len]
    apply List.ext_getElem?
    intro i
    by_cases h1 : i < off
    · rw [List.getElem?_append_left (by simp [wcs_len]; omega), List.getElem?_append_left (by simp [wcs_len]; omega), List.getElem?_take, if_pos h1, wcs_get _ (by omega), wcs_get _ (by omega), if_neg (by omega)]
    · by_cases h2 : i < off + q
      · rw [List.getElem?_append_left (by simp [wcs_len]; omega), List.getElem?_append_right (by simp [wcs_len]; omega)]
        rw [show (List.take off (wcs z F)).length = off by simp [wcs_len]; omega, wcs_get _ (by omega), wcs_get _ (by omega), if_pos (by omega)]
      · by_cases h3 : i < z
        · rw [List.getElem?_append_right (by simp [wcs_len]; omega)]
          rw [show (List.take off (wcs z F) ++ wcs q f).length = off + q by simp [wcs_len]; omega, List.getElem?_drop, show off + q + (i - (off + q)) = i by omega, wcs_get _ h3, wcs_get _ h3, if_neg (by omega)]
        · rw [List.getElem?_eq_none (by simp [wcs_len]; omega), List.getElem?_eq_none (by rw [wcs_len]; omega)]
end Vw
end Go.Proofs.Ytecjegjnnahddaa

/-
  View: what is sound; the smaller questions
-/
namespace Go.Proofs.Ytecjegjnnahddaa
open Go.RowKit
set_option linter.unusedVariables false
set_option linter.unusedSimpArgs false
set_option linter.unnecessarySimpa false
set_option maxRecDepth 20000
namespace Vw
open Shape

/-- A handle that is good. -/
def good (c : Cv) (u : Int) : Prop := 1 ≤ u % 4294967296 ∧ u % 4294967296 ≤ (c.no : Int) ∧ (c.ob ((u % 4294967296).toNat - 1)).us = true ∧ (c.ob ((u % 4294967296).toNat - 1)).ge = u / 4294967296
def hOk (c : Cv) (u : Int) : Prop := ¬ u = 0 → good c u
def obOk (c : Cv) (j : Nat) : Prop := ((c.ob j).us = true → (c.ob j).li = true ∧ ¬ ((j : Int) + 1) ∈ c.fr) ∧ ((c.ob j).us = false → (((j : Int) + 1) ∈ c.fr ∨ (c.ob j).ge = 4294967295) ∧ ∀ q, q < (c.ob j).ns → (c.ob j).sl q = 0)
def quOk (c : Cv) (i : Int) : Prop := (c.ob (i.toNat - 1)).us = true ∧ (c.ob (i.toNat - 1)).fi = true ∧ (c.ob (i.toNat - 1)).ta = true
/-- All that is held. -/
structure HaOk (c : Cv) : Prop where
  wk : ∀ i, i < c.nw → hOk c (c.wk i)
  rt : ∀ j, j < c.nr → ∀ i, i < c.rn j → hOk c (c.rt j i)
  ob : ∀ j, j < c.no → (c.ob j).us = true → ∀ i, i < (c.ob j).ns → hOk c ((c.ob j).sl i)
/-- What bounds a view's numbers. -/
structure Cv.Ok (c : Cv) : Prop where
  wk : ∀ i, i < c.nw → 0 ≤ c.wk i ∧ c.wk i < 18446744073709551616
  rt : ∀ j, j < c.nr → ∀ i, i < c.rn j → 0 ≤ c.rt j i ∧ c.rt j i < 18446744073709551616
  sl : ∀ j, j < c.no → ∀ i, i < (c.ob j).ns → 0 ≤ (c.ob j).sl i ∧ (c.ob j).sl i < 18446744073709551616
  nw : c.nw ≤ 70000
  nr : c.nr ≤ 70000
  rn : ∀ j, j < c.nr → c.rn j ≤ 70000
  no : c.no ≤ 70000
  ns : ∀ j, j < c.no → (c.ob j).ns ≤ 70000
  fr : c.fr.length ≤ 70000
  gr : c.gr.length ≤ 70000
  qu : c.qu.length ≤ 70000
  qr : ∀ i, i ∈ c.qu → 1 ≤ i ∧ i ≤ (c.no : Int)

theorem something_ok (v : Int) (w : World) : Calls Try.prog 102 #[.int .u64 v] w fun e w' => e = .returned (.bool (v != 0)) ∧ w' = w := by
  go_enter Try.func102, Try.ntmps102
  go_wp2
  go_ret
  exact ⟨rfl, rfl⟩

set_option maxHeartbeats 1000000 in
theorem indexFunc_ok {w : World} {B : Nat} {ao : Option Addr} {n cap : Nat} {g : Nat → Int} (h : Sees w B ao n g) (hn : n ≤ 70000) :
    Calls Try.prog 107 #[.slice ao n cap, .func (.func 102) #[] #[]] w fun e w' => (∃ v, e = .returned (.int .i64 v) ∧ (¬ 0 ≤ v ↔ ∀ q, q < n → g q = 0)) ∧ w' = w := by
  have H := hide h
  clear h
  go_enter Try.func107, Try.ntmps107
  go_wp2_with fail
  go_loopw [8] (fun i wr => ∃ k : Nat, k ≤ n ∧ i = .int .i64 k ∧ Hid (∀ q, q < k → g q = 0) ∧ wr = w) (fun i _ => n - (intOf i).toNat)
  case atStart => exact ⟨0, Nat.zero_le _, rfl, fun q hq => absurd hq (by omega), rfl⟩
  case round =>
    obtain ⟨k, hk, rfl, HK, rfl⟩ := hrel
    by_cases hlt : k < n
    · obtain ⟨b, off, rfl, hbl, hcc⟩ := H.out k hlt
      have hkn : (k : Int) < (n : Int) := by omega
      have SO := hide (fun w1 => something_ok (g k) w1)
      by_cases he : g k = 0
      · have he2 : (g k != 0) = false := by simp [he]
        rw [he2] at SO
        have HE := hide he
        clear he he2
        go_wp2_with (go_at_call 102; refine (SO.out _).mono ?_; rintro e w1 ⟨rfl, hq⟩; obtain rfl := hq.symm)
        go_roundw
        case rel => exact ⟨k + 1, by omega, by go_num, fun q hq => by (by_cases e : q < k); exact HK.out q e; (cases (show q = k by omega)); exact HE.out, trivial⟩
        case measure => simp [intOf]; omega
      · have he2 : (g k != 0) = true := by simp [he]
        rw [he2] at SO
        have HE := hide he
        clear he he2
        go_wp2_with (go_at_call 102; refine (SO.out _).mono ?_; rintro e w1 ⟨rfl, hq⟩; obtain rfl := hq.symm)
        go_ret
        exact ⟨⟨_, rfl, by constructor; intro h1; exact absurd h1 (by omega); intro h1; exact absurd (h1 k hlt) HE.out⟩, rfl⟩
    · have hkn : ¬ (k : Int) < (n : Int) := by omega
      go_wp2
      go_ret
      exact ⟨⟨_, rfl, by constructor; intro _ q hq; exact HK.out q (by omega); intro _; omega⟩, rfl⟩
set_option maxHeartbeats 1000000 in
theorem containsFunc_ok {w : World} {B : Nat} {ao : Option Addr} {n cap : Nat} {g : Nat → Int} (h : Sees w B ao n g) (hn : n ≤ 70000) :
    Calls Try.prog 101 #[.slice ao n cap, .func (.func 102) #[] #[]] w fun e w' => (∃ v, e = .returned (.bool v) ∧ (v = false ↔ ∀ q, q < n → g q = 0)) ∧ w' = w := by
  have IO := hide (indexFunc_ok (cap := cap) h hn)
  clear h
  go_enter Try.func101, Try.ntmps101
  go_wp2_with (go_at_call 107; refine IO.out.mono ?_; rintro e w1 ⟨⟨v, rfl, hv⟩, rfl⟩; have HV := hide hv; clear hv)
  go_ret
  refine ⟨⟨_, rfl, ?_⟩, rfl⟩
  have := HV.out
  rw [← this]
  simp
theorem obox (w : World) (u l fi ta : Bool) (ag ge lk nx : Int) (ao : Option Addr) (n cap : Nat) : ∃ W0, w.alloc (.cells #[.bool u, .bool l, .bool fi, .bool ta, .int .i64 ag, .int .u64 ge, .int .u64 lk, .int .u64 nx, .slice ao n cap] 57) = W0 ∧ Below w.heap.size w W0 ∧ W0.rowIs w.heap.size 57 9 (lrow [.bool u, .bool l, .bool fi, .bool ta, .int .i64 ag, .int .u64 ge, .int .u64 lk, .int .u64 nx, .slice ao n cap]) := ⟨_, rfl, (Below.refl _ w).alloc (Nat.le_refl _) _, rowL_alloc w [.bool u, .bool l, .bool fi, .bool ta, .int .i64 ag, .int .u64 ge, .int .u64 lk, .int .u64 nx, .slice ao n cap] _ rfl⟩
set_option maxHeartbeats 1000000 in
theorem usedSound_ok {u l fi ta : Bool} {ag ge lk nx : Int} {ao : Option Addr} {n cap : Nat} {q : Bool} (w : World) : Calls Try.prog 87 #[.agg #[.bool u, .bool l, .bool fi, .bool ta, .int .i64 ag, .int .u64 ge, .int .u64 lk, .int .u64 nx, .slice ao n cap], .bool q] w fun e w' => e = .returned (.bool (l && !q)) ∧ Below w.heap.size w w' := by
  obtain ⟨W0, hW0, B0, R0⟩ := obox w u l fi ta ag ge lk nx ao n cap
  have c1 := R0.cell (i := 1) (by decide)
  simp only [lrow] at c1
  have HB := hide B0
  clear R0 B0
  cases l
  · go_enter Try.func87, Try.ntmps87
    go_wp2
    go_ret
    exact ⟨rfl, HB.out⟩
  · go_enter Try.func87, Try.ntmps87
    go_wp2
    go_ret
    exact ⟨by simp, HB.out⟩
set_option maxHeartbeats 1000000 in
theorem unusedSound_ok {u l fi ta : Bool} {ag ge lk nx : Int} {ao : Option Addr} {n cap : Nat} {q : Bool} {g : Nat → Int} {w : World} (hS : Sees w w.heap.size ao n g) (hn : n ≤ 70000) : Calls Try.prog 88 #[.agg #[.bool u, .bool l, .bool fi, .bool ta, .int .i64 ag, .int .u64 ge, .int .u64 lk, .int .u64 nx, .slice ao n cap], .bool q] w fun e w' => (∃ v, e = .returned (.bool v) ∧ (v = true ↔ (q = true ∨ ge = 4294967295) ∧ ∀ i, i < n → g i = 0)) ∧ Below w.heap.size w w' := by
  obtain ⟨W0, hW0, B0, R0⟩ := obox w u l fi ta ag ge lk nx ao n cap
  have c5 := R0.cell (i := 5) (by decide)
  have c8 := R0.cell (i := 8) (by decide)
  simp only [lrow] at c5 c8
  have CF := hide (containsFunc_ok (w := W0) (cap := cap) (sees_on hS B0) hn)
  have HB := hide B0
  clear R0 B0 hS
  cases q
  · by_cases hg : ge = 4294967295
    · subst hg
      go_enter Try.func88, Try.ntmps88
      go_wp2_with (go_at_call 101; refine CF.out.mono ?_; rintro e w1 ⟨⟨v, rfl, hv⟩, hq⟩; obtain rfl := hq.symm; have HV := hide hv; clear hv)
      go_ret
      exact ⟨⟨_, rfl, by have := HV.out; cases v <;> simp_all⟩, HB.out⟩
    · have hg2 : (ge == 4294967295) = false := by simp [hg]
      go_enter Try.func88, Try.ntmps88
      go_wp2_with fail
      go_ret
      exact ⟨⟨_, rfl, by simp [hg]⟩, HB.out⟩
  · go_enter Try.func88, Try.ntmps88
    go_wp2_with (go_at_call 101; refine CF.out.mono ?_; rintro e w1 ⟨⟨v, rfl, hv⟩, hq⟩; obtain rfl := hq.symm; have HV := hide hv; clear hv)
    go_ret
    exact ⟨⟨_, rfl, by have := HV.out; cases v <;> simp_all⟩, HB.out⟩
end Vw
end Go.Proofs.Ytecjegjnnahddaa

/-
  View: what is sound: the objects, the queue, a handle
-/
namespace Go.Proofs.Ytecjegjnnahddaa
open Go.RowKit
set_option linter.unusedVariables false
set_option linter.unusedSimpArgs false
set_option linter.unnecessarySimpa false
set_option maxRecDepth 20000
namespace Vw
open Shape

/-- A bool that tells whether something holds. -/
def Tells (e : Ending) (p : Prop) : Prop := ∃ v, e = .returned (.bool v) ∧ (v = true ↔ p)
theorem Tells.yes {p : Prop} (h : p) : Tells (.returned (.bool true)) p := ⟨true, rfl, by simp [h]⟩
theorem Tells.no {p : Prop} (h : ¬ p) : Tells (.returned (.bool false)) p := ⟨false, rfl, by simp [h]⟩
theorem Tells.get {e : Ending} {p : Prop} (h : Tells e p) : (p ∧ e = .returned (.bool true)) ∨ (¬ p ∧ e = .returned (.bool false)) := by
  obtain ⟨v, rfl, hv⟩ := h
  cases v
  · exact .inr ⟨fun h => (by have := hv.2 h; cases this), rfl⟩
  · exact .inl ⟨hv.1 rfl, rfl⟩
theorem vbox (w : World) (c : Cv) (a : Av) : ∃ W0, w.alloc (.cells #[.int .i64 c.ph, .int .i64 c.co, .int .u64 c.ro, .slice a.aa c.na a.ca, .slice a.ra c.nr a.cr, .slice a.wa c.nw a.cw, .slice a.oa c.no a.cb, .slice a.fa c.fr.length a.cf, .slice a.ga c.gr.length a.cg, .slice a.qa c.qu.length a.cq, .int .u64 (c.cn 0), .int .u64 (c.cn 1), .int .u64 (c.cn 2), .int .u64 (c.cn 3)] 33) = W0 ∧ Below w.heap.size w W0 ∧ W0.rowIs w.heap.size 33 14 (lrow [.int .i64 c.ph, .int .i64 c.co, .int .u64 c.ro, .slice a.aa c.na a.ca, .slice a.ra c.nr a.cr, .slice a.wa c.nw a.cw, .slice a.oa c.no a.cb, .slice a.fa c.fr.length a.cf, .slice a.ga c.gr.length a.cg, .slice a.qa c.qu.length a.cq, .int .u64 (c.cn 0), .int .u64 (c.cn 1), .int .u64 (c.cn 2), .int .u64 (c.cn 3)]) := ⟨_, rfl, (Below.refl _ w).alloc (Nat.le_refl _) _, rowL_alloc w [.int .i64 c.ph, .int .i64 c.co, .int .u64 c.ro, .slice a.aa c.na a.ca, .slice a.ra c.nr a.cr, .slice a.wa c.nw a.cw, .slice a.oa c.no a.cb, .slice a.fa c.fr.length a.cf, .slice a.ga c.gr.length a.cg, .slice a.qa c.qu.length a.cq, .int .u64 (c.cn 0), .int .u64 (c.cn 1), .int .u64 (c.cn 2), .int .u64 (c.cn 3)] _ rfl⟩

set_option maxHeartbeats 2000000 in
theorem objectsSound_ok {c : Cv} {a : Av} {w : World} (hS : Shows w c a) (hc : c.Ok) : Calls Try.prog 61 #[vl c a] w fun e w' => Tells e (∀ j, j < c.no → obOk c j) ∧ Below w.heap.size w w' := by
  obtain ⟨aa, ca, ra, cr, wa, cw, oa, cb, fa, cf, ga, cg, qa, cq⟩ := a
  simp only [vl]
  have HS := hide hS
  have HC := hide hc
  have hno := hc.no
  clear hS hc
  obtain ⟨W0, hW0, B0, R0⟩ := vbox w c ⟨aa, ca, ra, cr, wa, cw, oa, cb, fa, cf, ga, cg, qa, cq⟩
  simp only at hW0 R0
  have HB := hide B0
  have HR := hide R0
  have l0 : w.heap.size < W0.heap.size := R0.lt
  have c6 := R0.cell (i := 6) (by decide)
  simp only [lrow] at c6
  clear B0 R0
  go_enter Try.func61, Try.ntmps61
  go_wp2_with fail
  go_loopw [9] (fun i wr => ∃ k : Nat, k ≤ c.no ∧ i = .int .i64 k ∧ Hid (∀ j, j < k → obOk c j) ∧ Hid (Below W0.heap.size W0 wr)) (fun i _ => c.no - (intOf i).toNat)
  case atStart => exact ⟨0, Nat.zero_le _, rfl, fun q hq => absurd hq (by omega), Below.refl _ _⟩
  case round =>
    obtain ⟨k, hk, rfl, HK, HW⟩ := hrel
    have HBr := hide (HB.out.trans (HW.out.mono HB.out.size))
    clear c6
    by_cases hlt : k < c.no
    · have hkn : (k : Int) < (c.no : Int) := by omega
      have Sw := HS.out.below HBr.out
      obtain ⟨b, off, ai, ci, hoa, hbl, hoc, hse⟩ := Sw.ob k hlt
      simp only at hoa
      subst hoa
      cases hobx : c.ob k with
      | mk us li fi ta ag ge lk nx ns sl =>
      have hns := HC.out.ns k hlt
      have HOB := hide hobx
      simp only [hobx] at hoc hse hns
      simp only [Ob.cell] at hoc
      have o0 : wr.cell? ⟨b, off + k * 9, none⟩ = some (.bool us) := by simpa using hoc 0 (by decide)
      have o1 : wr.cell? ⟨b, off + k * 9 + 1, none⟩ = some (.bool li) := by simpa using hoc 1 (by decide)
      have o2 : wr.cell? ⟨b, off + k * 9 + 2, none⟩ = some (.bool fi) := by simpa using hoc 2 (by decide)
      have o3 : wr.cell? ⟨b, off + k * 9 + 3, none⟩ = some (.bool ta) := by simpa using hoc 3 (by decide)
      have o4 : wr.cell? ⟨b, off + k * 9 + 4, none⟩ = some (.int .i64 ag) := by simpa using hoc 4 (by decide)
      have o5 : wr.cell? ⟨b, off + k * 9 + 5, none⟩ = some (.int .u64 ge) := by simpa using hoc 5 (by decide)
      have o6 : wr.cell? ⟨b, off + k * 9 + 6, none⟩ = some (.int .u64 lk) := by simpa using hoc 6 (by decide)
      have o7 : wr.cell? ⟨b, off + k * 9 + 7, none⟩ = some (.int .u64 nx) := by simpa using hoc 7 (by decide)
      have o8 : wr.cell? ⟨b, off + k * 9 + 8, none⟩ = some (.slice ai ns ci) := by simpa using hoc 8 (by decide)

      have HSE := hide hse
      clear hobx hoc hse Sw
      go_upto_region 4 with (fail)
      obtain ⟨W4, hW4, B4, R4⟩ := obox wr us li fi ta ag ge lk nx ai ns ci
      have HB4 := hide (HW.out.trans (B4.mono HW.out.size))
      have HBw := hide (HB.out.trans (HB4.out.mono HB.out.size))
      have p0 : W4.cell? ⟨wr.heap.size, 0, none⟩ = some (.bool us) := R4.cell (i := 0) (by decide)
      have p1 : W4.cell? ⟨wr.heap.size, 1, none⟩ = some (.bool li) := R4.cell (i := 1) (by decide)
      have p2 : W4.cell? ⟨wr.heap.size, 2, none⟩ = some (.bool fi) := R4.cell (i := 2) (by decide)
      have p3 : W4.cell? ⟨wr.heap.size, 3, none⟩ = some (.bool ta) := R4.cell (i := 3) (by decide)
      have p4 : W4.cell? ⟨wr.heap.size, 4, none⟩ = some (.int .i64 ag) := R4.cell (i := 4) (by decide)
      have p5 : W4.cell? ⟨wr.heap.size, 5, none⟩ = some (.int .u64 ge) := R4.cell (i := 5) (by decide)
      have p6 : W4.cell? ⟨wr.heap.size, 6, none⟩ = some (.int .u64 lk) := R4.cell (i := 6) (by decide)
      have p7 : W4.cell? ⟨wr.heap.size, 7, none⟩ = some (.int .u64 nx) := R4.cell (i := 7) (by decide)
      have p8 : W4.cell? ⟨wr.heap.size, 8, none⟩ = some (.slice ai ns ci) := R4.cell (i := 8) (by decide)
      have c7 : W4.cell? ⟨w.heap.size, 7, none⟩ = some (.slice fa c.fr.length cf) := (row_on HR.out HB4.out).cell (i := 7) (by decide)
      have SE4 := hide (sees_on HSE.out B4)
      have CO := hide (contains_ok (w := W4) (cap := cf) (c := (k : Int) + 1) (HS.out.below HBw.out).fr rfl HC.out.fr)
      obtain ⟨q, hq⟩ : ∃ q, decide (((k : Int) + 1) ∈ c.fr) = q := ⟨_, rfl⟩
      rw [hq] at CO
      have HQ := hide hq
      simp only [hW4]
      have hl4 : wr.heap.size < W4.heap.size := R4.lt
      clear hW4 o0 o1 o2 o3 o4 o5 o6 o7 o8 hq R4 B4
      go_upto_region 5 with (go_at_call 86; refine CO.out.mono ?_; rintro e w1 ⟨rfl, hq⟩; obtain rfl := hq.symm; clear hq)
      cases us
      · have UN := hide (unusedSound_ok (u := false) (l := li) (fi := fi) (ta := ta) (ag := ag) (ge := ge) (lk := lk) (nx := nx) (cap := ci) (q := q) SE4.out hns)
        obtain ⟨CC, hCC⟩ : ∃ C : Prop, ((q = true ∨ ge = 4294967295) ∧ ∀ i, i < ns → sl i = 0) = C := ⟨_, rfl⟩
        rw [hCC] at UN
        have HCC := hide hCC
        clear hCC
        have IFF := hide (show obOk c k ↔ CC by
          rw [← HCC.out]
          unfold obOk
          rw [HOB.out]
          constructor
          · intro h2
            have h3 := h2.2 rfl
            exact ⟨h3.1.imp (fun h4 => by rw [← HQ.out]; simpa using h4) id, h3.2⟩
          · intro h2
            exact ⟨fun h3 => (by cases h3), fun _ => ⟨h2.1.imp (fun h4 => by rw [← HQ.out] at h4; simpa using h4) id, h2.2⟩⟩)
        by_cases hcc : CC
        · have UN2 := hide (show Calls Try.prog 88 #[.agg #[.bool false, .bool li, .bool fi, .bool ta, .int .i64 ag, .int .u64 ge, .int .u64 lk, .int .u64 nx, .slice ai ns ci], .bool q] W4 fun e w' => e = .returned (.bool true) ∧ Below W4.heap.size W4 w' from UN.out.mono (by rintro e w' ⟨⟨v, rfl, hv⟩, hb⟩; rw [hv.2 hcc]; exact ⟨rfl, hb⟩))
          have OKK := hide (IFF.out.2 hcc)
          clear hcc UN
          go_wp2_with (go_at_call 88; refine UN2.out.mono ?_; rintro e w2 ⟨rfl, hb2⟩; have HB5 := hide (HB4.out.trans (hb2.mono HB4.out.size)); clear hb2)
          go_roundw
          case rel => exact ⟨k + 1, by omega, by go_num, fun j hj => by (by_cases e : j < k); exact HK.out j e; (cases (show j = k by omega)); exact OKK.out, HB5.out⟩
          case measure => simp [intOf]; omega
        · have UN2 := hide (show Calls Try.prog 88 #[.agg #[.bool false, .bool li, .bool fi, .bool ta, .int .i64 ag, .int .u64 ge, .int .u64 lk, .int .u64 nx, .slice ai ns ci], .bool q] W4 fun e w' => e = .returned (.bool false) ∧ Below W4.heap.size W4 w' from UN.out.mono (by rintro e w' ⟨⟨v, rfl, hv⟩, hb⟩; rw [show v = false from by cases v; rfl; exact absurd (hv.1 rfl) hcc]; exact ⟨rfl, hb⟩))
          have OKK := hide (fun h1 => hcc (IFF.out.1 h1))
          clear hcc UN
          go_wp2_with (go_at_call 88; refine UN2.out.mono ?_; rintro e w2 ⟨rfl, hb2⟩; have HB5 := hide (HB4.out.trans (hb2.mono HB4.out.size)); clear hb2)
          go_ret
          exact ⟨Tells.no (fun h1 => OKK.out (h1 k hlt)), HB.out.trans (HB5.out.mono HB.out.size)⟩
      · have UN := hide (usedSound_ok (u := true) (l := li) (fi := fi) (ta := ta) (ag := ag) (ge := ge) (lk := lk) (nx := nx) (ao := ai) (n := ns) (cap := ci) (q := q) W4)
        obtain ⟨v, hv⟩ : ∃ v, (li && !q) = v := ⟨_, rfl⟩
        rw [hv] at UN
        have IFF := hide (show obOk c k ↔ v = true by
          rw [← hv]
          unfold obOk
          rw [HOB.out]
          have h1 := HQ.out
          constructor
          · intro h2
            have h3 := h2.1 rfl
            have h4 : q = false := by rw [← h1]; simpa using h3.2
            simp [h4]
            exact h3.1
          · intro h2
            simp only [Bool.and_eq_true, Bool.not_eq_true'] at h2
            refine ⟨fun _ => ⟨h2.1, ?_⟩, fun h3 => (by cases h3)⟩
            have h4 := h2.2
            rw [← h1] at h4
            simpa using h4)
        clear hv
        cases v
        · go_wp2_with (go_at_call 87; refine UN.out.mono ?_; rintro e w2 ⟨rfl, hb2⟩; have HB5 := hide (HB4.out.trans (hb2.mono HB4.out.size)); clear hb2)
          go_ret
          exact ⟨Tells.no (fun h1 => absurd (IFF.out.1 (h1 k hlt)) (by simp)), HB.out.trans (HB5.out.mono HB.out.size)⟩
        · have EX := hide (show True from trivial)
          go_wp2_with (go_at_call 87; refine UN.out.mono ?_; rintro e w2 ⟨rfl, hb2⟩; have HB5 := hide (HB4.out.trans (hb2.mono HB4.out.size)); have q0 : w2.cell? ⟨wr.heap.size, 0, none⟩ = some (.bool true) := (hb2.cell (p := ⟨wr.heap.size, 0, none⟩) hl4).trans p0; clear hb2)
          go_roundw
          case rel => exact ⟨k + 1, by omega, by go_num, fun j hj => by (by_cases e : j < k); exact HK.out j e; (cases (show j = k by omega)); exact IFF.out.2 (by simp), HB5.out⟩
          case measure => simp [intOf]; omega
    · have hkn : ¬ (k : Int) < (c.no : Int) := by omega
      have ALL := hide (show ∀ j, j < c.no → obOk c j from fun j hj => HK.out j (by omega))
      go_wp2_with fail
      go_ret
      exact ⟨Tells.yes ALL.out, HBr.out⟩

set_option maxHeartbeats 2000000 in
theorem queueSound_ok {c : Cv} {a : Av} {w : World} (hS : Shows w c a) (hc : c.Ok) : Calls Try.prog 62 #[vl c a] w fun e w' => Tells e (∀ i, i ∈ c.qu → quOk c i) ∧ Below w.heap.size w w' := by
  obtain ⟨aa, ca, ra, cr, wa, cw, oa, cb, fa, cf, ga, cg, qa, cq⟩ := a
  simp only [vl]
  have HS := hide hS
  have HC := hide hc
  have hno := hc.no
  have hqu := hc.qu
  obtain ⟨n, hn⟩ : ∃ n, c.qu.length = n := ⟨_, rfl⟩
  have HN := hide hn
  clear hS hc
  obtain ⟨W0, hW0, B0, R0⟩ := vbox w c ⟨aa, ca, ra, cr, wa, cw, oa, cb, fa, cf, ga, cg, qa, cq⟩
  simp only at hW0 R0
  rw [hn] at hqu hW0 R0
  rw [hn]
  have HB := hide B0
  have HR := hide R0
  have l0 : w.heap.size < W0.heap.size := R0.lt
  have c9 : W0.cell? ⟨w.heap.size, 9, none⟩ = some (.slice qa n cq) := R0.cell (i := 9) (by decide)
  clear B0 R0 hn
  go_enter Try.func62, Try.ntmps62
  go_wp2_with fail
  go_loopw [9] (fun i wr => ∃ t : Nat, t ≤ n ∧ i = .int .i64 t ∧ Hid (∀ x, x ∈ c.qu.take t → quOk c x) ∧ Hid (Below W0.heap.size W0 wr)) (fun i _ => n - (intOf i).toNat)
  case atStart => exact ⟨0, Nat.zero_le _, rfl, show ∀ x, x ∈ _ → _ by simp, Below.refl _ _⟩
  case round =>
    obtain ⟨t, ht, rfl, HK, HW⟩ := hrel
    have HBr := hide (HB.out.trans (HW.out.mono HB.out.size))
    clear c9
    by_cases hlt : t < n
    · have hkn : (t : Int) < (n : Int) := by omega
      obtain ⟨x, hx⟩ : ∃ x, c.qu[t]? = some x := ⟨c.qu[t]'(by rw [HN.out]; exact hlt), List.getElem?_eq_getElem _⟩
      have Sw := HS.out.below HBr.out
      obtain ⟨bq, oq, hqa, hbq, hcq⟩ := Sw.qu t x hx
      simp only at hqa
      subst hqa
      have HX := hide hx
      have hxr := HC.out.qr x (List.mem_of_getElem? hx)
      obtain ⟨k, rfl⟩ : ∃ k : Nat, x = (k : Int) + 1 := ⟨x.toNat - 1, by omega⟩
      have hko : k < c.no := by omega
      have hko2 : (k : Int) < (c.no : Int) := by omega
      obtain ⟨b, off, ai, ci, hoa, hbl, hoc, hse⟩ := Sw.ob k hko
      simp only at hoa
      subst hoa
      cases hobx : c.ob k with
      | mk us li fi ta ag ge lk nx ns sl =>
      have HOB := hide hobx
      simp only [hobx] at hoc
      simp only [Ob.cell] at hoc
      have o0 : wr.cell? ⟨b, off + k * 9, none⟩ = some (.bool us) := by simpa using hoc 0 (by decide)
      have o1 : wr.cell? ⟨b, off + k * 9 + 1, none⟩ = some (.bool li) := by simpa using hoc 1 (by decide)
      have o2 : wr.cell? ⟨b, off + k * 9 + 2, none⟩ = some (.bool fi) := by simpa using hoc 2 (by decide)
      have o3 : wr.cell? ⟨b, off + k * 9 + 3, none⟩ = some (.bool ta) := by simpa using hoc 3 (by decide)
      have o4 : wr.cell? ⟨b, off + k * 9 + 4, none⟩ = some (.int .i64 ag) := by simpa using hoc 4 (by decide)
      have o5 : wr.cell? ⟨b, off + k * 9 + 5, none⟩ = some (.int .u64 ge) := by simpa using hoc 5 (by decide)
      have o6 : wr.cell? ⟨b, off + k * 9 + 6, none⟩ = some (.int .u64 lk) := by simpa using hoc 6 (by decide)
      have o7 : wr.cell? ⟨b, off + k * 9 + 7, none⟩ = some (.int .u64 nx) := by simpa using hoc 7 (by decide)
      have o8 : wr.cell? ⟨b, off + k * 9 + 8, none⟩ = some (.slice ai ns ci) := by simpa using hoc 8 (by decide)

      have c6 : wr.cell? ⟨w.heap.size, 6, none⟩ = some (.slice (some ⟨b, off, none⟩) c.no cb) := (row_on HR.out HW.out).cell (i := 6) (by decide)
      have IFF := hide (show quOk c ((k : Int) + 1) ↔ us = true ∧ fi = true ∧ ta = true by
        unfold quOk
        rw [show ((k : Int) + 1).toNat - 1 = k by omega, HOB.out])
      clear hobx hoc hse Sw hx
      go_upto_region 5 with (fail)
      obtain ⟨W4, hW4, B4, R4⟩ := obox wr us li fi ta ag ge lk nx ai ns ci
      have HB4 := hide (HW.out.trans (B4.mono HW.out.size))
      have p0 : W4.cell? ⟨wr.heap.size, 0, none⟩ = some (.bool us) := R4.cell (i := 0) (by decide)
      have p1 : W4.cell? ⟨wr.heap.size, 1, none⟩ = some (.bool li) := R4.cell (i := 1) (by decide)
      have p2 : W4.cell? ⟨wr.heap.size, 2, none⟩ = some (.bool fi) := R4.cell (i := 2) (by decide)
      have p3 : W4.cell? ⟨wr.heap.size, 3, none⟩ = some (.bool ta) := R4.cell (i := 3) (by decide)
      have p4 : W4.cell? ⟨wr.heap.size, 4, none⟩ = some (.int .i64 ag) := R4.cell (i := 4) (by decide)
      have p5 : W4.cell? ⟨wr.heap.size, 5, none⟩ = some (.int .u64 ge) := R4.cell (i := 5) (by decide)
      have p6 : W4.cell? ⟨wr.heap.size, 6, none⟩ = some (.int .u64 lk) := R4.cell (i := 6) (by decide)
      have p7 : W4.cell? ⟨wr.heap.size, 7, none⟩ = some (.int .u64 nx) := R4.cell (i := 7) (by decide)
      have p8 : W4.cell? ⟨wr.heap.size, 8, none⟩ = some (.slice ai ns ci) := R4.cell (i := 8) (by decide)
      simp only [hW4]
      clear hW4 o0 o1 o2 o3 o4 o5 o6 o7 o8 c6 R4 B4 hcq
      have NO := hide (show ¬ (us = true ∧ fi = true ∧ ta = true) → ¬ ∀ i, i ∈ c.qu → quOk c i from fun h1 h2 => h1 (IFF.out.1 (h2 _ (List.mem_of_getElem? HX.out))))
      cases us
      · go_wp2_with fail
        go_ret
        have NO2 := NO.out (by simp)
        exact ⟨Tells.no NO2, HB.out.trans (HB4.out.mono HB.out.size)⟩
      · cases fi
        · go_wp2_with fail
          go_ret
          have NO2 := NO.out (by simp)
          exact ⟨Tells.no NO2, HB.out.trans (HB4.out.mono HB.out.size)⟩
        · cases ta
          · go_wp2_with fail
            go_ret
            have NO2 := NO.out (by simp)
            exact ⟨Tells.no NO2, HB.out.trans (HB4.out.mono HB.out.size)⟩
          · have YES := hide (IFF.out.2 ⟨rfl, rfl, rfl⟩)
            clear IFF NO
            go_wp2_with fail
            go_roundw
            case rel =>
              refine ⟨t + 1, by omega, by go_num, ?_, HB4.out⟩
              intro y hy
              rw [List.take_add_one, HX.out] at hy
              simp at hy
              rcases hy with hy | hy
              · exact HK.out y hy
              · rw [hy]; exact YES.out
            case measure => simp [intOf]; omega
    · have hkn : ¬ (t : Int) < (n : Int) := by omega
      have ALL := hide (show ∀ i, i ∈ c.qu → quOk c i from fun i hi => HK.out i (by rw [List.take_of_length_le (by rw [HN.out]; omega)]; exact hi))
      go_wp2_with fail
      go_ret
      exact ⟨Tells.yes ALL.out, HBr.out⟩
end Vw
end Go.Proofs.Ytecjegjnnahddaa

/-
  View: what is sound: a handle, all that is held
-/
namespace Go.Proofs.Ytecjegjnnahddaa
open Go.RowKit
set_option linter.unusedVariables false
set_option linter.unusedSimpArgs false
set_option linter.unnecessarySimpa false
set_option maxRecDepth 20000
namespace Vw
open Shape

set_option maxHeartbeats 400000 in
theorem isObj_ok {n : Nat} {oa : Option Addr} {cb : Nat} {w : World} (k : Int) : Calls Try.prog 103 #[.slice oa n cb, .int .i64 k] w fun e w' => e = .returned (.bool (decide (1 ≤ k ∧ k ≤ (n : Int)))) ∧ w' = w := by
  by_cases q1 : 1 ≤ k
  · by_cases q2 : k ≤ (n : Int)
    · have hd : decide (1 ≤ k ∧ k ≤ (n : Int)) = true := by simp [q1, q2]
      rw [hd]
      clear hd
      go_enter Try.func103, Try.ntmps103
      go_wp2
      go_ret
      exact ⟨rfl, rfl⟩
    · have hd : decide (1 ≤ k ∧ k ≤ (n : Int)) = false := by simp [q2]
      rw [hd]
      clear hd
      go_enter Try.func103, Try.ntmps103
      go_wp2
      go_ret
      exact ⟨rfl, rfl⟩
  · have hd : decide (1 ≤ k ∧ k ≤ (n : Int)) = false := by simp [q1]
    rw [hd]
    clear hd
    go_enter Try.func103, Try.ntmps103
    go_wp2
    go_ret
    exact ⟨rfl, rfl⟩
theorem isObj_yes {n : Nat} {oa : Option Addr} {cb : Nat} {w : World} {k : Int} (h : 1 ≤ k ∧ k ≤ (n : Int)) : Calls Try.prog 103 #[.slice oa n cb, .int .i64 k] w fun e w' => e = .returned (.bool true) ∧ w' = w := by
  have := isObj_ok (n := n) (oa := oa) (cb := cb) (w := w) k
  rwa [show decide (1 ≤ k ∧ k ≤ (n : Int)) = true by simpa using h] at this
theorem isObj_no {n : Nat} {oa : Option Addr} {cb : Nat} {w : World} {k : Int} (h : ¬ (1 ≤ k ∧ k ≤ (n : Int))) : Calls Try.prog 103 #[.slice oa n cb, .int .i64 k] w fun e w' => e = .returned (.bool false) ∧ w' = w := by
  have := isObj_ok (n := n) (oa := oa) (cb := cb) (w := w) k
  rwa [show decide (1 ≤ k ∧ k ≤ (n : Int)) = false by simpa using h] at this

set_option maxHeartbeats 2000000 in
theorem good_ok {c : Cv} {a : Av} {w : World} (hS : Shows w c a) (hc : c.Ok) {u : Int} (h0 : 0 ≤ u) (h1 : u < 18446744073709551616) : Calls Try.prog 89 #[.slice a.oa c.no a.cb, .int .u64 u] w fun e w' => (∃ v : Int, e = .returned (.int .i64 v) ∧ Hid ((good c u ∧ (v == 0) = false) ∨ (¬ good c u ∧ v = 0))) ∧ Below w.heap.size w w' := by
  obtain ⟨aa, ca, ra, cr, wa, cw, oa, cb, fa, cf, ga, cg, qa, cq⟩ := a
  simp only
  have HS := hide hS
  have hno := hc.no
  clear hS hc
  have IX := hide (fun w1 => index_any u h0 h1 w1)
  have GX := hide (fun w1 => gen_any u h0 h1 w1)
  obtain ⟨x, hx⟩ : ∃ x, u % 4294967296 = x := ⟨_, rfl⟩
  obtain ⟨y, hy⟩ : ∃ y, u / 4294967296 = y := ⟨_, rfl⟩
  have hx0 : 0 ≤ x ∧ x < 4294967296 := by omega
  rw [hx] at IX
  rw [hy] at GX
  have GD := hide (show good c u ↔ 1 ≤ x ∧ x ≤ (c.no : Int) ∧ (c.ob (x.toNat - 1)).us = true ∧ (c.ob (x.toNat - 1)).ge = y by unfold good; rw [hx, hy])
  clear hx hy h0 h1
  by_cases q1 : 1 ≤ x
  · by_cases q2 : x ≤ (c.no : Int)
    · obtain ⟨k, rfl⟩ : ∃ k : Nat, x = (k : Int) + 1 := ⟨x.toNat - 1, by omega⟩
      have hko : k < c.no := by omega
      have hko2 : (k : Int) < (c.no : Int) := by omega
      obtain ⟨b, off, ai, ci, hoa, hbl, hoc, hse⟩ := HS.out.ob k hko
      simp only at hoa
      subst hoa
      cases hobx : c.ob k with
      | mk us li fi ta ag ge lk nx ns sl =>
      simp only [hobx] at hoc
      simp only [Ob.cell] at hoc
      have o0 : w.cell? ⟨b, off + k * 9, none⟩ = some (.bool us) := by simpa using hoc 0 (by decide)
      have o1 : w.cell? ⟨b, off + k * 9 + 1, none⟩ = some (.bool li) := by simpa using hoc 1 (by decide)
      have o2 : w.cell? ⟨b, off + k * 9 + 2, none⟩ = some (.bool fi) := by simpa using hoc 2 (by decide)
      have o3 : w.cell? ⟨b, off + k * 9 + 3, none⟩ = some (.bool ta) := by simpa using hoc 3 (by decide)
      have o4 : w.cell? ⟨b, off + k * 9 + 4, none⟩ = some (.int .i64 ag) := by simpa using hoc 4 (by decide)
      have o5 : w.cell? ⟨b, off + k * 9 + 5, none⟩ = some (.int .u64 ge) := by simpa using hoc 5 (by decide)
      have o6 : w.cell? ⟨b, off + k * 9 + 6, none⟩ = some (.int .u64 lk) := by simpa using hoc 6 (by decide)
      have o7 : w.cell? ⟨b, off + k * 9 + 7, none⟩ = some (.int .u64 nx) := by simpa using hoc 7 (by decide)
      have o8 : w.cell? ⟨b, off + k * 9 + 8, none⟩ = some (.slice ai ns ci) := by simpa using hoc 8 (by decide)
      have IFF := hide (show good c u ↔ us = true ∧ ge = y by
        rw [GD.out, show ((k : Int) + 1).toNat - 1 = k by omega, hobx]
        constructor
        · intro h; exact h.2.2
        · intro h; exact ⟨q1, q2, h⟩)
      have IO := hide (fun w1 => isObj_yes (n := c.no) (oa := some ⟨b, off, none⟩) (cb := cb) (w := w1) (k := (k : Int) + 1) (by omega))
      clear hobx hoc hse
      go_enter Try.func89, Try.ntmps89
      go_upto_region 5 with (first | (go_at_call 99; refine (IX.out _).mono ?_; rintro e w1 ⟨rfl, hq⟩; obtain rfl := hq.symm; clear hq) | (go_at_call 103; refine (IO.out _).mono ?_; rintro e w1 ⟨rfl, hq⟩; obtain rfl := hq.symm; clear hq))
      obtain ⟨W4, hW4, B4, R4⟩ := obox w us li fi ta ag ge lk nx ai ns ci
      have HB4 := hide B4
      have p0 : W4.cell? ⟨w.heap.size, 0, none⟩ = some (.bool us) := R4.cell (i := 0) (by decide)
      have p5 : W4.cell? ⟨w.heap.size, 5, none⟩ = some (.int .u64 ge) := R4.cell (i := 5) (by decide)
      simp only [hW4]
      clear hW4 o0 o1 o2 o3 o4 o5 o6 o7 o8 R4 B4
      cases us
      · have NO := hide (show ¬ good c u from fun h => absurd (IFF.out.1 h).1 (by simp))
        go_quiet (fail)
        go_wp2
        go_ret
        exact ⟨⟨_, rfl, .inr ⟨NO.out, rfl⟩⟩, below_drewN HB4.out _⟩
      · by_cases hg : ge = y
        · have hg2 : (ge != y) = false := by simp [hg]
          have YES := hide (IFF.out.2 ⟨rfl, hg⟩)
          clear IFF hg
          go_quiet ((go_at_call 98; exact Calls.quiet_of_same (GX.out _)))
          go_wp2
          go_ret
          exact ⟨⟨_, rfl, .inl ⟨YES.out, by simp; omega⟩⟩, below_drewN HB4.out _⟩
        · have hg2 : (ge != y) = true := by simp [hg]
          have NO := hide (show ¬ good c u from fun h => hg (IFF.out.1 h).2)
          clear IFF hg
          go_quiet ((go_at_call 98; exact Calls.quiet_of_same (GX.out _)))
          go_wp2
          go_ret
          exact ⟨⟨_, rfl, .inr ⟨NO.out, rfl⟩⟩, below_drewN HB4.out _⟩
    · have NO := hide (show ¬ good c u from fun h => q2 (GD.out.1 h).2.1)
      have IO := hide (fun w1 => isObj_no (n := c.no) (oa := oa) (cb := cb) (w := w1) (k := x) (by omega))
      go_enter Try.func89, Try.ntmps89
      go_wp2_with (first | (go_at_call 99; refine (IX.out _).mono ?_; rintro e w1 ⟨rfl, hq⟩; obtain rfl := hq.symm; clear hq) | (go_at_call 103; refine (IO.out _).mono ?_; rintro e w1 ⟨rfl, hq⟩; obtain rfl := hq.symm; clear hq))
      go_ret
      exact ⟨⟨_, rfl, .inr ⟨NO.out, rfl⟩⟩, Below.refl _ _⟩
  · have NO := hide (show ¬ good c u from fun h => q1 (GD.out.1 h).1)
    have IO := hide (fun w1 => isObj_no (n := c.no) (oa := oa) (cb := cb) (w := w1) (k := x) (by omega))
    go_enter Try.func89, Try.ntmps89
    go_wp2_with (first | (go_at_call 99; refine (IX.out _).mono ?_; rintro e w1 ⟨rfl, hq⟩; obtain rfl := hq.symm; clear hq) | (go_at_call 103; refine (IO.out _).mono ?_; rintro e w1 ⟨rfl, hq⟩; obtain rfl := hq.symm; clear hq))
    go_ret
    exact ⟨⟨_, rfl, .inr ⟨NO.out, rfl⟩⟩, Below.refl _ _⟩

/-- Lists of handles that are held: where they lie, and what they show. -/
structure He where
  ao : Option Addr
  n : Nat
  cap : Nat
  g : Nat → Int
def He.v (x : He) : Value := .slice x.ao x.n x.cap
structure HeOk (w : World) (E : List He) : Prop where
  see : ∀ x, x ∈ E → Sees w w.heap.size x.ao x.n x.g
  len : ∀ x, x ∈ E → x.n ≤ 70000
  word : ∀ x, x ∈ E → ∀ i, i < x.n → 0 ≤ x.g i ∧ x.g i < 18446744073709551616
def allOk (c : Cv) (E : List He) : Prop := ∀ x, x ∈ E → ∀ i, i < x.n → hOk c (x.g i)
theorem HeOk.on {w w' : World} {E : List He} (h : HeOk w E) (hb : Below w.heap.size w w') : HeOk w' E := ⟨fun x hx => sees_on (h.see x hx) hb, h.len, h.word⟩
theorem HeOk.app {w : World} {E F : List He} (h : HeOk w E) (h' : HeOk w F) : HeOk w (E ++ F) :=
  ⟨fun x hx => (List.mem_append.1 hx).elim (h.see x) (h'.see x), fun x hx => (List.mem_append.1 hx).elim (h.len x) (h'.len x), fun x hx => (List.mem_append.1 hx).elim (h.word x) (h'.word x)⟩
theorem allOk_app {c : Cv} {E F : List He} : allOk c (E ++ F) ↔ allOk c E ∧ allOk c F :=
  ⟨fun h => ⟨fun x hx => h x (List.mem_append.2 (.inl hx)), fun x hx => h x (List.mem_append.2 (.inr hx))⟩, fun h x hx => (List.mem_append.1 hx).elim (h.1 x) (h.2 x)⟩
def hcs (E : List He) : List Value := E.map He.v
theorem hcs_app (E F : List He) : hcs (E ++ F) = hcs E ++ hcs F := by simp [hcs]
theorem hcs_len (E : List He) : (hcs E).length = E.length := by simp [hcs]
theorem hcs_one (E : List He) : ∀ u ∈ hcs E, u.oneCell' = true := by intro u hu; obtain ⟨i, _, rfl⟩ := List.mem_map.1 hu; rfl
/-- The roots' lists. -/
theorem roots_he {w : World} {c : Cv} {a : Av} (hS : Shows w c a) (hc : c.Ok) (hn : 0 < c.nr) : ∃ b off, a.ra = some ⟨b, off, none⟩ ∧ b < w.heap.size ∧ ∃ F : List He, F.length = c.nr ∧ HeOk w F ∧ (∀ j u, (hcs F)[j]? = some u → w.cell? ⟨b, off + j, none⟩ = some u) ∧ (allOk c F ↔ ∀ j, j < c.nr → ∀ i, i < c.rn j → hOk c (c.rt j i)) := by
  obtain ⟨b, off, _, _, e0, hb, _, _⟩ := hS.rt 0 hn
  refine ⟨b, off, e0, hb, ?_⟩
  have hch : ∀ m, m ≤ c.nr → ∃ F : List He, F.length = m ∧ HeOk w F ∧ (∀ j u, (hcs F)[j]? = some u → w.cell? ⟨b, off + j, none⟩ = some u) ∧ (allOk c F ↔ ∀ j, j < m → ∀ i, i < c.rn j → hOk c (c.rt j i)) := by
    intro m
    induction m with
    | zero => intro _; exact ⟨[], rfl, ⟨by simp, by simp, by simp⟩, by simp [hcs], by simp [allOk]⟩
    | succ m ih =>
      intro hm
      obtain ⟨F, h1, h2, h3, h4⟩ := ih (by omega)
      obtain ⟨b', off', ai, ci, e1, _, hcell, hsee⟩ := hS.rt m (by omega)
      rw [e0] at e1
      cases e1
      refine ⟨F ++ [⟨ai, c.rn m, ci, c.rt m⟩], by simp [h1], h2.app ⟨fun x hx => ?_, fun x hx => ?_, fun x hx => ?_⟩, fun j u hj => ?_, ?_⟩
      · simp at hx; subst hx; exact hsee
      · simp at hx; subst hx; exact hc.rn m (by omega)
      · simp at hx; subst hx; exact hc.rt m (by omega)
      · rw [hcs_app] at hj
        by_cases hjm : j < m
        · rw [List.getElem?_append_left (by rw [hcs_len]; omega)] at hj
          exact h3 j u hj
        · rw [List.getElem?_append_right (by rw [hcs_len]; omega), hcs_len, h1] at hj
          have hl := (List.getElem?_eq_some_iff.1 hj).1
          simp [hcs] at hl
          have hjm2 : j = m := by omega
          subst hjm2
          simp [hcs, He.v] at hj
          rw [← hj]
          exact hcell
      · rw [allOk_app, h4]
        constructor
        · intro h j hj
          by_cases hjm : j < m
          · exact h.1 j hjm
          · cases (show j = m by omega)
            exact h.2 ⟨ai, c.rn m, ci, c.rt m⟩ (by simp)
        · intro h
          refine ⟨fun j hj => h j (by omega), fun x hx => ?_⟩
          simp at hx
          subst hx
          exact h m (by omega)
  exact hch c.nr (Nat.le_refl _)
end Vw
end Go.Proofs.Ytecjegjnnahddaa
