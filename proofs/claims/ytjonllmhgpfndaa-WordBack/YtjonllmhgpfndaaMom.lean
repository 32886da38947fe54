/-
  What Moment, Parts and White return, in package word and in the document's answer, for every number; they turn no memory.
-/
import Derived.Test.YtjonllmhgpfndaaLeaf
namespace Go.Proofs.Ytjonllmhgpfndaa
open Go.RowKit
set_option linter.unusedVariables false

theorem ret2 {k l : IntKind} {a b c d : Int} (h : a = b) (h' : c = d) : Ending.returned (.tuple #[.int k a, .int l c]) = .returned (.tuple #[.int k b, .int l d]) := by rw [h, h']
theorem ret3 {k l m : IntKind} {a b c d x y : Int} (h : a = b) (h' : c = d) (h'' : x = y) : Ending.returned (.tuple #[.int k a, .int l c, .int m x]) = .returned (.tuple #[.int k b, .int l d, .int m y]) := by rw [h, h', h'']

def momB (p c r : Int) : Bool := decide (0 ≤ p) && decide (p ≤ 4) && (c == 0 || c == 1) && decide (r < 72057594037927936)
def momV (p c r : Int) : Int := if momB p c r then p + c * 8 + r * 256 else 0
def momE (p c r : Int) : Int := if momB p c r then 0 else 10

theorem mom_eq (p c r : Int) (hc : c = 0 ∨ c = 1) (hp0 : 0 ≤ p) (hp1 : p ≤ 4) (hr0 : 0 ≤ r) (hr1 : r < 72057594037927936) (b : Bool) (hb : b = (c == 1)) :
    bits .or .u64 (bits .or .u64 p (bit b 8)) (r * 256) = p + c * 8 + r * 256 := by
  have e : bit b 8 = c * 8 := by subst hb; rcases hc with rfl | rfl <;> rfl
  rw [e, or3 p (c * 8) hp0 (by omega) (by omega) (by omega) (by omega), or8 _ (r * 256) (by omega) (by omega) (by omega) (by omega) (by omega)]

set_option maxHeartbeats 400000 in
theorem mom_word_ok0 (p r : Int) (hp0 : 0 ≤ p) (hp1 : p ≤ 4) (hr0 : 0 ≤ r) (hr1 : r ≤ 72057594037927935) (w : World) :
    Calls Try.prog 24 #[.int .i64 p, .int .i64 0, .int .u64 r] w fun e w' => e = .returned (.tuple #[.int .u64 (p + 0 * 8 + r * 256), .int .i64 0]) ∧ w' = w := by
  go_enter Try.func24, Try.ntmps24
  go_wp2_with (first | (go_at_call 31; refine (isColour_any _ _).mono ?_; rintro e w' ⟨rfl, rfl⟩) | (go_at_call 32; refine (bitIf_any _ _ _).mono ?_; rintro e w' ⟨rfl, rfl⟩))
  go_ret2
  exact ⟨ret2 (mom_eq p 0 r (Or.inl rfl) hp0 hp1 hr0 (by omega) _ rfl) rfl, rfl⟩
set_option maxHeartbeats 400000 in
theorem mom_word_ok1 (p r : Int) (hp0 : 0 ≤ p) (hp1 : p ≤ 4) (hr0 : 0 ≤ r) (hr1 : r ≤ 72057594037927935) (w : World) :
    Calls Try.prog 24 #[.int .i64 p, .int .i64 1, .int .u64 r] w fun e w' => e = .returned (.tuple #[.int .u64 (p + 1 * 8 + r * 256), .int .i64 0]) ∧ w' = w := by
  go_enter Try.func24, Try.ntmps24
  go_wp2_with (first | (go_at_call 31; refine (isColour_any _ _).mono ?_; rintro e w' ⟨rfl, rfl⟩) | (go_at_call 32; refine (bitIf_any _ _ _).mono ?_; rintro e w' ⟨rfl, rfl⟩))
  go_ret2
  exact ⟨ret2 (mom_eq p 1 r (Or.inr rfl) hp0 hp1 hr0 (by omega) _ rfl) rfl, rfl⟩
set_option maxHeartbeats 400000 in
theorem mom_word_neg (p c r : Int) (hp : p < 0) (w : World) :
    Calls Try.prog 24 #[.int .i64 p, .int .i64 c, .int .u64 r] w fun e w' => e = .returned (.tuple #[.int .u64 0, .int .i64 10]) ∧ w' = w := by
  go_enter Try.func24, Try.ntmps24
  go_wp2
  go_ret2
  exact ⟨rfl, rfl⟩
set_option maxHeartbeats 400000 in
theorem mom_word_big (p c r : Int) (hp0 : 0 ≤ p) (hp : 4 < p) (w : World) :
    Calls Try.prog 24 #[.int .i64 p, .int .i64 c, .int .u64 r] w fun e w' => e = .returned (.tuple #[.int .u64 0, .int .i64 10]) ∧ w' = w := by
  go_enter Try.func24, Try.ntmps24
  go_wp2
  go_ret2
  exact ⟨rfl, rfl⟩
set_option maxHeartbeats 400000 in
theorem mom_word_colour (p c r : Int) (hp0 : 0 ≤ p) (hp : p ≤ 4) (hb0 : (c == 0) = false) (hb1 : (c == 1) = false) (w : World) :
    Calls Try.prog 24 #[.int .i64 p, .int .i64 c, .int .u64 r] w fun e w' => e = .returned (.tuple #[.int .u64 0, .int .i64 10]) ∧ w' = w := by
  go_enter Try.func24, Try.ntmps24
  go_wp2_with (first | (go_at_call 31; refine (isColour_any _ _).mono ?_; rintro e w' ⟨rfl, rfl⟩) | (go_at_call 32; refine (bitIf_any _ _ _).mono ?_; rintro e w' ⟨rfl, rfl⟩))
  go_ret2
  exact ⟨rfl, rfl⟩
set_option maxHeartbeats 400000 in
theorem mom_word_round0 (p r : Int) (hp0 : 0 ≤ p) (hp : p ≤ 4) (hr : 72057594037927935 < r) (w : World) :
    Calls Try.prog 24 #[.int .i64 p, .int .i64 0, .int .u64 r] w fun e w' => e = .returned (.tuple #[.int .u64 0, .int .i64 10]) ∧ w' = w := by
  go_enter Try.func24, Try.ntmps24
  go_wp2_with (first | (go_at_call 31; refine (isColour_any _ _).mono ?_; rintro e w' ⟨rfl, rfl⟩) | (go_at_call 32; refine (bitIf_any _ _ _).mono ?_; rintro e w' ⟨rfl, rfl⟩))
  go_ret2
  exact ⟨rfl, rfl⟩
set_option maxHeartbeats 400000 in
theorem mom_word_round1 (p r : Int) (hp0 : 0 ≤ p) (hp : p ≤ 4) (hr : 72057594037927935 < r) (w : World) :
    Calls Try.prog 24 #[.int .i64 p, .int .i64 1, .int .u64 r] w fun e w' => e = .returned (.tuple #[.int .u64 0, .int .i64 10]) ∧ w' = w := by
  go_enter Try.func24, Try.ntmps24
  go_wp2_with (first | (go_at_call 31; refine (isColour_any _ _).mono ?_; rintro e w' ⟨rfl, rfl⟩) | (go_at_call 32; refine (bitIf_any _ _ _).mono ?_; rintro e w' ⟨rfl, rfl⟩))
  go_ret2
  exact ⟨rfl, rfl⟩
theorem mom_word (p c r : Int) (hr0 : 0 ≤ r) (w : World) :
    Calls Try.prog 24 #[.int .i64 p, .int .i64 c, .int .u64 r] w fun e w' => e = .returned (.tuple #[.int .u64 (momV p c r), .int .i64 (momE p c r)]) ∧ w' = w := by
  by_cases h1 : p < 0
  · have hb : momB p c r = false := by unfold momB; simp; omega
    unfold momV momE; rw [hb]
    exact mom_word_neg p c r h1 w
  · by_cases h2 : 4 < p
    · have hb : momB p c r = false := by unfold momB; simp; omega
      unfold momV momE; rw [hb]
      exact mom_word_big p c r (by omega) h2 w
    · by_cases hc : c = 0 ∨ c = 1
      · by_cases h3 : 72057594037927935 < r
        · have hb : momB p c r = false := by unfold momB; simp; omega
          unfold momV momE; rw [hb]
          rcases hc with rfl | rfl
          · exact mom_word_round0 p r (by omega) (by omega) h3 w
          · exact mom_word_round1 p r (by omega) (by omega) h3 w
        · have hb : momB p c r = true := by unfold momB; simp; omega
          unfold momV momE; rw [hb]
          rcases hc with rfl | rfl
          · exact mom_word_ok0 p r (by omega) (by omega) hr0 (by omega) w
          · exact mom_word_ok1 p r (by omega) (by omega) hr0 (by omega) w
      · have hb : momB p c r = false := by unfold momB; simp; omega
        unfold momV momE; rw [hb]
        exact mom_word_colour p c r (by omega) (by omega) (beq_eq_false_iff_ne.2 (by omega)) (beq_eq_false_iff_ne.2 (by omega)) w

set_option maxHeartbeats 400000 in
theorem mom_ref_ok0 (p r : Int) (hp0 : 0 ≤ p) (hp1 : p ≤ 4) (hr0 : 0 ≤ r) (hr1 : r < 72057594037927936) (w : World) :
    Calls Try.prog 23 #[.int .i64 p, .int .i64 0, .int .u64 r] w fun e w' => e = .returned (.tuple #[.int .u64 (p + 0 * 8 + r * 256), .int .i64 0]) ∧ w' = w := by
  go_enter Try.func23, Try.ntmps23
  go_wp2
  go_ret2
  exact ⟨ret2 (by omega) rfl, rfl⟩
set_option maxHeartbeats 400000 in
theorem mom_ref_round0 (p r : Int) (hp0 : 0 ≤ p) (hp1 : p ≤ 4) (hr1 : 72057594037927936 ≤ r) (w : World) :
    Calls Try.prog 23 #[.int .i64 p, .int .i64 0, .int .u64 r] w fun e w' => e = .returned (.tuple #[.int .u64 0, .int .i64 10]) ∧ w' = w := by
  go_enter Try.func23, Try.ntmps23
  go_wp2
  go_ret2
  exact ⟨rfl, rfl⟩
set_option maxHeartbeats 400000 in
theorem mom_ref_ok1 (p r : Int) (hp0 : 0 ≤ p) (hp1 : p ≤ 4) (hr0 : 0 ≤ r) (hr1 : r < 72057594037927936) (w : World) :
    Calls Try.prog 23 #[.int .i64 p, .int .i64 1, .int .u64 r] w fun e w' => e = .returned (.tuple #[.int .u64 (p + 1 * 8 + r * 256), .int .i64 0]) ∧ w' = w := by
  go_enter Try.func23, Try.ntmps23
  go_wp2
  go_ret2
  exact ⟨ret2 (by omega) rfl, rfl⟩
set_option maxHeartbeats 400000 in
theorem mom_ref_round1 (p r : Int) (hp0 : 0 ≤ p) (hp1 : p ≤ 4) (hr1 : 72057594037927936 ≤ r) (w : World) :
    Calls Try.prog 23 #[.int .i64 p, .int .i64 1, .int .u64 r] w fun e w' => e = .returned (.tuple #[.int .u64 0, .int .i64 10]) ∧ w' = w := by
  go_enter Try.func23, Try.ntmps23
  go_wp2
  go_ret2
  exact ⟨rfl, rfl⟩
set_option maxHeartbeats 400000 in
theorem mom_ref_neg (p c r : Int) (hp : p < 0) (w : World) :
    Calls Try.prog 23 #[.int .i64 p, .int .i64 c, .int .u64 r] w fun e w' => e = .returned (.tuple #[.int .u64 0, .int .i64 10]) ∧ w' = w := by
  go_enter Try.func23, Try.ntmps23
  go_wp2
  go_ret2
  exact ⟨rfl, rfl⟩
set_option maxHeartbeats 400000 in
theorem mom_ref_big (p c r : Int) (hp0 : 0 ≤ p) (hp : 4 < p) (w : World) :
    Calls Try.prog 23 #[.int .i64 p, .int .i64 c, .int .u64 r] w fun e w' => e = .returned (.tuple #[.int .u64 0, .int .i64 10]) ∧ w' = w := by
  go_enter Try.func23, Try.ntmps23
  go_wp2
  go_ret2
  exact ⟨rfl, rfl⟩
set_option maxHeartbeats 400000 in
theorem mom_ref_colour (p c r : Int) (hp0 : 0 ≤ p) (hp : p ≤ 4) (hb0 : (c != 0) = true) (hb1 : (c != 1) = true) (hn0 : ¬ c = 0) (hn1 : ¬ c = 1) (w : World) :
    Calls Try.prog 23 #[.int .i64 p, .int .i64 c, .int .u64 r] w fun e w' => e = .returned (.tuple #[.int .u64 0, .int .i64 10]) ∧ w' = w := by
  go_enter Try.func23, Try.ntmps23
  go_wp2
  go_ret2
  exact ⟨rfl, rfl⟩
theorem mom_ref (p c r : Int) (hr0 : 0 ≤ r) (w : World) :
    Calls Try.prog 23 #[.int .i64 p, .int .i64 c, .int .u64 r] w fun e w' => e = .returned (.tuple #[.int .u64 (momV p c r), .int .i64 (momE p c r)]) ∧ w' = w := by
  by_cases h1 : p < 0
  · have hb : momB p c r = false := by unfold momB; simp; omega
    unfold momV momE; rw [hb]
    exact mom_ref_neg p c r h1 w
  · by_cases h2 : 4 < p
    · have hb : momB p c r = false := by unfold momB; simp; omega
      unfold momV momE; rw [hb]
      exact mom_ref_big p c r (by omega) h2 w
    · by_cases hc : c = 0 ∨ c = 1
      · by_cases h3 : 72057594037927936 ≤ r
        · have hb : momB p c r = false := by unfold momB; simp; omega
          unfold momV momE; rw [hb]
          rcases hc with rfl | rfl
          · exact mom_ref_round0 p r (by omega) (by omega) h3 w
          · exact mom_ref_round1 p r (by omega) (by omega) h3 w
        · have hb : momB p c r = true := by unfold momB; simp; omega
          unfold momV momE; rw [hb]
          rcases hc with rfl | rfl
          · exact mom_ref_ok0 p r (by omega) (by omega) hr0 (by omega) w
          · exact mom_ref_ok1 p r (by omega) (by omega) hr0 (by omega) w
      · have hb : momB p c r = false := by unfold momB; simp; omega
        unfold momV momE; rw [hb]
        exact mom_ref_colour p c r (by omega) (by omega) (bne_iff_ne.2 (by omega)) (bne_iff_ne.2 (by omega)) (by omega) (by omega) w


theorem wrap64_small (a : Int) (h0 : 0 ≤ a) (h1 : a < 9223372036854775808) : wrap64 a = a := by unfold wrap64; omega

set_option maxHeartbeats 400000 in
theorem parts_word (x : Int) (h0 : 0 ≤ x) (h1 : x < 18446744073709551616) (w : World) :
    Calls Try.prog 26 #[.int .u64 x] w fun e w' => e = .returned (.tuple #[.int .i64 (x % 8), .int .i64 (numB x 8), .int .u64 (x / 256)]) ∧ w' = w := by
  go_enter Try.func26, Try.ntmps26
  go_wp2_with (go_at_call 35; refine (numberOf_gen _ _ (num8 _ h0 h1) _).mono ?_; rintro e w' ⟨rfl, rfl⟩)
  go_ret3
  exact ⟨ret3 (by rw [and7 x h0 h1]; exact wrap64_small _ (by omega) (by omega)) rfl rfl, rfl⟩
set_option maxHeartbeats 400000 in
theorem parts_ref (x : Int) (h0 : 0 ≤ x) (h1 : x < 18446744073709551616) (w : World) :
    Calls Try.prog 25 #[.int .u64 x] w fun e w' => e = .returned (.tuple #[.int .i64 (x % 8), .int .i64 (numB x 8), .int .u64 (x / 256)]) ∧ w' = w := by
  go_enter Try.func25, Try.ntmps25
  go_wp2
  go_ret3
  exact ⟨rfl, rfl⟩

/-- In use, of this generation, and of another colour. -/
def whiteB (x g c : Int) : Bool := hasB x 1 && (x / 4294967296 == g) && (numB x 2 != c)

set_option maxHeartbeats 400000 in
theorem white_word (x g c : Int) (h0 : 0 ≤ x) (h1 : x < 18446744073709551616) (w : World) :
    Calls Try.prog 27 #[.int .u64 x, .int .u64 g, .int .i64 c] w fun e w' => e = .returned (.bool (whiteB x g c)) ∧ w' = w := by
  unfold whiteB
  rw [← num1 x h0 h1]
  by_cases ha : (bits .and .u64 x 1 != 0) = true
  · by_cases hb : (x / 4294967296 == g) = true
    · go_enter Try.func27, Try.ntmps27
      go_wp2_with (first | (go_at_call 12; refine (gen_any _ h0 h1 _).mono ?_; rintro e w' ⟨rfl, rfl⟩) | (go_at_call 35; refine (numberOf_gen _ _ (num2 _ h0 h1) _).mono ?_; rintro e w' ⟨rfl, rfl⟩))
      go_ret
      exact ⟨ret_bool (by simp [ha, hb]), rfl⟩
    · have hb' : (x / 4294967296 == g) = false := by simpa using hb
      clear hb
      go_enter Try.func27, Try.ntmps27
      go_wp2_with (first | (go_at_call 12; refine (gen_any _ h0 h1 _).mono ?_; rintro e w' ⟨rfl, rfl⟩) | (go_at_call 35; refine (numberOf_gen _ _ (num2 _ h0 h1) _).mono ?_; rintro e w' ⟨rfl, rfl⟩))
      go_ret
      exact ⟨ret_bool (by simp [ha, hb']), rfl⟩
  · have ha' : (bits .and .u64 x 1 != 0) = false := by simpa using ha
    clear ha
    go_enter Try.func27, Try.ntmps27
    go_wp2
    go_ret
    exact ⟨ret_bool (by simp [ha']), rfl⟩

set_option maxHeartbeats 400000 in
theorem white_ref (x g c : Int) (h0 : 0 ≤ x) (h1 : x < 18446744073709551616) (w : World) :
    Calls Try.prog 28 #[.int .u64 x, .int .u64 g, .int .i64 c] w fun e w' => e = .returned (.bool (whiteB x g c)) ∧ w' = w := by
  unfold whiteB
  by_cases ha : hasB x 1 = true
  · by_cases hb : (x / 4294967296 == g) = true
    · go_enter Try.func28, Try.ntmps28
      go_wp2_with (first | (go_at_call 33; refine (has_ref _ _ h0 h1 (by omega) _).mono ?_; rintro e w' ⟨rfl, rfl⟩) | (go_at_call 34; refine (colour_ref _ h0 h1 _).mono ?_; rintro e w' ⟨rfl, rfl⟩))
      go_ret
      exact ⟨ret_bool (by simp [ha, hb]), rfl⟩
    · have hb' : (x / 4294967296 == g) = false := by simpa using hb
      clear hb
      go_enter Try.func28, Try.ntmps28
      go_wp2_with (first | (go_at_call 33; refine (has_ref _ _ h0 h1 (by omega) _).mono ?_; rintro e w' ⟨rfl, rfl⟩) | (go_at_call 34; refine (colour_ref _ h0 h1 _).mono ?_; rintro e w' ⟨rfl, rfl⟩))
      go_ret
      exact ⟨ret_bool (by simp [ha, hb']), rfl⟩
  · have ha' : hasB x 1 = false := by simpa using ha
    clear ha
    go_enter Try.func28, Try.ntmps28
    go_wp2_with (first | (go_at_call 33; refine (has_ref _ _ h0 h1 (by omega) _).mono ?_; rintro e w' ⟨rfl, rfl⟩) | (go_at_call 34; refine (colour_ref _ h0 h1 _).mono ?_; rintro e w' ⟨rfl, rfl⟩))
    go_ret
    exact ⟨ret_bool (by simp [ha']), rfl⟩

end Go.Proofs.Ytjonllmhgpfndaa
