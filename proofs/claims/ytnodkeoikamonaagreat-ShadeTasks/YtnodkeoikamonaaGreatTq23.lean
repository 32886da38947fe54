/-
  Lemmas: WordV, WordS, ShadeC, Lb0, Lb, ShapeN0.
-/
import Derived.Test.YtnodkeoikamonaaGreatRows
import Derived.WalkKit
import Derived.WalkSpells
import Derived.WalkLawsBesides
import Derived.Laws.Bits64
import Derived.Deep.RegionWith
import Derived.Test.YtnodkeoikamonaaGreatTq05
import Derived.Test.YtnodkeoikamonaaGreatTq06
import Derived.Test.YtnodkeoikamonaaGreatTq18
import Derived.Test.YtnodkeoikamonaaGreatTq13
import Derived.Test.YtnodkeoikamonaaGreatTq10
import Derived.Deep.RegionHeld
import Derived.Deep.Light
import Derived.Deep.QuietTactic
import Derived.BigQuiet
import Derived.Deep.CutBlock
import Derived.Deep.CutRange
/-
  Words: Index, Gen, Tagged, Parts, Unpack, the package's and the document's.
-/
namespace Go.Proofs.YtnodkeoikamonaaGreat
open Go.RowKit
set_option linter.unusedVariables false
set_option linter.unusedSimpArgs false
set_option maxRecDepth 20000
theorem wrapU (n : Int) : IntKind.u64.wrap n = n % 18446744073709551616 := IntKind.wrap_u64 n
theorem and_low (x : Int) (h0 : 0 ≤ x) (h1 : x < 18446744073709551616) : bits .and .u64 x 4294967295 = x % 4294967296 := by
  rw [u64_and x 4294967295 h0 h1 (by omega) (by omega)]
  have e : x.toNat &&& (4294967295 : Int).toNat = x.toNat % 4294967296 := Nat.and_two_pow_sub_one_eq_mod x.toNat 32
  rw [e]; omega
theorem and1 (x : Int) (h0 : 0 ≤ x) (h1 : x < 18446744073709551616) : bits .and .u64 x 1 = x % 2 := by
  rw [u64_and x 1 h0 h1 (by omega) (by omega)]
  have e : x.toNat &&& (1 : Int).toNat = x.toNat % 2 := Nat.and_two_pow_sub_one_eq_mod x.toNat 1
  rw [e]; omega
theorem and2 (x : Int) (h0 : 0 ≤ x) (h1 : x < 18446744073709551616) : bits .and .u64 x 2 = x / 2 % 2 * 2 := by
  rw [u64_and x 2 h0 h1 (by omega) (by omega)]
  have e : x.toNat &&& (2 : Int).toNat = x.toNat / 2 % 2 * 2 := nat_bit 1 x.toNat
  rw [e]; omega
theorem or_join (i : Nat) (a b : Int) (ha0 : 0 ≤ a) (ha1 : a.toNat < 2 ^ i) (ha2 : a < 18446744073709551616) (hb0 : 0 ≤ b) (hb1 : b.toNat % 2 ^ i = 0) (hb2 : b < 18446744073709551616) : bits .or .u64 a b = a + b := by
  rw [u64_or a b ha0 ha2 hb0 hb2, Nat.or_comm, nat_join i b.toNat a.toNat hb1 ha1]
  omega
theorem or32 (a b : Int) (ha0 : 0 ≤ a) (ha1 : a < 4294967296) (hb0 : 0 ≤ b) (hb1 : b % 4294967296 = 0) (hb2 : b < 18446744073709551616) : bits .or .u64 a b = a + b :=
  or_join 32 a b ha0 (by omega) (by omega) hb0 (by omega) hb2
def hd (i g : Int) : Int := i % 4294967296 + g % 4294967296 * 4294967296
theorem hd_lo (i g : Int) : 0 ≤ hd i g := by unfold hd; omega
theorem hd_hi (i g : Int) : hd i g < 18446744073709551616 := by unfold hd; omega
theorem join_eq (i g : Int) : bits .or .u64 (bits .and .u64 (IntKind.u64.wrap i) 4294967295) (IntKind.u64.wrap (g * 4294967296)) = hd i g := by
  rw [wrapU, wrapU, and_low _ (by omega) (by omega), or32 _ _ (by omega) (by omega) (by omega) (by omega) (by omega)]
  unfold hd; omega
theorem ref_eq (i g : Int) : IntKind.u64.wrap ((IntKind.u64.wrap i).tmod 4294967296 + g % 4294967296 * 4294967296) = hd i g := by
  rw [wrapU, wrapU, Int.tmod_eq_emod_of_nonneg (by omega)]
  unfold hd; omega
def bit (b : Bool) (v : Int) : Int := if b then v else 0
theorem ret_int {k : IntKind} {a b : Int} (h : a = b) : Ending.returned (.int k a) = .returned (.int k b) := by rw [h]
theorem ret_bool {a b : Bool} (h : a = b) : Ending.returned (.bool a) = .returned (.bool b) := by rw [h]
set_option maxHeartbeats 400000 in
theorem join_any (i g : Int) (w : World) :
    Calls Tryz.prog 118 #[.int .i64 i, .int .u64 g] w fun e w' => e = .returned (.int .u64 (hd i g)) ∧ w' = w := by
  go_enter Tryz.func118, Tryz.ntmps118
  go_wp2
  go_ret
  exact ⟨ret_int (join_eq i g), rfl⟩
set_option maxHeartbeats 400000 in
theorem tagged_any (i g : Int) (w : World) :
    Calls Tryz.prog 116 #[.int .i64 i, .int .u64 g] w fun e w' => e = .returned (.int .u64 (hd i g)) ∧ w' = w := by
  go_enter Tryz.func116, Tryz.ntmps116
  go_wp2_with (go_at_call 118; refine (join_any _ _ _).mono ?_; rintro e w' ⟨rfl, rfl⟩)
  go_ret
  exact ⟨rfl, rfl⟩
theorem wrap64_low (h : Int) (h0 : 0 ≤ h) (h1 : h < 18446744073709551616) : wrap64 (bits .and .u64 h 4294967295) = h % 4294967296 := by
  rw [and_low h h0 h1]; unfold wrap64; omega
set_option maxHeartbeats 400000 in
theorem index_any (h : Int) (h0 : 0 ≤ h) (h1 : h < 18446744073709551616) (w : World) :
    Calls Tryz.prog 47 #[.int .u64 h] w fun e w' => e = .returned (.int .i64 (h % 4294967296)) ∧ w' = w := by
  go_enter Tryz.func47, Tryz.ntmps47
  go_wp2
  go_ret
  exact ⟨ret_int (wrap64_low h h0 h1), rfl⟩
set_option maxHeartbeats 400000 in
theorem index_ref (h : Int) (h0 : 0 ≤ h) (h1 : h < 18446744073709551616) (w : World) :
    Calls Tryz.prog 64 #[.int .u64 h] w fun e w' => e = .returned (.int .i64 (h % 4294967296)) ∧ w' = w := by
  go_enter Tryz.func64, Tryz.ntmps64
  go_wp2
  go_ret
  exact ⟨rfl, rfl⟩
set_option maxHeartbeats 400000 in
theorem gen_any (h : Int) (h0 : 0 ≤ h) (h1 : h < 18446744073709551616) (w : World) :
    Calls Tryz.prog 48 #[.int .u64 h] w fun e w' => e = .returned (.int .u64 (h / 4294967296)) ∧ w' = w := by
  go_enter Tryz.func48, Tryz.ntmps48
  go_wp2
  go_ret
  exact ⟨rfl, rfl⟩
set_option maxHeartbeats 400000 in
theorem gen_ref (h : Int) (h0 : 0 ≤ h) (h1 : h < 18446744073709551616) (w : World) :
    Calls Tryz.prog 68 #[.int .u64 h] w fun e w' => e = .returned (.int .u64 (h / 4294967296)) ∧ w' = w := by
  go_enter Tryz.func68, Tryz.ntmps68
  go_wp2
  go_ret
  exact ⟨rfl, rfl⟩
def hasB (x v : Int) : Bool := x / v % 2 == 1
def numB (x v : Int) : Int := x / v % 2
theorem num2 (x : Int) (h0 : 0 ≤ x) (h1 : x < 18446744073709551616) : (bits .and .u64 x 2 != 0) = hasB x 2 := by
  rw [and2 x h0 h1]; unfold hasB; rw [Bool.eq_iff_iff]; simp; omega
theorem num1 (x : Int) (h0 : 0 ≤ x) (h1 : x < 18446744073709551616) : (bits .and .u64 x 1 != 0) = hasB x 1 := by
  rw [and1 x h0 h1]; unfold hasB; rw [Bool.eq_iff_iff]; simp; omega
theorem numB_of_true {x v : Int} (h : hasB x v = true) : numB x v = 1 := by unfold hasB at h; unfold numB; simpa using h
theorem numB_of_false {x v : Int} (h : hasB x v = false) : numB x v = 0 := by unfold hasB at h; unfold numB; simp at h; omega
set_option maxHeartbeats 400000 in
theorem numberOf_gen (x v : Int) (hx : (bits .and .u64 x v != 0) = hasB x v) (w : World) :
    Calls Tryz.prog 98 #[.int .u64 x, .int .u64 v] w fun e w' => e = .returned (.int .i64 (numB x v)) ∧ w' = w := by
  have H : Hid ((bits .and .u64 x v != 0) = hasB x v) := hx
  clear hx
  go_enter Tryz.func98, Tryz.ntmps98
  go_wp2
  · go_ret
    rename_i h
    exact ⟨ret_int (numB_of_true (H.out.symm.trans h)).symm, rfl⟩
  · go_ret
    rename_i h
    exact ⟨ret_int (numB_of_false (H.out.symm.trans h)).symm, rfl⟩
theorem has_eq (x v : Int) (h0 : 0 ≤ x) (hv : 0 < v) : ((x / v).tmod 2 == 1) = hasB x v := by
  unfold hasB; rw [Int.tmod_eq_emod_of_nonneg (Int.ediv_nonneg h0 (by omega))]
set_option maxHeartbeats 400000 in
theorem has_ref (x v : Int) (h0 : 0 ≤ x) (h1 : x < 18446744073709551616) (hv : 0 < v) (w : World) :
    Calls Tryz.prog 90 #[.int .u64 x, .int .u64 v] w fun e w' => e = .returned (.bool (hasB x v)) ∧ w' = w := by
  go_enter Tryz.func90, Tryz.ntmps90
  go_wp2
  go_ret
  exact ⟨ret_bool (has_eq x v h0 hv), rfl⟩
set_option maxHeartbeats 400000 in
theorem colour_ref (x : Int) (h0 : 0 ≤ x) (h1 : x < 18446744073709551616) (w : World) :
    Calls Tryz.prog 91 #[.int .u64 x] w fun e w' => e = .returned (.int .i64 (numB x 2)) ∧ w' = w := by
  go_enter Tryz.func91, Tryz.ntmps91
  go_wp2
  go_ret
  exact ⟨rfl, rfl⟩
def packOk (age gen c : Int) : Prop := (c = 0 ∨ c = 1) ∧ 0 ≤ age ∧ age ≤ 255 ∧ gen ≤ 4294967295
def ownB (live : Bool) (c : Int) : Bool := if live then c == 1 else !(c == 1)
def packW (used own final taken : Bool) (age gen : Int) : Int := bit used 1 + bit own 2 + bit final 4 + bit taken 8 + age * 256 + gen * 4294967296
def packB (age gen c : Int) : Bool := (c == 0 || c == 1) && decide (0 ≤ age) && decide (age ≤ 255) && decide (gen ≤ 4294967295)
def packV (used live final taken : Bool) (age gen c : Int) : Int := if packB age gen c then packW used (ownB live c) final taken age gen else 0
def packE (age gen c : Int) : Int := if packB age gen c then 0 else 10
def momB (p c r : Int) : Bool := decide (0 ≤ p) && decide (p ≤ 4) && (c == 0 || c == 1) && decide (r < 72057594037927936)
def momV (p c r : Int) : Int := if momB p c r then p + c * 8 + r * 256 else 0
def momE (p c r : Int) : Int := if momB p c r then 0 else 10
def obj (used live final taken : Bool) (age gen link next : Int) : Value :=
  .agg #[.bool used, .bool live, .bool final, .bool taken, .int .i64 age, .int .u64 gen, .int .u64 link, .int .u64 next, .slice none 0 0]
end Go.Proofs.YtnodkeoikamonaaGreat
/-
  Words as plain numbers: Bump and White, in package word and in the document's answer.
-/
namespace Go.Proofs.YtnodkeoikamonaaGreat
open Go.RowKit
set_option linter.unusedVariables false
set_option maxHeartbeats 400000 in
theorem bump_any (t i : Int) (h0 : 0 ≤ t) (h1 : t < 18446744073709551616) (w : World) :
    Calls Tryz.prog 111 #[.int .u64 t, .int .i64 i] w fun e w' => e = .returned (.int .u64 (hd i (t / 4294967296 + 1))) ∧ w' = w := by
  go_enter Tryz.func111, Tryz.ntmps111
  go_wp2_with (first | (go_at_call 48; refine (gen_any _ h0 h1 _).mono ?_; rintro e w' ⟨rfl, rfl⟩) | (go_at_call 116; refine (tagged_any _ _ _).mono ?_; rintro e w' ⟨rfl, rfl⟩))
  go_ret
  exact ⟨rfl, rfl⟩
set_option maxHeartbeats 400000 in
theorem handle_ref (i g : Int) (h0 : 0 ≤ g) (h1 : g < 18446744073709551616) (w : World) :
    Calls Tryz.prog 103 #[.int .i64 i, .int .u64 g] w fun e w' => e = .returned (.int .u64 (hd i g)) ∧ w' = w := by
  go_enter Tryz.func103, Tryz.ntmps103
  go_wp2
  go_ret
  exact ⟨ret_int (ref_eq i g), rfl⟩
set_option maxHeartbeats 400000 in
theorem tagged_ref (i g : Int) (h0 : 0 ≤ g) (h1 : g < 18446744073709551616) (w : World) :
    Calls Tryz.prog 92 #[.int .i64 i, .int .u64 g] w fun e w' => e = .returned (.int .u64 (hd i g)) ∧ w' = w := by
  go_enter Tryz.func92, Tryz.ntmps92
  go_wp2_with (go_at_call 103; refine (handle_ref _ _ h0 h1 _).mono ?_; rintro e w' ⟨rfl, rfl⟩)
  go_ret
  exact ⟨rfl, rfl⟩
set_option maxHeartbeats 400000 in
theorem bump_ref (t i : Int) (h0 : 0 ≤ t) (h1 : t < 18446744073709551616) (w : World) :
    Calls Tryz.prog 70 #[.int .u64 t, .int .i64 i] w fun e w' => e = .returned (.int .u64 (hd i (t / 4294967296 + 1))) ∧ w' = w := by
  go_enter Tryz.func70, Tryz.ntmps70
  go_wp2_with (first | (go_at_call 68; refine (gen_ref _ h0 h1 _).mono ?_; rintro e w' ⟨rfl, rfl⟩) | (go_at_call 92; refine (tagged_ref _ _ (by omega) (by omega) _).mono ?_; rintro e w' ⟨rfl, rfl⟩))
  go_ret
  exact ⟨rfl, rfl⟩
def whiteB (x g c : Int) : Bool := hasB x 1 && (x / 4294967296 == g) && (numB x 2 != c)
set_option maxHeartbeats 400000 in
theorem white_word (x g c : Int) (h0 : 0 ≤ x) (h1 : x < 18446744073709551616) (w : World) :
    Calls Tryz.prog 84 #[.int .u64 x, .int .u64 g, .int .i64 c] w fun e w' => e = .returned (.bool (whiteB x g c)) ∧ w' = w := by
  unfold whiteB
  rw [← num1 x h0 h1]
  by_cases ha : (bits .and .u64 x 1 != 0) = true
  · by_cases hb : (x / 4294967296 == g) = true
    · go_enter Tryz.func84, Tryz.ntmps84
      go_wp2_with (first | (go_at_call 48; refine (gen_any _ h0 h1 _).mono ?_; rintro e w' ⟨rfl, rfl⟩) | (go_at_call 98; refine (numberOf_gen _ _ (num2 _ h0 h1) _).mono ?_; rintro e w' ⟨rfl, rfl⟩))
      go_ret
      exact ⟨ret_bool (by simp [ha, hb]), rfl⟩
    · have hb' : (x / 4294967296 == g) = false := by simpa using hb
      clear hb
      go_enter Tryz.func84, Tryz.ntmps84
      go_wp2_with (first | (go_at_call 48; refine (gen_any _ h0 h1 _).mono ?_; rintro e w' ⟨rfl, rfl⟩) | (go_at_call 98; refine (numberOf_gen _ _ (num2 _ h0 h1) _).mono ?_; rintro e w' ⟨rfl, rfl⟩))
      go_ret
      exact ⟨ret_bool (by simp [ha, hb']), rfl⟩
  · have ha' : (bits .and .u64 x 1 != 0) = false := by simpa using ha
    clear ha
    go_enter Tryz.func84, Tryz.ntmps84
    go_wp2
    go_ret
    exact ⟨ret_bool (by simp [ha']), rfl⟩
set_option maxHeartbeats 400000 in
theorem white_ref (x g c : Int) (h0 : 0 ≤ x) (h1 : x < 18446744073709551616) (w : World) :
    Calls Tryz.prog 67 #[.int .u64 x, .int .u64 g, .int .i64 c] w fun e w' => e = .returned (.bool (whiteB x g c)) ∧ w' = w := by
  unfold whiteB
  by_cases ha : hasB x 1 = true
  · by_cases hb : (x / 4294967296 == g) = true
    · go_enter Tryz.func67, Tryz.ntmps67
      go_wp2_with (first | (go_at_call 90; refine (has_ref _ _ h0 h1 (by omega) _).mono ?_; rintro e w' ⟨rfl, rfl⟩) | (go_at_call 91; refine (colour_ref _ h0 h1 _).mono ?_; rintro e w' ⟨rfl, rfl⟩))
      go_ret
      exact ⟨ret_bool (by simp [ha, hb]), rfl⟩
    · have hb' : (x / 4294967296 == g) = false := by simpa using hb
      clear hb
      go_enter Tryz.func67, Tryz.ntmps67
      go_wp2_with (first | (go_at_call 90; refine (has_ref _ _ h0 h1 (by omega) _).mono ?_; rintro e w' ⟨rfl, rfl⟩) | (go_at_call 91; refine (colour_ref _ h0 h1 _).mono ?_; rintro e w' ⟨rfl, rfl⟩))
      go_ret
      exact ⟨ret_bool (by simp [ha, hb']), rfl⟩
  · have ha' : hasB x 1 = false := by simpa using ha
    clear ha
    go_enter Tryz.func67, Tryz.ntmps67
    go_wp2_with (first | (go_at_call 90; refine (has_ref _ _ h0 h1 (by omega) _).mono ?_; rintro e w' ⟨rfl, rfl⟩) | (go_at_call 91; refine (colour_ref _ h0 h1 _).mono ?_; rintro e w' ⟨rfl, rfl⟩))
    go_ret
    exact ⟨ret_bool (by simp [ha']), rfl⟩
end Go.Proofs.YtnodkeoikamonaaGreat
/-
  Shading and pulling: how a job under way lies in memory, and what it is as a plain state.
-/
namespace Go.Proofs.YtnodkeoikamonaaGreat
open Go.RowKit
set_option linter.unusedVariables false
set_option linter.unusedSimpArgs false
set_option maxRecDepth 20000
namespace Shd
def idx (x : Int) : Int := x % 4294967296
def bmp (t i : Int) : Int := hd i (t / 4294967296 + 1)
def xr (v : Int) : Int := bits .xor .u64 v 2
theorem idx_lo (x : Int) : 0 ≤ idx x := by unfold idx; omega
theorem idx_hi (x : Int) : idx x < 4294967296 := by unfold idx; omega
theorem bmp_lo (t i : Int) : 0 ≤ bmp t i := hd_lo _ _
theorem bmp_hi (t i : Int) : bmp t i ≤ 18446744073709551615 := by have := hd_hi i (t / 4294967296 + 1); unfold bmp; omega
theorem xr_eq {v : Int} (h : 0 ≤ v ∧ v ≤ 18446744073709551615) : xr v = if v / 2 % 2 = 1 then v - 2 else v + 2 := by
  unfold xr
  rw [u64_xor v 2 h.1 (by omega) (by omega) (by omega)]
  obtain ⟨n, rfl⟩ := Int.eq_ofNat_of_zero_le h.1
  have e : (n : Int).toNat ^^^ (2 : Int).toNat = if n / 2 % 2 = 1 then n - 2 else n + 2 := by
    show n ^^^ 2 = _
    have key : n ^^^ 2 = (n / 4) * 4 + (n % 4 ^^^ 2) := by
      have h1 : (n ^^^ 2) / 4 = n / 4 := by
        have := Nat.xor_div_two_pow (a := n) (b := 2) (n := 2)
        simpa using this
      have h2 : (n ^^^ 2) % 4 = n % 4 ^^^ 2 := by
        have := Nat.xor_mod_two_pow (a := n) (b := 2) (n := 2)
        simpa using this
      omega
    rw [key]
    have h4 : n % 4 = 0 ∨ n % 4 = 1 ∨ n % 4 = 2 ∨ n % 4 = 3 := by omega
    rcases h4 with e | e | e | e <;> rw [e] <;> simp <;> split <;> omega
  rw [e]
  split <;> split <;> omega
theorem xr_wf {v : Int} (h : 0 ≤ v ∧ v ≤ 18446744073709551615) : 0 ≤ xr v ∧ xr v ≤ 18446744073709551615 := by
  rw [xr_eq h]; split <;> omega
def there (sh : Shp) (i : Int) : Prop := 1 ≤ i ∧ i ≤ sh.a
instance (sh : Shp) (i : Int) : Decidable (there sh i) := by unfold there; infer_instance
def headAt (sh : Shp) (i : Int) : Int := if there sh i then 8 + sh.c + sh.c * sh.d + sh.e + (i - 1) * (3 + sh.b) else -1
def linkAt (sh : Shp) (i : Int) : Int := if there sh i then 8 + sh.c + sh.c * sh.d + sh.e + (i - 1) * (3 + sh.b) + 1 else -1
structure ShS where
  hand : Int
  j : Jb
  st : Int
  g : Int
  v : Int
  xi : Int
  xl : Int
  xb : Int
  told : Ans
def col (j : Jb) : Int := j.c % 2
def serr (any : Bool) (hand : Int) (j : Jb) : Int := if any = true then 0 else if j.kind = 2 then 0 else if j.kind = 1 then (if j.c = 0 ∨ j.c = 1 then 0 else 2) else 200
def sreq (sh : Shp) (s : ShS) : Stp :=
  if s.j.kind = 2 then
    (if s.st = 0 then ⟨s.hand, 1, 2, 0, 0, true⟩ else if s.st = 1 then ⟨s.hand, 1, s.xl, 0, 0, true⟩ else ⟨s.hand, 5, 2, s.g, bmp s.g s.xb, true⟩)
  else
    (if s.st = 0 then ⟨s.hand, 1, headAt sh (idx s.j.h), 0, 0, true⟩ else if s.st = 1 then ⟨s.hand, 5, headAt sh (idx s.j.h), s.v, xr s.v, true⟩
     else if s.st = 2 then ⟨s.hand, 1, 2, 0, 0, true⟩ else if s.st = 3 then ⟨s.hand, 2, linkAt sh (idx s.j.h), 0, idx s.g, true⟩ else ⟨s.hand, 5, 2, s.g, bmp s.g (idx s.j.h), true⟩)
def sends (sh : Shp) (s : ShS) (x : Stp) : Bool :=
  if s.j.kind = 2 then (if s.st = 0 then !(decide (there sh (idx x.had))) else if s.st = 1 then false else x.ok)
  else (if s.st = 0 then !(whiteB x.had (s.j.h / 4294967296) (col s.j)) else if s.st = 4 then x.ok else false)
def snext (sh : Shp) (s : ShS) (x : Stp) : ShS :=
  if s.j.kind = 2 then
    (if s.st = 0 then (if there sh (idx x.had) then { s with g := x.had, xi := idx x.had, xl := linkAt sh (idx x.had), st := 1 } else { s with g := x.had, xi := idx x.had })
     else if s.st = 1 then { s with v := x.had, xb := idx x.had, st := 2 }
     else if x.ok = true then { s with told := ⟨true, s.xi⟩ } else { s with st := 0 })
  else
    (if s.st = 0 then (if whiteB x.had (s.j.h / 4294967296) (col s.j) = true then { s with v := x.had, st := 1 } else s)
     else if s.st = 1 then (if x.ok = true then { s with st := 2 } else { s with st := 0 })
     else if s.st = 2 then { s with g := x.had, st := 3 }
     else if s.st = 3 then { s with st := 4 }
     else if x.ok = true then { s with told := ⟨true, idx s.j.h⟩ } else { s with st := 2 })
def fnM (b : Nat) (st : Int) : Value := .func (.func (if st = 0 then 51 else if st = 1 then 85 else if st = 2 then 100 else if st = 3 then 110 else 115)) #[.pointer (some ⟨b, 0, none⟩)] #[]
def fnP (b : Nat) (st : Int) : Value := .func (.func (if st = 0 then 46 else if st = 1 then 81 else 95)) #[.pointer (some ⟨b, 0, none⟩)] #[]
def mC (hand : Int) (fn : Value) (g : Int) (t : Ans) (i gn c h l v : Int) : Nat → Value := fun k => match k with | 0 => .int .i64 hand | 1 => fn | 2 => .int .u64 g | 3 => .bool t.ok | 4 => .int .u64 t.val | 5 => .int .i64 i | 6 => .int .u64 gn | 7 => .int .i64 c | 8 => .int .i64 h | 9 => .int .i64 l | _ => .int .u64 v
def pC (sh : Shp) (hand : Int) (fn : Value) (g : Int) (t : Ans) (i l b : Int) : Nat → Value := fun k => match k with | 0 => .int .i64 hand | 1 => fn | 2 => .int .u64 g | 3 => .bool t.ok | 4 => .int .u64 t.val | 5 => .int .i64 sh.a | 6 => .int .i64 sh.b | 7 => .int .i64 sh.c | 8 => .int .i64 sh.d | 9 => .int .i64 sh.e | 10 => .int .i64 sh.f | 11 => .int .i64 i | 12 => .int .i64 l | _ => .int .i64 b
def scell (sh : Shp) (b : Nat) (s : ShS) : Nat → Value :=
  if s.j.kind = 2 then pC sh s.hand (fnP b s.st) s.g s.told s.xi s.xl s.xb
  else mC s.hand (fnM b s.st) s.g s.told (idx s.j.h) (s.j.h / 4294967296) (col s.j) (headAt sh (idx s.j.h)) (linkAt sh (idx s.j.h)) s.v
def spick {α : Type} (j : Jb) (x y : α) : α := if j.kind = 2 then x else y
theorem pick1 {α : Type} {j : Jb} (h : j.kind = 2) (x y : α) : spick j x y = x := by simp [spick, h]
theorem pick2 {α : Type} {j : Jb} (h : ¬ j.kind = 2) (x y : α) : spick j x y = y := by simp [spick, h]
def u64 (x : Int) : Prop := 0 ≤ x ∧ x ≤ 18446744073709551615
structure Wf (sh : Shp) (s : ShS) : Prop where
  st : (s.j.kind = 2 ∧ (s.st = 0 ∨ s.st = 1 ∨ s.st = 2)) ∨ (¬ s.j.kind = 2 ∧ (s.st = 0 ∨ s.st = 1 ∨ s.st = 2 ∨ s.st = 3 ∨ s.st = 4))
  h : s.j.wf
  g : 0 ≤ s.g ∧ s.g ≤ 18446744073709551615
  v : 0 ≤ s.v ∧ s.v ≤ 18446744073709551615
  xi : s.j.kind = 2 → ¬ s.st = 0 → s.xi = idx s.g ∧ there sh (idx s.g) ∧ s.xl = linkAt sh (idx s.g)
  xb : s.j.kind = 2 → s.st = 2 → s.xb = idx s.v
def sinit (h : Int) (j : Jb) : ShS := ⟨h, j, 0, 0, 0, 0, 0, 0, ⟨false, 0⟩⟩
def kShd (any : Bool) (sh : Shp) : Kd where
  σ := ShS
  err := serr any
  init := sinit
  req := sreq sh
  next := snext sh
  ends := sends sh
  tell s := s.told
  tid j := spick j 109 116
  t j := spick j 114 120
  n j := spick j 14 11
  fs _ := 136
  fa _ := 135
  cell := scell sh
  wf j s := s.j = j ∧ Wf sh s
theorem had_bounds {n : Nat} {f : Nat → Int} (hf : ∀ i, i < n → 0 ≤ f i ∧ f i ≤ 18446744073709551615) (q : Stp) : 0 ≤ (stepOf n f q).had ∧ (stepOf n f q).had ≤ 18446744073709551615 := by
  unfold stepOf
  split
  · rename_i h
    exact hf _ (by omega)
  · exact ⟨Int.le_refl 0, by show (0 : Int) ≤ 18446744073709551615; decide⟩
theorem snext_j (sh : Shp) (s : ShS) (x : Stp) : (snext sh s x).j = s.j := by
  unfold snext
  repeat' split
  all_goals rfl
theorem snext_wf {sh : Shp} {s : ShS} {x : Stp} (H : Wf sh s) (hx : 0 ≤ x.had ∧ x.had ≤ 18446744073709551615) (he : ¬ sends sh s x = true) : Wf sh (snext sh s x) := by
  obtain ⟨hk, hh, hg, hv, hi, hb⟩ := H
  obtain ⟨hand, j, st, g, v, xi, xl, xb, told⟩ := s
  simp only at hk hh hg hv hi hb
  rcases hk with ⟨hk, rfl | rfl | rfl⟩ | ⟨hk, rfl | rfl | rfl | rfl | rfl⟩
  · have ht : there sh (idx x.had) := by simpa [sends, hk] using he
    simp only [snext, hk, ht, if_true]
    exact ⟨.inl ⟨hk, .inr (.inl rfl)⟩, hh, hx, hv, fun _ _ => ⟨rfl, ht, rfl⟩, fun _ h => absurd h (by simp)⟩
  · simp only [snext, hk, if_true, if_neg (show ¬ (1 : Int) = 0 by decide)]
    exact ⟨.inl ⟨hk, .inr (.inr rfl)⟩, hh, hg, hx, fun _ _ => hi hk (by simp), fun _ _ => rfl⟩
  · have ho : x.ok = false := by simpa [sends, hk] using he
    simp only [snext, hk, ho, if_true, if_neg (show ¬ (2 : Int) = 0 by decide), if_neg (show ¬ (2 : Int) = 1 by decide), if_neg (show ¬ false = true by decide)]
    exact ⟨.inl ⟨hk, .inl rfl⟩, hh, hg, hv, fun _ h => absurd rfl h, fun _ h => absurd h (by simp)⟩
  · have ht : whiteB x.had (j.h / 4294967296) (col j) = true := by simpa [sends, hk] using he
    simp only [snext, hk, ht, if_true, if_false]
    exact ⟨.inr ⟨hk, .inr (.inl rfl)⟩, hh, hg, hx, fun h => absurd h hk, fun h => absurd h hk⟩
  · simp only [snext, hk, if_true, if_false, if_neg (show ¬ (1 : Int) = 0 by decide)]
    split
    · exact ⟨.inr ⟨hk, .inr (.inr (.inl rfl))⟩, hh, hg, hv, fun h => absurd h hk, fun h => absurd h hk⟩
    · exact ⟨.inr ⟨hk, .inl rfl⟩, hh, hg, hv, fun h => absurd h hk, fun h => absurd h hk⟩
  · simp only [snext, hk, if_true, if_false, if_neg (show ¬ (2 : Int) = 0 by decide), if_neg (show ¬ (2 : Int) = 1 by decide)]
    exact ⟨.inr ⟨hk, .inr (.inr (.inr (.inl rfl)))⟩, hh, hx, hv, fun h => absurd h hk, fun h => absurd h hk⟩
  · simp only [snext, hk, if_true, if_false, if_neg (show ¬ (3 : Int) = 0 by decide), if_neg (show ¬ (3 : Int) = 1 by decide), if_neg (show ¬ (3 : Int) = 2 by decide)]
    exact ⟨.inr ⟨hk, .inr (.inr (.inr (.inr rfl)))⟩, hh, hg, hv, fun h => absurd h hk, fun h => absurd h hk⟩
  · have ho : x.ok = false := by simpa [sends, hk] using he
    simp only [snext, hk, ho, if_false, if_neg (show ¬ (4 : Int) = 0 by decide), if_neg (show ¬ (4 : Int) = 1 by decide), if_neg (show ¬ (4 : Int) = 2 by decide), if_neg (show ¬ (4 : Int) = 3 by decide), if_neg (show ¬ false = true by decide)]
    exact ⟨.inr ⟨hk, .inr (.inr (.inl rfl))⟩, hh, hg, hv, fun h => absurd h hk, fun h => absurd h hk⟩
theorem wf_init (sh : Shp) (h : Int) {j : Jb} (hj : j.wf) : Wf sh (sinit h j) := by
  refine ⟨?_, hj, by simp [sinit], by simp [sinit], fun _ h => absurd rfl h, fun _ h => absurd h (by simp [sinit])⟩
  by_cases hk : j.kind = 2
  · exact .inl ⟨hk, .inl rfl⟩
  · exact .inr ⟨hk, .inl rfl⟩
end Shd
end Go.Proofs.YtnodkeoikamonaaGreat
/-
  What the shape's and the view's texts lean on, in a seat that holds the runs' texts: their lemmas are those of these.
-/
namespace Go.Proofs.YtnodkeoikamonaaGreat
end Go.Proofs.YtnodkeoikamonaaGreat
/-
  In a seat that holds the runs' texts: their lemmas are those of these.
-/
namespace Go.Proofs.YtnodkeoikamonaaGreat
end Go.Proofs.YtnodkeoikamonaaGreat
/-
  Shape, without a program: a right shape's five numbers, and how many words its memory has.
-/
namespace Go.Proofs.YtnodkeoikamonaaGreat
open Go
set_option linter.unusedVariables false
set_option linter.unusedSimpArgs false
set_option maxRecDepth 20000
namespace Shape
structure Sh where
  o : Nat
  s : Nat
  h : Nat
  r : Nat
  k : Nat
structure Sh.Ok (x : Sh) : Prop where
  o1 : 1 ≤ x.o
  o2 : x.o ≤ 64
  s2 : x.s ≤ 4
  h1 : 1 ≤ x.h
  h2 : x.h ≤ 7
  r1 : 1 ≤ x.r
  r2 : x.r ≤ 8
  k2 : x.k ≤ 16
def bR (x : Sh) : Nat := 8 + x.h
def bK (x : Sh) : Nat := bR x + x.h * x.r
def bO (x : Sh) : Nat := bK x + x.k
def ow (x : Sh) : Nat := 3 + x.s
def size (x : Sh) : Nat := bO x + x.o * ow x
theorem sizes {x : Sh} (H : x.Ok) : x.h * x.r ≤ 56 ∧ x.o * ow x ≤ 448 ∧ 1 ≤ x.h * x.r ∧ 3 ≤ x.o * ow x ∧ size x ≤ 600 := by
  have a : x.h * x.r ≤ 7 * 8 := Nat.mul_le_mul H.h2 H.r2
  have b : x.o * ow x ≤ 64 * 7 := Nat.mul_le_mul H.o2 (by unfold ow; have := H.s2; omega)
  have c : 1 * 1 ≤ x.h * x.r := Nat.mul_le_mul H.h1 H.r1
  have d : 1 * 3 ≤ x.o * ow x := Nat.mul_le_mul H.o1 (by unfold ow; omega)
  have := H.h2
  have := H.k2
  unfold size bO bK bR
  omega
end Shape
end Go.Proofs.YtnodkeoikamonaaGreat
