/-
  Lemmas: WordV, WordS, ShadeC, ShadeN, Lb0, Lb.
-/
import Derived.Test.YtnodkeoikamonaaRows
import Derived.WalkKit
import Derived.WalkSpells
import Derived.WalkLawsBesides
import Derived.Laws.Bits64
import Derived.Deep.RegionWith
import Derived.Test.YtnodkeoikamonaaTw05
import Derived.Test.YtnodkeoikamonaaTw06
import Derived.Test.YtnodkeoikamonaaTw07
import Derived.Test.YtnodkeoikamonaaTw17
import Derived.Deep.RegionHeld
import Derived.Deep.Light
import Derived.Deep.QuietTactic
import Derived.BigQuiet
import Derived.Deep.CutBlock
import Derived.Deep.CutRange
/-
  Words: Index, Gen, Tagged, Parts, Unpack, the package's and the document's.
-/
namespace Go.Proofs.Ytnodkeoikamonaa
open Go.RowKit
set_option linter.unusedVariables false
set_option linter.unusedSimpArgs false
set_option maxRecDepth 20000
theorem wrapU (n : Int) : IntKind.u64.wrap n = n % 18446744073709551616 := IntKind.wrap_u64 n
theorem and_low (x : Int) (h0 : 0 ≤ x) (h1 : x < 18446744073709551616) : bits .and .u64 x 4294967295 = x % 4294967296 := by
  rw [u64_and x 4294967295 h0 h1 (by omega) (by omega)]
  have e : x.toNat &&& (4294967295 : Int).toNat = x.toNat % 4294967296 := Nat.and_two_pow_sub_one_eq_mod x.toNat 32
  rw [e]; omega
theorem and1 (x : Int) (h0 : 0 ≤ x) (h1 : x < 18446744073709551616) : bits .and .u64 x 1 = x % 2 := by
  rw [u64_and x 1 h0 h1 (by omega) (by omega)]
  have e : x.toNat &&& (1 : Int).toNat = x.toNat % 2 := Nat.and_two_pow_sub_one_eq_mod x.toNat 1
  rw [e]; omega
theorem and2 (x : Int) (h0 : 0 ≤ x) (h1 : x < 18446744073709551616) : bits .and .u64 x 2 = x / 2 % 2 * 2 := by
  rw [u64_and x 2 h0 h1 (by omega) (by omega)]
  have e : x.toNat &&& (2 : Int).toNat = x.toNat / 2 % 2 * 2 := nat_bit 1 x.toNat
  rw [e]; omega
theorem or_join (i : Nat) (a b : Int) (ha0 : 0 ≤ a) (ha1 : a.toNat < 2 ^ i) (ha2 : a < 18446744073709551616) (hb0 : 0 ≤ b) (hb1 : b.toNat % 2 ^ i = 0) (hb2 : b < 18446744073709551616) : bits .or .u64 a b = a + b := by
  rw [u64_or a b ha0 ha2 hb0 hb2, Nat.or_comm, nat_join i b.toNat a.toNat hb1 ha1]
  omega
theorem or32 (a b : Int) (ha0 : 0 ≤ a) (ha1 : a < 4294967296) (hb0 : 0 ≤ b) (hb1 : b % 4294967296 = 0) (hb2 : b < 18446744073709551616) : bits .or .u64 a b = a + b :=
  or_join 32 a b ha0 (by omega) (by omega) hb0 (by omega) hb2
def hd (i g : Int) : Int := i % 4294967296 + g % 4294967296 * 4294967296
theorem hd_lo (i g : Int) : 0 ≤ hd i g := by unfold hd; omega
theorem hd_hi (i g : Int) : hd i g < 18446744073709551616 := by unfold hd; omega
theorem join_eq (i g : Int) : bits .or .u64 (bits .and .u64 (IntKind.u64.wrap i) 4294967295) (IntKind.u64.wrap (g * 4294967296)) = hd i g := by
  rw [wrapU, wrapU, and_low _ (by omega) (by omega), or32 _ _ (by omega) (by omega) (by omega) (by omega) (by omega)]
  unfold hd; omega
def bit (b : Bool) (v : Int) : Int := if b then v else 0
theorem ret_int {k : IntKind} {a b : Int} (h : a = b) : Ending.returned (.int k a) = .returned (.int k b) := by rw [h]
theorem ret_bool {a b : Bool} (h : a = b) : Ending.returned (.bool a) = .returned (.bool b) := by rw [h]
set_option maxHeartbeats 400000 in
theorem join_any (i g : Int) (w : World) :
    Calls Try.prog 58 #[.int .i64 i, .int .u64 g] w fun e w' => e = .returned (.int .u64 (hd i g)) ∧ w' = w := by
  go_enter Try.func58, Try.ntmps58
  go_wp2
  go_ret
  exact ⟨ret_int (join_eq i g), rfl⟩
set_option maxHeartbeats 400000 in
theorem tagged_any (i g : Int) (w : World) :
    Calls Try.prog 41 #[.int .i64 i, .int .u64 g] w fun e w' => e = .returned (.int .u64 (hd i g)) ∧ w' = w := by
  go_enter Try.func41, Try.ntmps41
  go_wp2_with (go_at_call 58; refine (join_any _ _ _).mono ?_; rintro e w' ⟨rfl, rfl⟩)
  go_ret
  exact ⟨rfl, rfl⟩
theorem wrap64_low (h : Int) (h0 : 0 ≤ h) (h1 : h < 18446744073709551616) : wrap64 (bits .and .u64 h 4294967295) = h % 4294967296 := by
  rw [and_low h h0 h1]; unfold wrap64; omega
set_option maxHeartbeats 400000 in
theorem index_any (h : Int) (h0 : 0 ≤ h) (h1 : h < 18446744073709551616) (w : World) :
    Calls Try.prog 11 #[.int .u64 h] w fun e w' => e = .returned (.int .i64 (h % 4294967296)) ∧ w' = w := by
  go_enter Try.func11, Try.ntmps11
  go_wp2
  go_ret
  exact ⟨ret_int (wrap64_low h h0 h1), rfl⟩
set_option maxHeartbeats 400000 in
theorem gen_any (h : Int) (h0 : 0 ≤ h) (h1 : h < 18446744073709551616) (w : World) :
    Calls Try.prog 76 #[.int .u64 h] w fun e w' => e = .returned (.int .u64 (h / 4294967296)) ∧ w' = w := by
  go_enter Try.func76, Try.ntmps76
  go_wp2
  go_ret
  exact ⟨rfl, rfl⟩
def hasB (x v : Int) : Bool := x / v % 2 == 1
def numB (x v : Int) : Int := x / v % 2
theorem num2 (x : Int) (h0 : 0 ≤ x) (h1 : x < 18446744073709551616) : (bits .and .u64 x 2 != 0) = hasB x 2 := by
  rw [and2 x h0 h1]; unfold hasB; rw [Bool.eq_iff_iff]; simp; omega
theorem num1 (x : Int) (h0 : 0 ≤ x) (h1 : x < 18446744073709551616) : (bits .and .u64 x 1 != 0) = hasB x 1 := by
  rw [and1 x h0 h1]; unfold hasB; rw [Bool.eq_iff_iff]; simp; omega
theorem numB_of_true {x v : Int} (h : hasB x v = true) : numB x v = 1 := by unfold hasB at h; unfold numB; simpa using h
theorem numB_of_false {x v : Int} (h : hasB x v = false) : numB x v = 0 := by unfold hasB at h; unfold numB; simp at h; omega
set_option maxHeartbeats 400000 in
theorem numberOf_gen (x v : Int) (hx : (bits .and .u64 x v != 0) = hasB x v) (w : World) :
    Calls Try.prog 109 #[.int .u64 x, .int .u64 v] w fun e w' => e = .returned (.int .i64 (numB x v)) ∧ w' = w := by
  have H : Hid ((bits .and .u64 x v != 0) = hasB x v) := hx
  clear hx
  go_enter Try.func109, Try.ntmps109
  go_wp2
  · go_ret
    rename_i h
    exact ⟨ret_int (numB_of_true (H.out.symm.trans h)).symm, rfl⟩
  · go_ret
    rename_i h
    exact ⟨ret_int (numB_of_false (H.out.symm.trans h)).symm, rfl⟩
def packOk (age gen c : Int) : Prop := (c = 0 ∨ c = 1) ∧ 0 ≤ age ∧ age ≤ 255 ∧ gen ≤ 4294967295
def ownB (live : Bool) (c : Int) : Bool := if live then c == 1 else !(c == 1)
def packW (used own final taken : Bool) (age gen : Int) : Int := bit used 1 + bit own 2 + bit final 4 + bit taken 8 + age * 256 + gen * 4294967296
def packB (age gen c : Int) : Bool := (c == 0 || c == 1) && decide (0 ≤ age) && decide (age ≤ 255) && decide (gen ≤ 4294967295)
def packV (used live final taken : Bool) (age gen c : Int) : Int := if packB age gen c then packW used (ownB live c) final taken age gen else 0
def packE (age gen c : Int) : Int := if packB age gen c then 0 else 10
def momB (p c r : Int) : Bool := decide (0 ≤ p) && decide (p ≤ 4) && (c == 0 || c == 1) && decide (r < 72057594037927936)
def momV (p c r : Int) : Int := if momB p c r then p + c * 8 + r * 256 else 0
def momE (p c r : Int) : Int := if momB p c r then 0 else 10
def obj (used live final taken : Bool) (age gen link next : Int) : Value :=
  .agg #[.bool used, .bool live, .bool final, .bool taken, .int .i64 age, .int .u64 gen, .int .u64 link, .int .u64 next, .slice none 0 0]
end Go.Proofs.Ytnodkeoikamonaa
/-
  Words as plain numbers: Bump and White, in package word and in the document's answer.
-/
namespace Go.Proofs.Ytnodkeoikamonaa
open Go.RowKit
set_option linter.unusedVariables false
set_option maxHeartbeats 400000 in
theorem bump_any (t i : Int) (h0 : 0 ≤ t) (h1 : t < 18446744073709551616) (w : World) :
    Calls Try.prog 137 #[.int .u64 t, .int .i64 i] w fun e w' => e = .returned (.int .u64 (hd i (t / 4294967296 + 1))) ∧ w' = w := by
  go_enter Try.func137, Try.ntmps137
  go_wp2_with (first | (go_at_call 76; refine (gen_any _ h0 h1 _).mono ?_; rintro e w' ⟨rfl, rfl⟩) | (go_at_call 41; refine (tagged_any _ _ _).mono ?_; rintro e w' ⟨rfl, rfl⟩))
  go_ret
  exact ⟨rfl, rfl⟩
def whiteB (x g c : Int) : Bool := hasB x 1 && (x / 4294967296 == g) && (numB x 2 != c)
set_option maxHeartbeats 400000 in
theorem white_word (x g c : Int) (h0 : 0 ≤ x) (h1 : x < 18446744073709551616) (w : World) :
    Calls Try.prog 107 #[.int .u64 x, .int .u64 g, .int .i64 c] w fun e w' => e = .returned (.bool (whiteB x g c)) ∧ w' = w := by
  unfold whiteB
  rw [← num1 x h0 h1]
  by_cases ha : (bits .and .u64 x 1 != 0) = true
  · by_cases hb : (x / 4294967296 == g) = true
    · go_enter Try.func107, Try.ntmps107
      go_wp2_with (first | (go_at_call 76; refine (gen_any _ h0 h1 _).mono ?_; rintro e w' ⟨rfl, rfl⟩) | (go_at_call 109; refine (numberOf_gen _ _ (num2 _ h0 h1) _).mono ?_; rintro e w' ⟨rfl, rfl⟩))
      go_ret
      exact ⟨ret_bool (by simp [ha, hb]), rfl⟩
    · have hb' : (x / 4294967296 == g) = false := by simpa using hb
      clear hb
      go_enter Try.func107, Try.ntmps107
      go_wp2_with (first | (go_at_call 76; refine (gen_any _ h0 h1 _).mono ?_; rintro e w' ⟨rfl, rfl⟩) | (go_at_call 109; refine (numberOf_gen _ _ (num2 _ h0 h1) _).mono ?_; rintro e w' ⟨rfl, rfl⟩))
      go_ret
      exact ⟨ret_bool (by simp [ha, hb']), rfl⟩
  · have ha' : (bits .and .u64 x 1 != 0) = false := by simpa using ha
    clear ha
    go_enter Try.func107, Try.ntmps107
    go_wp2
    go_ret
    exact ⟨ret_bool (by simp [ha']), rfl⟩
end Go.Proofs.Ytnodkeoikamonaa
/-
  Shading and pulling: how a job under way lies in memory, and what it is as a plain state.
-/
namespace Go.Proofs.Ytnodkeoikamonaa
open Go.RowKit
set_option linter.unusedVariables false
set_option linter.unusedSimpArgs false
set_option maxRecDepth 20000
namespace Shd
def idx (x : Int) : Int := x % 4294967296
def bmp (t i : Int) : Int := hd i (t / 4294967296 + 1)
def xr (v : Int) : Int := bits .xor .u64 v 2
theorem idx_lo (x : Int) : 0 ≤ idx x := by unfold idx; omega
theorem idx_hi (x : Int) : idx x < 4294967296 := by unfold idx; omega
theorem bmp_lo (t i : Int) : 0 ≤ bmp t i := hd_lo _ _
theorem bmp_hi (t i : Int) : bmp t i ≤ 18446744073709551615 := by have := hd_hi i (t / 4294967296 + 1); unfold bmp; omega
theorem xr_eq {v : Int} (h : 0 ≤ v ∧ v ≤ 18446744073709551615) : xr v = if v / 2 % 2 = 1 then v - 2 else v + 2 := by
  unfold xr
  rw [u64_xor v 2 h.1 (by omega) (by omega) (by omega)]
  obtain ⟨n, rfl⟩ := Int.eq_ofNat_of_zero_le h.1
  have e : (n : Int).toNat ^^^ (2 : Int).toNat = if n / 2 % 2 = 1 then n - 2 else n + 2 := by
    show n ^^^ 2 = _
    have key : n ^^^ 2 = (n / 4) * 4 + (n % 4 ^^^ 2) := by
      have h1 : (n ^^^ 2) / 4 = n / 4 := by
        have := Nat.xor_div_two_pow (a := n) (b := 2) (n := 2)
        simpa using this
      have h2 : (n ^^^ 2) % 4 = n % 4 ^^^ 2 := by
        have := Nat.xor_mod_two_pow (a := n) (b := 2) (n := 2)
        simpa using this
      omega
    rw [key]
    have h4 : n % 4 = 0 ∨ n % 4 = 1 ∨ n % 4 = 2 ∨ n % 4 = 3 := by omega
    rcases h4 with e | e | e | e <;> rw [e] <;> simp <;> split <;> omega
  rw [e]
  split <;> split <;> omega
theorem xr_wf {v : Int} (h : 0 ≤ v ∧ v ≤ 18446744073709551615) : 0 ≤ xr v ∧ xr v ≤ 18446744073709551615 := by
  rw [xr_eq h]; split <;> omega
def there (sh : Shp) (i : Int) : Prop := 1 ≤ i ∧ i ≤ sh.a
instance (sh : Shp) (i : Int) : Decidable (there sh i) := by unfold there; infer_instance
def headAt (sh : Shp) (i : Int) : Int := if there sh i then 8 + sh.c + sh.c * sh.d + sh.e + (i - 1) * (3 + sh.b) else -1
def linkAt (sh : Shp) (i : Int) : Int := if there sh i then 8 + sh.c + sh.c * sh.d + sh.e + (i - 1) * (3 + sh.b) + 1 else -1
structure ShS where
  hand : Int
  j : Jb
  st : Int
  g : Int
  v : Int
  xi : Int
  xl : Int
  xb : Int
  told : Ans
def col (j : Jb) : Int := j.c % 2
def serr (any : Bool) (hand : Int) (j : Jb) : Int := if any = true then 0 else if j.kind = 2 then 0 else if j.kind = 1 then (if j.c = 0 ∨ j.c = 1 then 0 else 2) else 200
def sreq (sh : Shp) (s : ShS) : Stp :=
  if s.j.kind = 2 then
    (if s.st = 0 then ⟨s.hand, 1, 2, 0, 0, true⟩ else if s.st = 1 then ⟨s.hand, 1, s.xl, 0, 0, true⟩ else ⟨s.hand, 5, 2, s.g, bmp s.g s.xb, true⟩)
  else
    (if s.st = 0 then ⟨s.hand, 1, headAt sh (idx s.j.h), 0, 0, true⟩ else if s.st = 1 then ⟨s.hand, 5, headAt sh (idx s.j.h), s.v, xr s.v, true⟩
     else if s.st = 2 then ⟨s.hand, 1, 2, 0, 0, true⟩ else if s.st = 3 then ⟨s.hand, 2, linkAt sh (idx s.j.h), 0, idx s.g, true⟩ else ⟨s.hand, 5, 2, s.g, bmp s.g (idx s.j.h), true⟩)
def sends (sh : Shp) (s : ShS) (x : Stp) : Bool :=
  if s.j.kind = 2 then (if s.st = 0 then !(decide (there sh (idx x.had))) else if s.st = 1 then false else x.ok)
  else (if s.st = 0 then !(whiteB x.had (s.j.h / 4294967296) (col s.j)) else if s.st = 4 then x.ok else false)
def snext (sh : Shp) (s : ShS) (x : Stp) : ShS :=
  if s.j.kind = 2 then
    (if s.st = 0 then (if there sh (idx x.had) then { s with g := x.had, xi := idx x.had, xl := linkAt sh (idx x.had), st := 1 } else { s with g := x.had, xi := idx x.had })
     else if s.st = 1 then { s with v := x.had, xb := idx x.had, st := 2 }
     else if x.ok = true then { s with told := ⟨true, s.xi⟩ } else { s with st := 0 })
  else
    (if s.st = 0 then (if whiteB x.had (s.j.h / 4294967296) (col s.j) = true then { s with v := x.had, st := 1 } else s)
     else if s.st = 1 then (if x.ok = true then { s with st := 2 } else { s with st := 0 })
     else if s.st = 2 then { s with g := x.had, st := 3 }
     else if s.st = 3 then { s with st := 4 }
     else if x.ok = true then { s with told := ⟨true, idx s.j.h⟩ } else { s with st := 2 })
def fnM (b : Nat) (st : Int) : Value := .func (.func (if st = 0 then 78 else if st = 1 then 108 else if st = 2 then 127 else if st = 3 then 136 else 141)) #[.pointer (some ⟨b, 0, none⟩)] #[]
def fnP (b : Nat) (st : Int) : Value := .func (.func (if st = 0 then 75 else if st = 1 then 104 else 123)) #[.pointer (some ⟨b, 0, none⟩)] #[]
def mC (hand : Int) (fn : Value) (g : Int) (t : Ans) (i gn c h l v : Int) : Nat → Value := fun k => match k with | 0 => .int .i64 hand | 1 => fn | 2 => .int .u64 g | 3 => .bool t.ok | 4 => .int .u64 t.val | 5 => .int .i64 i | 6 => .int .u64 gn | 7 => .int .i64 c | 8 => .int .i64 h | 9 => .int .i64 l | _ => .int .u64 v
def pC (sh : Shp) (hand : Int) (fn : Value) (g : Int) (t : Ans) (i l b : Int) : Nat → Value := fun k => match k with | 0 => .int .i64 hand | 1 => fn | 2 => .int .u64 g | 3 => .bool t.ok | 4 => .int .u64 t.val | 5 => .int .i64 sh.a | 6 => .int .i64 sh.b | 7 => .int .i64 sh.c | 8 => .int .i64 sh.d | 9 => .int .i64 sh.e | 10 => .int .i64 sh.f | 11 => .int .i64 i | 12 => .int .i64 l | _ => .int .i64 b
def scell (sh : Shp) (b : Nat) (s : ShS) : Nat → Value :=
  if s.j.kind = 2 then pC sh s.hand (fnP b s.st) s.g s.told s.xi s.xl s.xb
  else mC s.hand (fnM b s.st) s.g s.told (idx s.j.h) (s.j.h / 4294967296) (col s.j) (headAt sh (idx s.j.h)) (linkAt sh (idx s.j.h)) s.v
def spick {α : Type} (j : Jb) (x y : α) : α := if j.kind = 2 then x else y
theorem pick1 {α : Type} {j : Jb} (h : j.kind = 2) (x y : α) : spick j x y = x := by simp [spick, h]
theorem pick2 {α : Type} {j : Jb} (h : ¬ j.kind = 2) (x y : α) : spick j x y = y := by simp [spick, h]
def u64 (x : Int) : Prop := 0 ≤ x ∧ x ≤ 18446744073709551615
structure Wf (sh : Shp) (s : ShS) : Prop where
  st : (s.j.kind = 2 ∧ (s.st = 0 ∨ s.st = 1 ∨ s.st = 2)) ∨ (¬ s.j.kind = 2 ∧ (s.st = 0 ∨ s.st = 1 ∨ s.st = 2 ∨ s.st = 3 ∨ s.st = 4))
  h : s.j.wf
  g : 0 ≤ s.g ∧ s.g ≤ 18446744073709551615
  v : 0 ≤ s.v ∧ s.v ≤ 18446744073709551615
  xi : s.j.kind = 2 → ¬ s.st = 0 → s.xi = idx s.g ∧ there sh (idx s.g) ∧ s.xl = linkAt sh (idx s.g)
  xb : s.j.kind = 2 → s.st = 2 → s.xb = idx s.v
def sinit (h : Int) (j : Jb) : ShS := ⟨h, j, 0, 0, 0, 0, 0, 0, ⟨false, 0⟩⟩
def kShd (any : Bool) (sh : Shp) : Kd where
  σ := ShS
  err := serr any
  init := sinit
  req := sreq sh
  next := snext sh
  ends := sends sh
  tell s := s.told
  tid j := spick j 140 146
  t j := spick j 145 148
  n j := spick j 14 11
  fs _ := 162
  fa _ := 161
  cell := scell sh
  wf j s := s.j = j ∧ Wf sh s
theorem had_bounds {n : Nat} {f : Nat → Int} (hf : ∀ i, i < n → 0 ≤ f i ∧ f i ≤ 18446744073709551615) (q : Stp) : 0 ≤ (stepOf n f q).had ∧ (stepOf n f q).had ≤ 18446744073709551615 := by
  unfold stepOf
  split
  · rename_i h
    exact hf _ (by omega)
  · exact ⟨Int.le_refl 0, by show (0 : Int) ≤ 18446744073709551615; decide⟩
theorem snext_j (sh : Shp) (s : ShS) (x : Stp) : (snext sh s x).j = s.j := by
  unfold snext
  repeat' split
  all_goals rfl
theorem snext_wf {sh : Shp} {s : ShS} {x : Stp} (H : Wf sh s) (hx : 0 ≤ x.had ∧ x.had ≤ 18446744073709551615) (he : ¬ sends sh s x = true) : Wf sh (snext sh s x) := by
  obtain ⟨hk, hh, hg, hv, hi, hb⟩ := H
  obtain ⟨hand, j, st, g, v, xi, xl, xb, told⟩ := s
  simp only at hk hh hg hv hi hb
  rcases hk with ⟨hk, rfl | rfl | rfl⟩ | ⟨hk, rfl | rfl | rfl | rfl | rfl⟩
  · have ht : there sh (idx x.had) := by simpa [sends, hk] using he
    simp only [snext, hk, ht, if_true]
    exact ⟨.inl ⟨hk, .inr (.inl rfl)⟩, hh, hx, hv, fun _ _ => ⟨rfl, ht, rfl⟩, fun _ h => absurd h (by simp)⟩
  · simp only [snext, hk, if_true, if_neg (show ¬ (1 : Int) = 0 by decide)]
    exact ⟨.inl ⟨hk, .inr (.inr rfl)⟩, hh, hg, hx, fun _ _ => hi hk (by simp), fun _ _ => rfl⟩
  · have ho : x.ok = false := by simpa [sends, hk] using he
    simp only [snext, hk, ho, if_true, if_neg (show ¬ (2 : Int) = 0 by decide), if_neg (show ¬ (2 : Int) = 1 by decide), if_neg (show ¬ false = true by decide)]
    exact ⟨.inl ⟨hk, .inl rfl⟩, hh, hg, hv, fun _ h => absurd rfl h, fun _ h => absurd h (by simp)⟩
  · have ht : whiteB x.had (j.h / 4294967296) (col j) = true := by simpa [sends, hk] using he
    simp only [snext, hk, ht, if_true, if_false]
    exact ⟨.inr ⟨hk, .inr (.inl rfl)⟩, hh, hg, hx, fun h => absurd h hk, fun h => absurd h hk⟩
  · simp only [snext, hk, if_true, if_false, if_neg (show ¬ (1 : Int) = 0 by decide)]
    split
    · exact ⟨.inr ⟨hk, .inr (.inr (.inl rfl))⟩, hh, hg, hv, fun h => absurd h hk, fun h => absurd h hk⟩
    · exact ⟨.inr ⟨hk, .inl rfl⟩, hh, hg, hv, fun h => absurd h hk, fun h => absurd h hk⟩
  · simp only [snext, hk, if_true, if_false, if_neg (show ¬ (2 : Int) = 0 by decide), if_neg (show ¬ (2 : Int) = 1 by decide)]
    exact ⟨.inr ⟨hk, .inr (.inr (.inr (.inl rfl)))⟩, hh, hx, hv, fun h => absurd h hk, fun h => absurd h hk⟩
  · simp only [snext, hk, if_true, if_false, if_neg (show ¬ (3 : Int) = 0 by decide), if_neg (show ¬ (3 : Int) = 1 by decide), if_neg (show ¬ (3 : Int) = 2 by decide)]
    exact ⟨.inr ⟨hk, .inr (.inr (.inr (.inr rfl)))⟩, hh, hg, hv, fun h => absurd h hk, fun h => absurd h hk⟩
  · have ho : x.ok = false := by simpa [sends, hk] using he
    simp only [snext, hk, ho, if_false, if_neg (show ¬ (4 : Int) = 0 by decide), if_neg (show ¬ (4 : Int) = 1 by decide), if_neg (show ¬ (4 : Int) = 2 by decide), if_neg (show ¬ (4 : Int) = 3 by decide), if_neg (show ¬ false = true by decide)]
    exact ⟨.inr ⟨hk, .inr (.inr (.inl rfl))⟩, hh, hg, hv, fun h => absurd h hk, fun h => absurd h hk⟩
theorem wf_init (sh : Shp) (h : Int) {j : Jb} (hj : j.wf) : Wf sh (sinit h j) := by
  refine ⟨?_, hj, by simp [sinit], by simp [sinit], fun _ h => absurd rfl h, fun _ h => absurd h (by simp [sinit])⟩
  by_cases hk : j.kind = 2
  · exact .inl ⟨hk, .inl rfl⟩
  · exact .inr ⟨hk, .inl rfl⟩
theorem sreq_put {sh : Shp} {s : ShS} (H : Wf sh s) : 0 ≤ (sreq sh s).put ∧ (sreq sh s).put ≤ 18446744073709551615 := by
  obtain ⟨hk, hh, hg, hv, hi, hb⟩ := H
  have a1 := idx_lo s.g
  have a2 := idx_hi s.g
  unfold sreq
  repeat' split
  all_goals first | exact ⟨bmp_lo _ _, bmp_hi _ _⟩ | exact xr_wf hv | (simp only; omega)
end Shd
end Go.Proofs.Ytnodkeoikamonaa
/-
  Shading and pulling, without a program: which words a step may turn, and how; along every run.
-/
namespace Go.Proofs.Ytnodkeoikamonaa
open Go.RowKit
set_option linter.unusedVariables false
set_option linter.unusedSimpArgs false
set_option maxRecDepth 20000
namespace Shd
def OkSt (sh : Shp) (x : Stp) : Prop :=
  x.had = x.put ∨ (x.at_ = 2 ∧ x.act = 5 ∧ x.put / 4294967296 = (x.had / 4294967296 + 1) % 4294967296) ∨ (∃ i, there sh i ∧ x.at_ = headAt sh i ∧ x.act = 5 ∧ x.put = xr x.had) ∨ (∃ i, there sh i ∧ x.at_ = linkAt sh i ∧ x.act = 2)
theorem load_same (n : Nat) (f : Nat → Int) (hand at_ : Int) : (stepOf n f ⟨hand, 1, at_, 0, 0, true⟩).had = (stepOf n f ⟨hand, 1, at_, 0, 0, true⟩).put := by
  unfold stepOf
  split <;> simp [actOf, putBy]
theorem cas_step (n : Nat) (f : Nat → Int) (hand at_ old v : Int) : (stepOf n f ⟨hand, 5, at_, old, v, true⟩).had = (stepOf n f ⟨hand, 5, at_, old, v, true⟩).put ∨
    (0 ≤ at_ ∧ at_ < n ∧ (stepOf n f ⟨hand, 5, at_, old, v, true⟩).at_ = at_ ∧ (stepOf n f ⟨hand, 5, at_, old, v, true⟩).act = 5 ∧ (stepOf n f ⟨hand, 5, at_, old, v, true⟩).had = old ∧ (stepOf n f ⟨hand, 5, at_, old, v, true⟩).put = v) := by
  unfold stepOf
  split
  · rename_i h
    by_cases e : f at_.toNat = old
    · exact .inr ⟨h.1, h.2, rfl, rfl, e, by simp [actOf, putBy, e]⟩
    · left
      simp [actOf, putBy, e]
  · left; rfl
theorem bmp_up (t i : Int) : bmp t i / 4294967296 = (t / 4294967296 + 1) % 4294967296 := by unfold bmp hd; omega
theorem ok_step {sh : Shp} {s : ShS} (H : Wf sh s) (n : Nat) (f : Nat → Int) : OkSt sh (stepOf n f (sreq sh s)) := by
  obtain ⟨hst, hh, hg, hv, hxi, hxb⟩ := H
  obtain ⟨hand, j, st, g, v, xi, xl, xb, told⟩ := s
  simp only at hst hh hg hv hxi hxb
  rcases hst with ⟨hk, rfl | rfl | rfl⟩ | ⟨hk, rfl | rfl | rfl | rfl | rfl⟩
  · rw [show sreq sh ⟨hand, j, 0, g, v, xi, xl, xb, told⟩ = ⟨hand, 1, 2, 0, 0, true⟩ from by simp [sreq, hk]]
    exact .inl (load_same _ _ _ _)
  · rw [show sreq sh ⟨hand, j, 1, g, v, xi, xl, xb, told⟩ = ⟨hand, 1, xl, 0, 0, true⟩ from by simp [sreq, hk]]
    exact .inl (load_same _ _ _ _)
  · rw [show sreq sh ⟨hand, j, 2, g, v, xi, xl, xb, told⟩ = ⟨hand, 5, 2, g, bmp g xb, true⟩ from by simp [sreq, hk]]
    rcases cas_step n f hand 2 g (bmp g xb) with h | ⟨_, _, h1, h2, h3, h4⟩
    · exact .inl h
    · exact .inr (.inl ⟨h1, h2, by rw [h3, h4]; exact bmp_up _ _⟩)
  · rw [show sreq sh ⟨hand, j, 0, g, v, xi, xl, xb, told⟩ = ⟨hand, 1, headAt sh (idx j.h), 0, 0, true⟩ from by simp [sreq, hk]]
    exact .inl (load_same _ _ _ _)
  · rw [show sreq sh ⟨hand, j, 1, g, v, xi, xl, xb, told⟩ = ⟨hand, 5, headAt sh (idx j.h), v, xr v, true⟩ from by simp [sreq, hk]]
    rcases cas_step n f hand (headAt sh (idx j.h)) v (xr v) with h | ⟨h0, _, h1, h2, h3, h4⟩
    · exact .inl h
    · refine .inr (.inr (.inl ⟨idx j.h, ?_, h1, h2, by rw [h3, h4]⟩))
      by_cases ht : there sh (idx j.h)
      · exact ht
      · rw [show headAt sh (idx j.h) = -1 from by simp [headAt, ht]] at h0
        omega
  · rw [show sreq sh ⟨hand, j, 2, g, v, xi, xl, xb, told⟩ = ⟨hand, 1, 2, 0, 0, true⟩ from by simp [sreq, hk]]
    exact .inl (load_same _ _ _ _)
  · rw [show sreq sh ⟨hand, j, 3, g, v, xi, xl, xb, told⟩ = ⟨hand, 2, linkAt sh (idx j.h), 0, idx g, true⟩ from by simp [sreq, hk]]
    by_cases ht : there sh (idx j.h)
    · by_cases h0 : 0 ≤ linkAt sh (idx j.h) ∧ linkAt sh (idx j.h) < n
      · refine .inr (.inr (.inr ⟨idx j.h, ht, ?_, ?_⟩))
        · simp only [stepOf, if_pos h0]
        · simp only [stepOf, if_pos h0]; rfl
      · left
        simp only [stepOf, if_neg h0]
    · left
      have h0 : ¬ (0 ≤ linkAt sh (idx j.h) ∧ linkAt sh (idx j.h) < n) := by rw [show linkAt sh (idx j.h) = -1 from by simp [linkAt, ht]]; omega
      simp only [stepOf, if_neg h0]
  · rw [show sreq sh ⟨hand, j, 4, g, v, xi, xl, xb, told⟩ = ⟨hand, 5, 2, g, bmp g (idx j.h), true⟩ from by simp [sreq, hk]]
    rcases cas_step n f hand 2 g (bmp g (idx j.h)) with h | ⟨_, _, h1, h2, h3, h4⟩
    · exact .inl h
    · exact .inr (.inl ⟨h1, h2, by rw [h3, h4]; exact bmp_up _ _⟩)
def wfSt (sh : Shp) (P : Par) (any : Bool) (st : St (kShd any sh)) : Prop := (∀ i, i < P.n → 0 ≤ st.f i ∧ st.f i ≤ 18446744073709551615) ∧ ∀ h, h < P.nh → st.done h < P.jn h → (st.cur h).j = P.jb h (st.done h) ∧ Wf sh (st.cur h)
theorem words_bd {n : Nat} {f : Nat → Int} (hf : ∀ i, i < n → 0 ≤ f i ∧ f i ≤ 18446744073709551615) {s : Stp} (hs : 0 ≤ s.put ∧ s.put ≤ 18446744073709551615) : ∀ i, i < n → 0 ≤ wordsOf n f s i ∧ wordsOf n f s i ≤ 18446744073709551615 := by
  intro i hi
  unfold wordsOf
  split
  · rename_i h
    unfold putF
    split
    · unfold stepOf
      rw [if_pos h]
      exact putBy_bounds (hf _ (by omega)) hs
    · exact hf i hi
  · exact hf i hi
theorem wf_run {sh : Shp} {P : Par} {any : Bool} {f : Nat → Int} (hf : ∀ i, i < P.n → 0 ≤ f i ∧ f i ≤ 18446744073709551615) (hjw : ∀ h, h < P.nh → ∀ j, j < P.jn h → (P.jb h j).wf) : ∀ m, wfSt sh P any (runSt P (st0 (kShd any sh) P f) m) := by
  intro m
  induction m with
  | zero => exact ⟨hf, fun h hh hd => ⟨rfl, wf_init sh h (hjw h hh 0 hd)⟩⟩
  | succ m ih =>
    rcases run_succ_cases P (st0 (kShd any sh) P f) rfl m with ⟨e, _⟩ | ⟨h, e1, e2, e3, _, e⟩
    · rw [e]; exact ih
    · rw [e]
      generalize runSt P (st0 (kShd any sh) P f) m = st at ih e3 ⊢
      obtain ⟨i1, i2⟩ := ih
      obtain ⟨hj, hw⟩ := i2 h e2 e3
      refine ⟨words_bd i1 (sreq_put hw), fun h' hh' hd' => ?_⟩
      by_cases hx : h' = h
      · subst hx
        cases hen : sends sh (st.cur h') (stepOf P.n st.f (sreq sh (st.cur h'))) with
        | true =>
          have d1 : (stepSt P st h').done h' = st.done h' + 1 := by simp [stepSt, kShd, hen, upd]
          have c1 : (stepSt P st h').cur h' = sinit h' (P.jb h' (st.done h' + 1)) := by simp [stepSt, kShd, hen, upd]
          rw [d1] at hd'
          rw [d1, c1]
          exact ⟨rfl, wf_init sh h' (hjw h' hh' _ hd')⟩
        | false =>
          have d1 : (stepSt P st h').done h' = st.done h' := by simp [stepSt, kShd, hen]
          have c1 : (stepSt P st h').cur h' = snext sh (st.cur h') (stepOf P.n st.f (sreq sh (st.cur h'))) := by simp [stepSt, kShd, hen, upd]
          rw [d1, c1]
          exact ⟨(snext_j _ _ _).trans hj, snext_wf hw (had_bounds i1 _) (by rw [hen]; decide)⟩
      · have d1 : (stepSt P st h).done h' = st.done h' := by
          simp only [stepSt]
          split
          · exact upd_other _ _ hx
          · rfl
        have c1 : (stepSt P st h).cur h' = st.cur h' := by simp only [stepSt]; exact upd_other _ _ hx
        rw [d1] at hd'
        rw [d1, c1]
        exact i2 h' hh' hd'
theorem run_step_ok {sh : Shp} {P : Par} {any : Bool} {f : Nat → Int} (hf : ∀ i, i < P.n → 0 ≤ f i ∧ f i ≤ 18446744073709551615) (hjw : ∀ h, h < P.nh → ∀ j, j < P.jn h → (P.jb h j).wf) (m i : Nat) (hi : i < (runSt P (st0 (kShd any sh) P f) m).k) :
    ∃ s, Wf sh s ∧ (runSt P (st0 (kShd any sh) P f) m).s i = stepOf P.n (runSt P (st0 (kShd any sh) P f) i).f (sreq sh s) ∧ (runSt P (st0 (kShd any sh) P f) (i + 1)).f = wordsOf P.n (runSt P (st0 (kShd any sh) P f) i).f (sreq sh s) := by
  obtain ⟨h1, ⟨h, h2, h3, h4, h5⟩, h6⟩ := hist P (st0 (kShd any sh) P f) rfl m i hi
  obtain ⟨i1, i2⟩ := wf_run (any := any) hf hjw i (sh := sh)
  refine ⟨_, (i2 h h3 h4).2, ?_, ?_⟩
  · rw [h6, h5]
    simp only [stepSt]
    rw [h1, upd_same]
    rfl
  · rw [h5]; rfl
theorem run_ok {sh : Shp} {P : Par} {any : Bool} {f : Nat → Int} (hf : ∀ i, i < P.n → 0 ≤ f i ∧ f i ≤ 18446744073709551615) (hjw : ∀ h, h < P.nh → ∀ j, j < P.jn h → (P.jb h j).wf) (m i : Nat) (hi : i < (runSt P (st0 (kShd any sh) P f) m).k) : OkSt sh ((runSt P (st0 (kShd any sh) P f) m).s i) ∧ (0 ≤ ((runSt P (st0 (kShd any sh) P f) m).s i).had ∧ ((runSt P (st0 (kShd any sh) P f) m).s i).had ≤ 18446744073709551615) ∧ (0 ≤ ((runSt P (st0 (kShd any sh) P f) m).s i).put ∧ ((runSt P (st0 (kShd any sh) P f) m).s i).put ≤ 18446744073709551615) := by
  obtain ⟨s, hw, e, _⟩ := run_step_ok (any := any) hf hjw m i hi (sh := sh)
  rw [e]
  have b := (wf_run (any := any) (sh := sh) hf hjw i).1
  refine ⟨ok_step hw _ _, had_bounds b _, ?_⟩
  unfold stepOf
  split
  · rename_i h
    exact putBy_bounds (b _ (by omega)) (sreq_put hw)
  · exact ⟨Int.le_refl 0, by show (0 : Int) ≤ 18446744073709551615; decide⟩
end Shd
end Go.Proofs.Ytnodkeoikamonaa
/-
  What the shape's and the view's texts lean on, in a seat that holds the runs' texts: their lemmas are those of these.
-/
namespace Go.Proofs.Ytnodkeoikamonaa
end Go.Proofs.Ytnodkeoikamonaa
/-
  In a seat that holds the runs' texts: their lemmas are those of these.
-/
namespace Go.Proofs.Ytnodkeoikamonaa
end Go.Proofs.Ytnodkeoikamonaa
