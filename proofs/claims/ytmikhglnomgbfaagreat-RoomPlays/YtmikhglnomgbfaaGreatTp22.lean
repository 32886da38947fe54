/-
  Lemmas: WordV, WordS, HeapC, RoomC, Lb0, Lb.
-/
import Derived.Test.YtmikhglnomgbfaaGreatRows
import Derived.WalkKit
import Derived.WalkSpells
import Derived.WalkLawsBesides
import Derived.Laws.Bits64
import Derived.Deep.RegionWith
import Derived.Test.YtmikhglnomgbfaaGreatTp05
import Derived.Test.YtmikhglnomgbfaaGreatTp06
import Derived.Test.YtmikhglnomgbfaaGreatTp18
import Derived.Test.YtmikhglnomgbfaaGreatTp13
import Derived.Test.YtmikhglnomgbfaaGreatTp10
import Derived.Deep.RegionHeld
import Derived.Deep.Light
import Derived.Deep.QuietTactic
import Derived.BigQuiet
import Derived.Deep.CutBlock
import Derived.Deep.CutRange
namespace Go.Proofs.YtmikhglnomgbfaaGreat
set_option maxHeartbeats 8000000
open Go.RowKit
set_option linter.unusedVariables false
set_option linter.unusedSimpArgs false
set_option maxRecDepth 20000
section
theorem wrapU (n : Int) : IntKind.u64.wrap n = n % 18446744073709551616 := IntKind.wrap_u64 n
theorem and_low (x : Int) (h0 : 0 ≤ x) (h1 : x < 18446744073709551616) : bits .and .u64 x 4294967295 = x % 4294967296 := by
  rw [u64_and x 4294967295 h0 h1 (by omega) (by omega)]
  have e : x.toNat &&& (4294967295 : Int).toNat = x.toNat % 4294967296 := Nat.and_two_pow_sub_one_eq_mod x.toNat 32
  rw [e]; omega
theorem or_join (i : Nat) (a b : Int) (ha0 : 0 ≤ a) (ha1 : a.toNat < 2 ^ i) (ha2 : a < 18446744073709551616) (hb0 : 0 ≤ b) (hb1 : b.toNat % 2 ^ i = 0) (hb2 : b < 18446744073709551616) : bits .or .u64 a b = a + b := by
  rw [u64_or a b ha0 ha2 hb0 hb2, Nat.or_comm, nat_join i b.toNat a.toNat hb1 ha1]
  omega
theorem or32 (a b : Int) (ha0 : 0 ≤ a) (ha1 : a < 4294967296) (hb0 : 0 ≤ b) (hb1 : b % 4294967296 = 0) (hb2 : b < 18446744073709551616) : bits .or .u64 a b = a + b :=
  or_join 32 a b ha0 (by omega) (by omega) hb0 (by omega) hb2
theorem or8 (a b : Int) (ha0 : 0 ≤ a) (ha1 : a < 256) (hb0 : 0 ≤ b) (hb1 : b % 256 = 0) (hb2 : b < 18446744073709551616) : bits .or .u64 a b = a + b :=
  or_join 8 a b ha0 (by omega) (by omega) hb0 (by omega) hb2
theorem or3 (a b : Int) (ha0 : 0 ≤ a) (ha1 : a < 8) (hb0 : 0 ≤ b) (hb1 : b % 8 = 0) (hb2 : b < 18446744073709551616) : bits .or .u64 a b = a + b :=
  or_join 3 a b ha0 (by omega) (by omega) hb0 (by omega) hb2
theorem or2 (a b : Int) (ha0 : 0 ≤ a) (ha1 : a < 4) (hb0 : 0 ≤ b) (hb1 : b % 4 = 0) (hb2 : b < 18446744073709551616) : bits .or .u64 a b = a + b :=
  or_join 2 a b ha0 (by omega) (by omega) hb0 (by omega) hb2
theorem or1 (a b : Int) (ha0 : 0 ≤ a) (ha1 : a < 2) (hb0 : 0 ≤ b) (hb1 : b % 2 = 0) (hb2 : b < 18446744073709551616) : bits .or .u64 a b = a + b :=
  or_join 1 a b ha0 (by omega) (by omega) hb0 (by omega) hb2
def hd (i g : Int) : Int := i % 4294967296 + g % 4294967296 * 4294967296
theorem hd_lo (i g : Int) : 0 ≤ hd i g := by unfold hd; omega
theorem hd_hi (i g : Int) : hd i g < 18446744073709551616 := by unfold hd; omega
theorem join_eq (i g : Int) : bits .or .u64 (bits .and .u64 (IntKind.u64.wrap i) 4294967295) (IntKind.u64.wrap (g * 4294967296)) = hd i g := by
  rw [wrapU, wrapU, and_low _ (by omega) (by omega), or32 _ _ (by omega) (by omega) (by omega) (by omega) (by omega)]
  unfold hd; omega
theorem ref_eq (i g : Int) : IntKind.u64.wrap ((IntKind.u64.wrap i).tmod 4294967296 + g % 4294967296 * 4294967296) = hd i g := by
  rw [wrapU, wrapU, Int.tmod_eq_emod_of_nonneg (by omega)]
  unfold hd; omega
def bit (b : Bool) (v : Int) : Int := if b then v else 0
theorem ret_int {k : IntKind} {a b : Int} (h : a = b) : Ending.returned (.int k a) = .returned (.int k b) := by rw [h]
theorem ret_bool {a b : Bool} (h : a = b) : Ending.returned (.bool a) = .returned (.bool b) := by rw [h]
theorem join_any (i g : Int) (w : World) :
    Calls Tryz.prog 63 #[.int .i64 i, .int .u64 g] w fun e w' => e = .returned (.int .u64 (hd i g)) ∧ w' = w := by
  go_enter Tryz.func63, Tryz.ntmps63
  go_wp2
  go_ret
  exact ⟨ret_int (join_eq i g), rfl⟩
theorem tagged_any (i g : Int) (w : World) :
    Calls Tryz.prog 34 #[.int .i64 i, .int .u64 g] w fun e w' => e = .returned (.int .u64 (hd i g)) ∧ w' = w := by
  go_enter Tryz.func34, Tryz.ntmps34
  go_wp2_with (go_at_call 63; refine (join_any _ _ _).mono ?_; rintro e w' ⟨rfl, rfl⟩)
  go_ret
  exact ⟨rfl, rfl⟩
theorem wrap64_low (h : Int) (h0 : 0 ≤ h) (h1 : h < 18446744073709551616) : wrap64 (bits .and .u64 h 4294967295) = h % 4294967296 := by
  rw [and_low h h0 h1]; unfold wrap64; omega
theorem index_any (h : Int) (h0 : 0 ≤ h) (h1 : h < 18446744073709551616) (w : World) :
    Calls Tryz.prog 87 #[.int .u64 h] w fun e w' => e = .returned (.int .i64 (h % 4294967296)) ∧ w' = w := by
  go_enter Tryz.func87, Tryz.ntmps87
  go_wp2
  go_ret
  exact ⟨ret_int (wrap64_low h h0 h1), rfl⟩
theorem index_ref (h : Int) (h0 : 0 ≤ h) (h1 : h < 18446744073709551616) (w : World) :
    Calls Tryz.prog 80 #[.int .u64 h] w fun e w' => e = .returned (.int .i64 (h % 4294967296)) ∧ w' = w := by
  go_enter Tryz.func80, Tryz.ntmps80
  go_wp2
  go_ret
  exact ⟨rfl, rfl⟩
theorem gen_any (h : Int) (h0 : 0 ≤ h) (h1 : h < 18446744073709551616) (w : World) :
    Calls Tryz.prog 93 #[.int .u64 h] w fun e w' => e = .returned (.int .u64 (h / 4294967296)) ∧ w' = w := by
  go_enter Tryz.func93, Tryz.ntmps93
  go_wp2
  go_ret
  exact ⟨rfl, rfl⟩
theorem gen_ref (h : Int) (h0 : 0 ≤ h) (h1 : h < 18446744073709551616) (w : World) :
    Calls Tryz.prog 83 #[.int .u64 h] w fun e w' => e = .returned (.int .u64 (h / 4294967296)) ∧ w' = w := by
  go_enter Tryz.func83, Tryz.ntmps83
  go_wp2
  go_ret
  exact ⟨rfl, rfl⟩
theorem isColour_any (c : Int) (w : World) :
    Calls Tryz.prog 131 #[.int .i64 c] w fun e w' => e = .returned (.bool (c == 0 || c == 1)) ∧ w' = w := by
  by_cases hc : c = 0
  · subst hc
    go_enter Tryz.func131, Tryz.ntmps131
    go_wp2
    go_ret
    exact ⟨rfl, rfl⟩
  · have hb : (c == 0) = false := beq_eq_false_iff_ne.2 hc
    go_enter Tryz.func131, Tryz.ntmps131
    go_wp2
    go_ret
    exact ⟨ret_bool (by simp [hb]), rfl⟩
theorem bitIf_any (b : Bool) (v : Int) (w : World) :
    Calls Tryz.prog 132 #[.bool b, .int .u64 v] w fun e w' => e = .returned (.int .u64 (bit b v)) ∧ w' = w := by
  cases b
  · go_enter Tryz.func132, Tryz.ntmps132
    go_wp2
    go_ret
    exact ⟨rfl, rfl⟩
  · go_enter Tryz.func132, Tryz.ntmps132
    go_wp2
    go_ret
    exact ⟨rfl, rfl⟩
def hasB (x v : Int) : Bool := x / v % 2 == 1
def numB (x v : Int) : Int := x / v % 2
theorem ret_two {k l : IntKind} {a b c d : Int} (h : a = b) (h' : c = d) : Ending.returned (.tuple #[.int k a, .int l c]) = .returned (.tuple #[.int k b, .int l d]) := by rw [h, h']
def packOk (age gen c : Int) : Prop := (c = 0 ∨ c = 1) ∧ 0 ≤ age ∧ age ≤ 255 ∧ gen ≤ 4294967295
def ownB (live : Bool) (c : Int) : Bool := if live then c == 1 else !(c == 1)
def packW (used own final taken : Bool) (age gen : Int) : Int := bit used 1 + bit own 2 + bit final 4 + bit taken 8 + age * 256 + gen * 4294967296
theorem or_bits (u o f t : Bool) : bits .or .u64 (bits .or .u64 (bits .or .u64 (bit u 1) (bit o 2)) (bit f 4)) (bit t 8) = bit u 1 + bit o 2 + bit f 4 + bit t 8 := by
  rw [or1 (bit u 1) (bit o 2) (by cases u <;> simp [bit]) (by cases u <;> simp [bit]) (by cases o <;> simp [bit]) (by cases o <;> simp [bit]) (by cases o <;> simp [bit])]
  rw [or2 _ (bit f 4) (by cases u <;> cases o <;> simp [bit]) (by cases u <;> cases o <;> simp [bit]) (by cases f <;> simp [bit]) (by cases f <;> simp [bit]) (by cases f <;> simp [bit])]
  rw [or3 _ (bit t 8) (by cases u <;> cases o <;> cases f <;> simp [bit]) (by cases u <;> cases o <;> cases f <;> simp [bit]) (by cases t <;> simp [bit]) (by cases t <;> simp [bit]) (by cases t <;> simp [bit])]
theorem bits_lt (u o f t : Bool) : 0 ≤ bit u 1 + bit o 2 + bit f 4 + bit t 8 ∧ bit u 1 + bit o 2 + bit f 4 + bit t 8 < 16 := by
  cases u <;> cases o <;> cases f <;> cases t <;> simp [bit]
theorem pack_eq (u o f t : Bool) (age gen : Int) (ha0 : 0 ≤ age) (ha1 : age ≤ 255) (hg0 : 0 ≤ gen) (hg1 : gen ≤ 4294967295) :
    bits .or .u64 (bits .or .u64 (bits .or .u64 (bits .or .u64 (bits .or .u64 (bit u 1) (bit o 2)) (bit f 4)) (bit t 8)) (age * 256)) (gen * 4294967296) = packW u o f t age gen := by
  have hb := bits_lt u o f t
  rw [or_bits, or8 _ (age * 256) (by omega) (by omega) (by omega) (by omega) (by omega), or32 _ (gen * 4294967296) (by omega) (by omega) (by omega) (by omega) (by omega)]
  rfl
theorem below_box (w : World) (o : Obj) (n : Nat) : Below w.heap.size w ((w.alloc o).drewN n) := below_drewN ((Below.refl _ _).alloc (Nat.le_refl _) _) n
def packB (age gen c : Int) : Bool := (c == 0 || c == 1) && decide (0 ≤ age) && decide (age ≤ 255) && decide (gen ≤ 4294967295)
def packV (used live final taken : Bool) (age gen c : Int) : Int := if packB age gen c then packW used (ownB live c) final taken age gen else 0
def packE (age gen c : Int) : Int := if packB age gen c then 0 else 10
def momB (p c r : Int) : Bool := decide (0 ≤ p) && decide (p ≤ 4) && (c == 0 || c == 1) && decide (r < 72057594037927936)
def momV (p c r : Int) : Int := if momB p c r then p + c * 8 + r * 256 else 0
def momE (p c r : Int) : Int := if momB p c r then 0 else 10
def obj (used live final taken : Bool) (age gen link next : Int) : Value :=
  .agg #[.bool used, .bool live, .bool final, .bool taken, .int .i64 age, .int .u64 gen, .int .u64 link, .int .u64 next, .slice none 0 0]
end
section
theorem bump_any (t i : Int) (h0 : 0 ≤ t) (h1 : t < 18446744073709551616) (w : World) :
    Calls Tryz.prog 119 #[.int .u64 t, .int .i64 i] w fun e w' => e = .returned (.int .u64 (hd i (t / 4294967296 + 1))) ∧ w' = w := by
  go_enter Tryz.func119, Tryz.ntmps119
  go_wp2_with (first | (go_at_call 93; refine (gen_any _ h0 h1 _).mono ?_; rintro e w' ⟨rfl, rfl⟩) | (go_at_call 34; refine (tagged_any _ _ _).mono ?_; rintro e w' ⟨rfl, rfl⟩))
  go_ret
  exact ⟨rfl, rfl⟩
theorem handle_ref (i g : Int) (h0 : 0 ≤ g) (h1 : g < 18446744073709551616) (w : World) :
    Calls Tryz.prog 84 #[.int .i64 i, .int .u64 g] w fun e w' => e = .returned (.int .u64 (hd i g)) ∧ w' = w := by
  go_enter Tryz.func84, Tryz.ntmps84
  go_wp2
  go_ret
  exact ⟨ret_int (ref_eq i g), rfl⟩
theorem tagged_ref (i g : Int) (h0 : 0 ≤ g) (h1 : g < 18446744073709551616) (w : World) :
    Calls Tryz.prog 103 #[.int .i64 i, .int .u64 g] w fun e w' => e = .returned (.int .u64 (hd i g)) ∧ w' = w := by
  go_enter Tryz.func103, Tryz.ntmps103
  go_wp2_with (go_at_call 84; refine (handle_ref _ _ h0 h1 _).mono ?_; rintro e w' ⟨rfl, rfl⟩)
  go_ret
  exact ⟨rfl, rfl⟩
theorem bump_ref (t i : Int) (h0 : 0 ≤ t) (h1 : t < 18446744073709551616) (w : World) :
    Calls Tryz.prog 82 #[.int .u64 t, .int .i64 i] w fun e w' => e = .returned (.int .u64 (hd i (t / 4294967296 + 1))) ∧ w' = w := by
  go_enter Tryz.func82, Tryz.ntmps82
  go_wp2_with (first | (go_at_call 83; refine (gen_ref _ h0 h1 _).mono ?_; rintro e w' ⟨rfl, rfl⟩) | (go_at_call 103; refine (tagged_ref _ _ (by omega) (by omega) _).mono ?_; rintro e w' ⟨rfl, rfl⟩))
  go_ret
  exact ⟨rfl, rfl⟩
def whiteB (x g c : Int) : Bool := hasB x 1 && (x / 4294967296 == g) && (numB x 2 != c)
end
section
namespace Hp
def idx (x : Int) : Int := x % 4294967296
def bmp (t i : Int) : Int := hd i (t / 4294967296 + 1)
theorem idx_lo (x : Int) : 0 ≤ idx x := by unfold idx; omega
theorem idx_hi (x : Int) : idx x < 4294967296 := by unfold idx; omega
theorem bmp_lo (t i : Int) : 0 ≤ bmp t i := hd_lo _ _
theorem bmp_hi (t i : Int) : bmp t i ≤ 18446744073709551615 := by have := hd_hi i (t / 4294967296 + 1); unfold bmp; omega
def there (sh : Shp) (i : Int) : Prop := 1 ≤ i ∧ i ≤ sh.a
instance (sh : Shp) (i : Int) : Decidable (there sh i) := by unfold there; infer_instance
def headAt (sh : Shp) (i : Int) : Int := if there sh i then 8 + sh.c + sh.c * sh.d + sh.e + (i - 1) * (3 + sh.b) else -1
def linkAt (sh : Shp) (i : Int) : Int := if there sh i then 8 + sh.c + sh.c * sh.d + sh.e + (i - 1) * (3 + sh.b) + 1 else -1
def slotIn (sh : Shp) (i s : Int) : Prop := there sh i ∧ 0 ≤ s ∧ s < sh.b
instance (sh : Shp) (i s : Int) : Decidable (slotIn sh i s) := by unfold slotIn; infer_instance
def slotAt (sh : Shp) (i s : Int) : Int := if slotIn sh i s then 8 + sh.c + sh.c * sh.d + sh.e + (i - 1) * (3 + sh.b) + 3 + s else -1
theorem had_bounds {n : Nat} {f : Nat → Int} (hf : ∀ i, i < n → 0 ≤ f i ∧ f i ≤ 18446744073709551615) (q : Stp) : 0 ≤ (stepOf n f q).had ∧ (stepOf n f q).had ≤ 18446744073709551615 := by
 unfold stepOf
 split
 ·rename_i h
  exact hf _ (by omega)
 ·exact ⟨Int.le_refl 0, by show (0 : Int) ≤ 18446744073709551615; decide⟩
end Hp
end
section
namespace Rom
open Hp
structure RmS where
  hand : Int
  j : Jb
  st : Int
  g : Int
  xb : Int
  gn : Int
  sl : Int
  told : Ans
def fin (j : Jb) : Bool := j.b == 1
def col (j : Jb) : Int := if j.c = 0 then 0 else 1
def useW (j : Jb) (gn : Int) : Int := packW true (ownB true (col j)) (fin j) false 0 gn
def nxg (gn : Int) : Int := if gn = 4294967295 then gn else gn + 1
def mx0 (a : Int) : Int := if a < 0 then 0 else a
def rerr (any : Bool) (sh : Shp) (hand : Int) (j : Jb) : Int :=
  if any = true then (if j.a ≤ 9223372036854775807 then 0 else 2) else if j.kind = 1 then (if (j.b = 0 ∨ j.b = 1) ∧ (j.c = 0 ∨ j.c = 1) then 0 else 2) else if j.kind = 2 then (if there sh j.a then 0 else 2) else 200
def rreq (sh : Shp) (s : RmS) : Stp :=
  if s.j.kind = 1 then
    (if s.st = 0 then ⟨s.hand, 1, 1, 0, 0, true⟩ else if s.st = 1 then ⟨s.hand, 1, linkAt sh (idx s.g), 0, 0, true⟩ else if s.st = 2 then ⟨s.hand, 5, 1, s.g, bmp s.g s.xb, true⟩
     else if s.st = 3 then ⟨s.hand, 1, headAt sh (idx s.g), 0, 0, true⟩ else if s.st = 4 then ⟨s.hand, 2, headAt sh (idx s.g), 0, useW s.j s.gn, true⟩ else ⟨s.hand, 4, 4, 0, 1, true⟩)
  else
    (if s.st = 0 then ⟨s.hand, 2, slotAt sh s.j.a s.sl, 0, 0, true⟩ else if s.st = 1 then ⟨s.hand, 1, headAt sh s.j.a, 0, 0, true⟩ else if s.st = 2 then ⟨s.hand, 2, headAt sh s.j.a, 0, hd 0 (nxg s.gn), true⟩
     else if s.st = 3 then ⟨s.hand, 1, 1, 0, 0, true⟩ else if s.st = 4 then ⟨s.hand, 2, linkAt sh s.j.a, 0, idx s.g, true⟩ else if s.st = 5 then ⟨s.hand, 5, 1, s.g, bmp s.g s.j.a, true⟩ else ⟨s.hand, 4, 5, 0, 1, true⟩)
def rends (sh : Shp) (s : RmS) (x : Stp) : Bool :=
  if s.j.kind = 1 then (if s.st = 0 then !(decide (there sh (idx x.had))) else decide (s.st = 5))
  else decide (s.st = 6)
def rnext (sh : Shp) (s : RmS) (x : Stp) : RmS :=
  if s.j.kind = 1 then
    (if s.st = 0 then (if there sh (idx x.had) then { s with g := x.had, st := 1 } else { s with g := x.had })
     else if s.st = 1 then { s with xb := idx x.had, st := 2 }
     else if s.st = 2 then (if x.ok = true then { s with st := 3 } else { s with st := 0 })
     else if s.st = 3 then { s with gn := x.had / 4294967296, st := 4 }
     else if s.st = 4 then { s with st := 5 }
     else { s with told := ⟨true, hd (idx s.g) s.gn⟩ })
  else
    (if s.st = 0 then (if slotIn sh s.j.a (s.sl + 1) then { s with sl := s.sl + 1 } else { s with sl := s.sl + 1, st := 1 })
     else if s.st = 1 then { s with gn := x.had / 4294967296, st := 2 }
     else if s.st = 2 then (if s.gn = 4294967295 then { s with st := 6 } else { s with st := 3 })
     else if s.st = 3 then { s with g := x.had, st := 4 }
     else if s.st = 4 then { s with st := 5 }
     else if s.st = 5 then (if x.ok = true then { s with st := 6 } else { s with st := 3 })
     else { s with told := ⟨true, mx0 s.j.a⟩ })
def fnM (b : Nat) (st : Int) : Value := .func (.func (if st = 0 then 31 else if st = 1 then 58 else if st = 2 then 89 else if st = 3 then 106 else if st = 4 then 120 else 128)) #[.pointer (some ⟨b, 0, none⟩)] #[]
def fnG (b : Nat) (st : Int) : Value := .func (.func (if st = 0 then 61 else if st = 1 then 60 else if st = 2 then 94 else if st = 3 then 110 else if st = 4 then 121 else if st = 5 then 129 else 111)) #[.pointer (some ⟨b, 0, none⟩)] #[]
def mC (sh : Shp) (hand : Int) (fn : Value) (g : Int) (t : Ans) (fl : Bool) (c xb gn : Int) : Nat → Value := fun k => match k with | 0 => .int .i64 hand | 1 => fn | 2 => .int .u64 g | 3 => .bool t.ok | 4 => .int .u64 t.val | 5 => .int .i64 sh.a | 6 => .int .i64 sh.b | 7 => .int .i64 sh.c | 8 => .int .i64 sh.d | 9 => .int .i64 sh.e | 10 => .int .i64 sh.f | 11 => .bool fl | 12 => .int .i64 c | 13 => .int .i64 xb | _ => .int .u64 gn
def gC (sh : Shp) (hand : Int) (fn : Value) (g : Int) (t : Ans) (ix sl gn : Int) : Nat → Value := fun k => match k with | 0 => .int .i64 hand | 1 => fn | 2 => .int .u64 g | 3 => .bool t.ok | 4 => .int .u64 t.val | 5 => .int .i64 sh.a | 6 => .int .i64 sh.b | 7 => .int .i64 sh.c | 8 => .int .i64 sh.d | 9 => .int .i64 sh.e | 10 => .int .i64 sh.f | 11 => .int .i64 ix | 12 => .int .i64 sl | _ => .int .u64 gn
def rcell (sh : Shp) (b : Nat) (s : RmS) : Nat → Value :=
  if s.j.kind = 1 then mC sh s.hand (fnM b s.st) s.g s.told (fin s.j) (col s.j) s.xb s.gn
  else gC sh s.hand (fnG b s.st) s.g s.told s.j.a s.sl s.gn
def rpick {α : Type} (j : Jb) (x y : α) : α := if j.kind = 1 then x else y
theorem pick1 {α : Type} {j : Jb} (h : j.kind = 1) (x y : α) : rpick j x y = x := by simp [rpick, h]
theorem pick2 {α : Type} {j : Jb} (h : ¬ j.kind = 1) (x y : α) : rpick j x y = y := by simp [rpick, h]
structure Wf (sh : Shp) (s : RmS) : Prop where
  st : (s.j.kind = 1 ∧ (s.st = 0 ∨ s.st = 1 ∨ s.st = 2 ∨ s.st = 3 ∨ s.st = 4 ∨ s.st = 5)) ∨ (¬ s.j.kind = 1 ∧ (s.st = 0 ∨ s.st = 1 ∨ s.st = 2 ∨ s.st = 3 ∨ s.st = 4 ∨ s.st = 5 ∨ s.st = 6))
  h : s.j.wf
  g : 0 ≤ s.g ∧ s.g ≤ 18446744073709551615
  gn : 0 ≤ s.gn ∧ s.gn ≤ 4294967295
  th : s.j.kind = 1 → ¬ s.st = 0 → there sh (idx s.g)
  xb : s.j.kind = 1 → ¬ s.st = 0 → ¬ s.st = 1 → 0 ≤ s.xb ∧ s.xb < 4294967296
  sl : ¬ s.j.kind = 1 → s.st = 0 → slotIn sh s.j.a s.sl
  sl2 : ¬ s.j.kind = 1 → 0 ≤ s.sl ∧ s.sl ≤ 4
  ab : ¬ s.j.kind = 1 → s.j.a ≤ 9223372036854775807
def rinit (sh : Shp) (h : Int) (j : Jb) : RmS := ⟨h, j, if j.kind = 1 then 0 else if slotIn sh j.a 0 then 0 else 1, 0, 0, 0, 0, ⟨false, 0⟩⟩
def kRom (any : Bool) (sh : Shp) : Kd where
  σ := RmS
  err := rerr any sh
  init := rinit sh
  req := rreq sh
  next := rnext sh
  ends := rends sh
  tell s := s.told
  tid j := rpick j 86 94
  t j := rpick j 92 96
  n j := rpick j 15 14
  fs _ := 150
  fa _ := 149
  cell := rcell sh
  wf j s := s.j = j ∧ Wf sh s
theorem rnext_j (sh : Shp) (s : RmS) (x : Stp) : (rnext sh s x).j = s.j := by
  unfold rnext
  repeat' split
  all_goals rfl
theorem rnext_wf {sh : Shp} (h4 : 0 ≤ sh.b ∧ sh.b ≤ 4) {s : RmS} {x : Stp} (H : Wf sh s) (hx : 0 ≤ x.had ∧ x.had ≤ 18446744073709551615) (he : ¬ rends sh s x = true) : Wf sh (rnext sh s x) := by
  obtain ⟨hk, hh, hg, hn, ht, hb, hs, hs2, hab⟩ := H
  obtain ⟨hand, j, st, g, xb, gn, sl, told⟩ := s
  simp only at hk hh hg hn ht hb hs hs2 hab
  have ix0 := idx_lo x.had
  have ix1 := idx_hi x.had
  rcases hk with ⟨hk, rfl | rfl | rfl | rfl | rfl | rfl⟩ | ⟨hk, rfl | rfl | rfl | rfl | rfl | rfl | rfl⟩
  · have ht : there sh (idx x.had) := by simpa [rends, hk] using he
    simp only [rnext, hk, ht, if_true]
    exact ⟨.inl ⟨hk, by simp⟩, hh, hx, hn, fun _ _ => ht, fun _ _ h => absurd rfl h, fun h => absurd hk h, fun h => absurd hk h, hab⟩
  · simp only [rnext, hk, if_true, if_neg (show ¬ (1 : Int) = 0 by decide)]
    exact ⟨.inl ⟨hk, by simp⟩, hh, hg, hn, fun _ _ => ht hk (by decide), fun _ _ _ => ⟨ix0, ix1⟩, fun h => absurd hk h, fun h => absurd hk h, hab⟩
  · simp only [rnext, hk, if_true, if_neg (show ¬ (2 : Int) = 0 by decide), if_neg (show ¬ (2 : Int) = 1 by decide)]
    split
    · exact ⟨.inl ⟨hk, by simp⟩, hh, hg, hn, fun _ _ => ht hk (by decide), fun _ _ _ => hb hk (by decide) (by decide), fun h => absurd hk h, fun h => absurd hk h, hab⟩
    · exact ⟨.inl ⟨hk, by simp⟩, hh, hg, hn, fun _ h => absurd rfl h, fun _ h => absurd rfl h, fun h => absurd hk h, fun h => absurd hk h, hab⟩
  · simp only [rnext, hk, if_true, if_neg (show ¬ (3 : Int) = 0 by decide), if_neg (show ¬ (3 : Int) = 1 by decide), if_neg (show ¬ (3 : Int) = 2 by decide)]
    exact ⟨.inl ⟨hk, by simp⟩, hh, hg, (by simp only; omega), fun _ _ => ht hk (by decide), fun _ _ _ => hb hk (by decide) (by decide), fun h => absurd hk h, fun h => absurd hk h, hab⟩
  · simp only [rnext, hk, if_true, if_neg (show ¬ (4 : Int) = 0 by decide), if_neg (show ¬ (4 : Int) = 1 by decide), if_neg (show ¬ (4 : Int) = 2 by decide), if_neg (show ¬ (4 : Int) = 3 by decide)]
    exact ⟨.inl ⟨hk, by simp⟩, hh, hg, hn, fun _ _ => ht hk (by decide), fun _ _ _ => hb hk (by decide) (by decide), fun h => absurd hk h, fun h => absurd hk h, hab⟩
  · exact absurd (by simp [rends, hk]) he
  · simp only [rnext, hk, if_true, if_false]
    have h0 := hs2 hk
    have h1 := (hs hk rfl).2
    split
    · rename_i hin
      exact ⟨.inr ⟨hk, by simp⟩, hh, hg, hn, fun h => absurd h hk, fun h => absurd h hk, fun _ _ => hin, fun _ => (by simp only; omega), hab⟩
    · exact ⟨.inr ⟨hk, by simp⟩, hh, hg, hn, fun h => absurd h hk, fun h => absurd h hk, fun _ h => absurd h (by simp), fun _ => (by simp only; omega), hab⟩
  · simp only [rnext, hk, if_true, if_false, if_neg (show ¬ (1 : Int) = 0 by decide)]
    exact ⟨.inr ⟨hk, by simp⟩, hh, hg, (by simp only; omega), fun h => absurd h hk, fun h => absurd h hk, fun _ h => absurd h (by simp), fun _ => hs2 hk, hab⟩
  · simp only [rnext, hk, if_true, if_false, if_neg (show ¬ (2 : Int) = 0 by decide), if_neg (show ¬ (2 : Int) = 1 by decide)]
    split
    · exact ⟨.inr ⟨hk, by simp⟩, hh, hg, hn, fun h => absurd h hk, fun h => absurd h hk, fun _ h => absurd h (by simp), fun _ => hs2 hk, hab⟩
    · exact ⟨.inr ⟨hk, by simp⟩, hh, hg, hn, fun h => absurd h hk, fun h => absurd h hk, fun _ h => absurd h (by simp), fun _ => hs2 hk, hab⟩
  · simp only [rnext, hk, if_true, if_false, if_neg (show ¬ (3 : Int) = 0 by decide), if_neg (show ¬ (3 : Int) = 1 by decide), if_neg (show ¬ (3 : Int) = 2 by decide)]
    exact ⟨.inr ⟨hk, by simp⟩, hh, hx, hn, fun h => absurd h hk, fun h => absurd h hk, fun _ h => absurd h (by simp), fun _ => hs2 hk, hab⟩
  · simp only [rnext, hk, if_true, if_false, if_neg (show ¬ (4 : Int) = 0 by decide), if_neg (show ¬ (4 : Int) = 1 by decide), if_neg (show ¬ (4 : Int) = 2 by decide), if_neg (show ¬ (4 : Int) = 3 by decide)]
    exact ⟨.inr ⟨hk, by simp⟩, hh, hg, hn, fun h => absurd h hk, fun h => absurd h hk, fun _ h => absurd h (by simp), fun _ => hs2 hk, hab⟩
  · simp only [rnext, hk, if_true, if_false, if_neg (show ¬ (5 : Int) = 0 by decide), if_neg (show ¬ (5 : Int) = 1 by decide), if_neg (show ¬ (5 : Int) = 2 by decide), if_neg (show ¬ (5 : Int) = 3 by decide), if_neg (show ¬ (5 : Int) = 4 by decide)]
    split
    · exact ⟨.inr ⟨hk, by simp⟩, hh, hg, hn, fun h => absurd h hk, fun h => absurd h hk, fun _ h => absurd h (by simp), fun _ => hs2 hk, hab⟩
    · exact ⟨.inr ⟨hk, by simp⟩, hh, hg, hn, fun h => absurd h hk, fun h => absurd h hk, fun _ h => absurd h (by simp), fun _ => hs2 hk, hab⟩
  · exact absurd (by simp [rends, hk]) he
theorem wf_init (sh : Shp) (h : Int) {j : Jb} (hj : j.wf) (hab : ¬ j.kind = 1 → j.a ≤ 9223372036854775807) : Wf sh (rinit sh h j) := by
  refine ⟨?_, hj, by simp [rinit], by simp [rinit], fun hk h => absurd (by simp [rinit] at hk ⊢; intro h'; exact absurd hk h') h, fun hk h => absurd (by simp [rinit] at hk ⊢; intro h'; exact absurd hk h') h, ?_, fun _ => by simp [rinit], hab⟩
  · by_cases hk : j.kind = 1
    · exact .inl ⟨hk, .inl (by simp [rinit, hk])⟩
    · refine .inr ⟨hk, ?_⟩
      by_cases hs : slotIn sh j.a 0
      · exact .inl (by simp [rinit, hk, hs])
      · exact .inr (.inl (by simp [rinit, hk, hs]))
  · intro hk he
    have hk' : ¬ j.kind = 1 := hk
    by_cases hs : slotIn sh j.a 0
    · exact hs
    · simp [rinit, hk', hs] at he
theorem err_ab {any : Bool} {sh : Shp} (ha : sh.a ≤ 64) {h : Int} {j : Jb} (he : rerr any sh h j = 0) (hk : ¬ j.kind = 1) : j.a ≤ 9223372036854775807 := by
  unfold rerr at he
  by_cases ha' : any = true
  · rw [if_pos ha'] at he
    by_cases hc : j.a ≤ 9223372036854775807
    · exact hc
    · rw [if_neg hc] at he
      cases he
  · rw [if_neg ha', if_neg hk] at he
    by_cases h2 : j.kind = 2
    · rw [if_pos h2] at he
      by_cases ht : there sh j.a
      · have := ht.2
        omega
      · rw [if_neg ht] at he
        cases he
    · rw [if_neg h2] at he
      cases he
end Rom
end
section
end
section
end
end Go.Proofs.YtmikhglnomgbfaaGreat
