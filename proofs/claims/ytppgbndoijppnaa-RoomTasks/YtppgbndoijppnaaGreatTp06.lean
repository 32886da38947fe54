/-
  Lemmas: RBegin, WordV, WordS, HeapC.
-/
import Derived.Test.YtppgbndoijppnaaGreatTp05
import Derived.Deep.MidRow
import Derived.Test.YtppgbndoijppnaaGreatRows
import Derived.WalkKit
import Derived.WalkSpells
import Derived.WalkLawsBesides
import Derived.Laws.Bits64
import Derived.Deep.RegionWith
namespace Go.Proofs.YtppgbndoijppnaaGreat
set_option maxHeartbeats 8000000
open Go.RowKit
set_option linter.unusedVariables false
set_option linter.unusedSimpArgs false
set_option maxRecDepth 20000
section
structure Shp where
 a : Int
 b : Int
 c : Int
 d : Int
 e : Int
 f : Int
def Shp.val (s : Shp) : Value := .agg #[.int .i64 s.a, .int .i64 s.b, .int .i64 s.c, .int .i64 s.d, .int .i64 s.e, .int .i64 s.f]
def runCells (s : Shp) (vw vh vt vu vb vk vs va : Value) (la : Int) : List Value :=
 [.int .i64 s.a, .int .i64 s.b, .int .i64 s.c, .int .i64 s.d, .int .i64 s.e, .int .i64 s.f, vw, vh, vt, vu, vb, vk, vs, va, .int .i64 la]
def runVal (s : Shp) (vw vh vt vu vb vk vs va : Value) (la : Int) : Value := .agg (runCells s vw vh vt vu vb vk vs va la).toArray
section
variable {P : Program} {o : Oper} {a : Act} {w : World} {K : Act → World → Prop} {Q : Exit → Act → World → Prop}
theorem wp_value {v : Value} {w' : World} (h : (execOp a.eval o).run P w = .ok (.value v) w') (hk : K (a.put o.dst v) w') : o.wp P a w K Q := by
 unfold Oper.wp; rw [h]; exact hk
end
theorem put_eval {a : Act} {d : Nat} {v : Value} (h : d < a.tmps.size) : (a.put (some d) v).eval (.tmp d) = v := by
 simp [Act.put, Act.eval, h]
theorem put_other {a : Act} {d k : Nat} {v : Value} (h : k ≠ d) : (a.put (some d) v).eval (.tmp k) = a.eval (.tmp k) :=
 Act.eval_put (fun d' hd he => by cases hd; cases he; exact h rfl)
theorem put_size {a : Act} {d : Option Nat} {v : Value} : (a.put d v).tmps.size = a.tmps.size := by
 cases d <;> simp [Act.put]
theorem put_defs {a : Act} {d : Option Nat} {v : Value} : (a.put d v).defers = a.defers := by
 cases d <;> rfl
theorem World.rowIs_alloc' (w : World) (vs : Array Value) (t : TypeId) (n : Nat) (hn : vs.size = n) {f : Nat → Value} (hc : ∀ i, i < n → vs[i]? = some (f i)) : (w.alloc (.cells vs t)).rowIs w.heap.size t n f := by
 subst hn
 exact World.rowIs_alloc w vs t f hc
theorem touch_setCells (b : Nat) : ∀ (vs : List Value) (o : Nat) (w : World), Touch w (w.setCells b o vs) (fun k => k = b)
 | [], _, w => Touch.refl w _
 | v :: r, o, w => by
  rw [World.setCells]
  exact (Touch.setCell (S := fun k => k = b) (Touch.refl w _) ⟨b, o, none⟩ (.inl rfl) v).trans (touch_setCells b r (o + 1) _)
namespace Beg
def mv (vw vh vn vs : Value) : Nat → Option (Nat × Value)
 | 0 => some (10, vs)
 | 2 => some (12, vw)
 | 4 => some (14, vh)
 | 5 => some (15, vn)
 | 7 => some (17, vn)
 | 9 => some (19, vn)
 | 11 => some (21, vn)
 | 13 => some (23, vn)
 | _ => none
def zTask : Array Value := #[.int .i64 0, .int .i64 0, .int .i64 0, .int .i64 0, .int .i64 0, .int .i64 0, .int .i64 0, .int .i64 0, .int .i64 0, .int .i64 0, .int .i64 0, .int .u64 0, .int .i64 0, .int .u64 0, .int .u64 0, .int .u64 0, .int .u64 0, .int .u64 0, .int .u64 0, .int .u64 0, .int .u64 0, .slice none 0 0, .bool false, .int .u64 0, .int .u64 0, .int .u64 0, .int .u64 0, .int .u64 0]
def zKept : Array Value := #[.int .u64 0, .int .u64 0, .int .u64 0, .int .u64 0]
def mkr (n : Nat) : Rl → Option (Nat × Nat × Row)
 | .tasks => some (6, 16, ⟨59, n * 28, fun i => zTask[i % zTask.size]!⟩)
 | .going => some (8, 18, ⟨4, n * 1, fun i => #[Value.bool false][i % #[Value.bool false].size]!⟩)
 | .run => some (10, 20, ⟨3, n * 1, fun i => #[Value.int .i64 0][i % #[Value.int .i64 0].size]!⟩)
 | .mem => some (12, 22, ⟨57, n * 4, fun i => zKept[i % zKept.size]!⟩)
 | .answers => some (14, 24, ⟨76, n * 1, fun i => #[Value.slice none 0 0][i % #[Value.slice none 0 0].size]!⟩)
 | _ => none
def sl (b n : Nat) : Value := .slice (some ⟨b, 0, none⟩) n n
def cellsAt (sh : Shp) (vw vh : Value) (blk : Rl → Nat) (nh : Nat) : List Value := runCells sh vw vh (sl (blk .tasks) nh) (sl (blk .going) nh) (sl (blk .run) nh) (sl (blk .mem) nh) (.slice none 0 0) (sl (blk .answers) nh) (-1)
structure Wd (N : Nat) (L : Nat → Bool) (a : Act) (blk : Rl → Nat) (c : Rl → Option Row) (n : Nat) (f : Nat → Int) : Prop where
 none : L 1 = false → c .words = .none ∧ L 3 = false
 lit : L 1 = true → L 3 = false → a.eval (.tmp 11) = .slice (some ⟨blk .words, 0, .none⟩) 0 0 ∧ N ≤ blk .words ∧ ∃ F, c .words = some ⟨50, 0, F⟩
 row : L 3 = true → ∃ cap F, a.eval (.tmp 13) = .slice (some ⟨blk .words, 0, .none⟩) n cap ∧ c .words = some ⟨50, cap, F⟩ ∧ n ≤ cap ∧ cap ≤ maxLen ∧ ∀ i, i < n → F i = .int .u64 (f i)
structure In (w0 : World) (B : Nat) (sh : Shp) (vw vh : Value) (n nh : Nat) (f : Nat → Int) (L : Nat → Bool) (a : Act) (w : World) (blk : Rl → Nat) (c : Rl → Option Row) : Prop where
 sz : a.tmps.size = 26
 df : a.defers = []
 s1 : a.eval (.tmp 1) = vw
 s2 : a.eval (.tmp 2) = vh
 s3 : a.eval (.tmp 3) = .pointer (some ⟨B, 0, none⟩)
 s6 : a.eval (.tmp 6) = .pointer (some ⟨B + 1, 0, none⟩)
 s7 : a.eval (.tmp 7) = .int .i64 nh
 tch : Touch w0 w (fun k => k = B + 1)
 th : w.there (B + 1) 0 15
 mvs : ∀ k d v, mv vw vh (.int .i64 nh) sh.val k = some (d, v) → L k = true → a.eval (.tmp d) = v
 has : Has w (B + 2) blk c
 mks : ∀ r k d x, mkr nh r = some (k, d, x) → (L k = true → a.eval (.tmp d) = sl (blk r) nh ∧ c r = some x) ∧ (L k = false → c r = none)
 rest : c .steps = none ∧ ∀ h, c (.arow h) = none
 wd : Wd w0.heap.size L a blk c n f
 bld : L 15 = true → (L 3 = true ∧ ∀ r k d x, mkr nh r = some (k, d, x) → L k = true) ∧ a.eval (.tmp 25) = .agg (cellsAt sh (a.eval (.tmp 13)) vh blk nh).toArray
 fin : L 16 = true → L 15 = true ∧ w.rangeAt (B + 1) 0 (cellsAt sh (a.eval (.tmp 13)) vh blk nh)
variable {w0 w : World} {B : Nat} {sh : Shp} {vw vh : Value} {n nh : Nat} {f : Nat → Int} {L : Nat → Bool} {a : Act} {blk : Rl → Nat} {c : Rl → Option Row}
end Beg
end
section
theorem wrapU (n : Int) : IntKind.u64.wrap n = n % 18446744073709551616 := IntKind.wrap_u64 n
theorem and_low (x : Int) (h0 : 0 ≤ x) (h1 : x < 18446744073709551616) : bits .and .u64 x 4294967295 = x % 4294967296 := by
 rw [u64_and x 4294967295 h0 h1 (by omega) (by omega)]
 have e : x.toNat &&& (4294967295 : Int).toNat = x.toNat % 4294967296 := Nat.and_two_pow_sub_one_eq_mod x.toNat 32
 rw [e]; omega
theorem or_join (i : Nat) (a b : Int) (ha0 : 0 ≤ a) (ha1 : a.toNat < 2 ^ i) (ha2 : a < 18446744073709551616) (hb0 : 0 ≤ b) (hb1 : b.toNat % 2 ^ i = 0) (hb2 : b < 18446744073709551616) : bits .or .u64 a b = a + b := by
 rw [u64_or a b ha0 ha2 hb0 hb2, Nat.or_comm, nat_join i b.toNat a.toNat hb1 ha1]
 omega
theorem or32 (a b : Int) (ha0 : 0 ≤ a) (ha1 : a < 4294967296) (hb0 : 0 ≤ b) (hb1 : b % 4294967296 = 0) (hb2 : b < 18446744073709551616) : bits .or .u64 a b = a + b :=
 or_join 32 a b ha0 (by omega) (by omega) hb0 (by omega) hb2
theorem or8 (a b : Int) (ha0 : 0 ≤ a) (ha1 : a < 256) (hb0 : 0 ≤ b) (hb1 : b % 256 = 0) (hb2 : b < 18446744073709551616) : bits .or .u64 a b = a + b :=
 or_join 8 a b ha0 (by omega) (by omega) hb0 (by omega) hb2
theorem or3 (a b : Int) (ha0 : 0 ≤ a) (ha1 : a < 8) (hb0 : 0 ≤ b) (hb1 : b % 8 = 0) (hb2 : b < 18446744073709551616) : bits .or .u64 a b = a + b :=
 or_join 3 a b ha0 (by omega) (by omega) hb0 (by omega) hb2
theorem or2 (a b : Int) (ha0 : 0 ≤ a) (ha1 : a < 4) (hb0 : 0 ≤ b) (hb1 : b % 4 = 0) (hb2 : b < 18446744073709551616) : bits .or .u64 a b = a + b :=
 or_join 2 a b ha0 (by omega) (by omega) hb0 (by omega) hb2
theorem or1 (a b : Int) (ha0 : 0 ≤ a) (ha1 : a < 2) (hb0 : 0 ≤ b) (hb1 : b % 2 = 0) (hb2 : b < 18446744073709551616) : bits .or .u64 a b = a + b :=
 or_join 1 a b ha0 (by omega) (by omega) hb0 (by omega) hb2
def hd (i g : Int) : Int := i % 4294967296 + g % 4294967296 * 4294967296
theorem hd_lo (i g : Int) : 0 ≤ hd i g := by unfold hd; omega
theorem hd_hi (i g : Int) : hd i g < 18446744073709551616 := by unfold hd; omega
theorem join_eq (i g : Int) : bits .or .u64 (bits .and .u64 (IntKind.u64.wrap i) 4294967295) (IntKind.u64.wrap (g * 4294967296)) = hd i g := by
 rw [wrapU, wrapU, and_low _ (by omega) (by omega), or32 _ _ (by omega) (by omega) (by omega) (by omega) (by omega)]
 unfold hd; omega
theorem ref_eq (i g : Int) : IntKind.u64.wrap ((IntKind.u64.wrap i).tmod 4294967296 + g % 4294967296 * 4294967296) = hd i g := by
 rw [wrapU, wrapU, Int.tmod_eq_emod_of_nonneg (by omega)]
 unfold hd; omega
def bit (b : Bool) (v : Int) : Int := if b then v else 0
theorem ret_int {k : IntKind} {a b : Int} (h : a = b) : Ending.returned (.int k a) = .returned (.int k b) := by rw [h]
theorem ret_bool {a b : Bool} (h : a = b) : Ending.returned (.bool a) = .returned (.bool b) := by rw [h]
theorem join_any (i g : Int) (w : World) :
  Calls Tryz.prog 73 #[.int .i64 i, .int .u64 g] w fun e w' => e = .returned (.int .u64 (hd i g)) ∧ w' = w := by
 go_enter Tryz.func73, Tryz.ntmps73
 go_wp2
 go_ret
 exact ⟨ret_int (join_eq i g), rfl⟩
theorem tagged_any (i g : Int) (w : World) :
  Calls Tryz.prog 43 #[.int .i64 i, .int .u64 g] w fun e w' => e = .returned (.int .u64 (hd i g)) ∧ w' = w := by
 go_enter Tryz.func43, Tryz.ntmps43
 go_wp2_with (go_at_call 73; refine (join_any _ _ _).mono ?_; rintro e w' ⟨rfl, rfl⟩)
 go_ret
 exact ⟨rfl, rfl⟩
theorem wrap64_low (h : Int) (h0 : 0 ≤ h) (h1 : h < 18446744073709551616) : wrap64 (bits .and .u64 h 4294967295) = h % 4294967296 := by
 rw [and_low h h0 h1]; unfold wrap64; omega
theorem index_any (h : Int) (h0 : 0 ≤ h) (h1 : h < 18446744073709551616) (w : World) :
  Calls Tryz.prog 113 #[.int .u64 h] w fun e w' => e = .returned (.int .i64 (h % 4294967296)) ∧ w' = w := by
 go_enter Tryz.func113, Tryz.ntmps113
 go_wp2
 go_ret
 exact ⟨ret_int (wrap64_low h h0 h1), rfl⟩
theorem index_ref (h : Int) (h0 : 0 ≤ h) (h1 : h < 18446744073709551616) (w : World) :
  Calls Tryz.prog 87 #[.int .u64 h] w fun e w' => e = .returned (.int .i64 (h % 4294967296)) ∧ w' = w := by
 go_enter Tryz.func87, Tryz.ntmps87
 go_wp2
 go_ret
 exact ⟨rfl, rfl⟩
theorem gen_any (h : Int) (h0 : 0 ≤ h) (h1 : h < 18446744073709551616) (w : World) :
  Calls Tryz.prog 99 #[.int .u64 h] w fun e w' => e = .returned (.int .u64 (h / 4294967296)) ∧ w' = w := by
 go_enter Tryz.func99, Tryz.ntmps99
 go_wp2
 go_ret
 exact ⟨rfl, rfl⟩
theorem gen_ref (h : Int) (h0 : 0 ≤ h) (h1 : h < 18446744073709551616) (w : World) :
  Calls Tryz.prog 90 #[.int .u64 h] w fun e w' => e = .returned (.int .u64 (h / 4294967296)) ∧ w' = w := by
 go_enter Tryz.func90, Tryz.ntmps90
 go_wp2
 go_ret
 exact ⟨rfl, rfl⟩
theorem isColour_any (c : Int) (w : World) :
  Calls Tryz.prog 134 #[.int .i64 c] w fun e w' => e = .returned (.bool (c == 0 || c == 1)) ∧ w' = w := by
 by_cases hc : c = 0
 ·subst hc
  go_enter Tryz.func134, Tryz.ntmps134
  go_wp2
  go_ret
  exact ⟨rfl, rfl⟩
 ·have hb : (c == 0) = false := beq_eq_false_iff_ne.2 hc
  go_enter Tryz.func134, Tryz.ntmps134
  go_wp2
  go_ret
  exact ⟨ret_bool (by simp [hb]), rfl⟩
theorem bitIf_any (b : Bool) (v : Int) (w : World) :
  Calls Tryz.prog 135 #[.bool b, .int .u64 v] w fun e w' => e = .returned (.int .u64 (bit b v)) ∧ w' = w := by
 cases b
 ·go_enter Tryz.func135, Tryz.ntmps135
  go_wp2
  go_ret
  exact ⟨rfl, rfl⟩
 ·go_enter Tryz.func135, Tryz.ntmps135
  go_wp2
  go_ret
  exact ⟨rfl, rfl⟩
def hasB (x v : Int) : Bool := x / v % 2 == 1
def numB (x v : Int) : Int := x / v % 2
theorem ret_two {k l : IntKind} {a b c d : Int} (h : a = b) (h' : c = d) : Ending.returned (.tuple #[.int k a, .int l c]) = .returned (.tuple #[.int k b, .int l d]) := by rw [h, h']
def packOk (age gen c : Int) : Prop := (c = 0 ∨ c = 1) ∧ 0 ≤ age ∧ age ≤ 255 ∧ gen ≤ 4294967295
def ownB (live : Bool) (c : Int) : Bool := if live then c == 1 else !(c == 1)
def packW (used own final taken : Bool) (age gen : Int) : Int := bit used 1 + bit own 2 + bit final 4 + bit taken 8 + age * 256 + gen * 4294967296
theorem or_bits (u o f t : Bool) : bits .or .u64 (bits .or .u64 (bits .or .u64 (bit u 1) (bit o 2)) (bit f 4)) (bit t 8) = bit u 1 + bit o 2 + bit f 4 + bit t 8 := by
 rw [or1 (bit u 1) (bit o 2) (by cases u <;> simp [bit]) (by cases u <;> simp [bit]) (by cases o <;> simp [bit]) (by cases o <;> simp [bit]) (by cases o <;> simp [bit])]
 rw [or2 _ (bit f 4) (by cases u <;> cases o <;> simp [bit]) (by cases u <;> cases o <;> simp [bit]) (by cases f <;> simp [bit]) (by cases f <;> simp [bit]) (by cases f <;> simp [bit])]
 rw [or3 _ (bit t 8) (by cases u <;> cases o <;> cases f <;> simp [bit]) (by cases u <;> cases o <;> cases f <;> simp [bit]) (by cases t <;> simp [bit]) (by cases t <;> simp [bit]) (by cases t <;> simp [bit])]
theorem bits_lt (u o f t : Bool) : 0 ≤ bit u 1 + bit o 2 + bit f 4 + bit t 8 ∧ bit u 1 + bit o 2 + bit f 4 + bit t 8 < 16 := by
 cases u <;> cases o <;> cases f <;> cases t <;> simp [bit]
theorem pack_eq (u o f t : Bool) (age gen : Int) (ha0 : 0 ≤ age) (ha1 : age ≤ 255) (hg0 : 0 ≤ gen) (hg1 : gen ≤ 4294967295) :
  bits .or .u64 (bits .or .u64 (bits .or .u64 (bits .or .u64 (bits .or .u64 (bit u 1) (bit o 2)) (bit f 4)) (bit t 8)) (age * 256)) (gen * 4294967296) = packW u o f t age gen := by
 have hb := bits_lt u o f t
 rw [or_bits, or8 _ (age * 256) (by omega) (by omega) (by omega) (by omega) (by omega), or32 _ (gen * 4294967296) (by omega) (by omega) (by omega) (by omega) (by omega)]
 rfl
theorem below_box (w : World) (o : Obj) (n : Nat) : Below w.heap.size w ((w.alloc o).drewN n) := below_drewN ((Below.refl _ _).alloc (Nat.le_refl _) _) n
def packB (age gen c : Int) : Bool := (c == 0 || c == 1) && decide (0 ≤ age) && decide (age ≤ 255) && decide (gen ≤ 4294967295)
def packV (used live final taken : Bool) (age gen c : Int) : Int := if packB age gen c then packW used (ownB live c) final taken age gen else 0
def packE (age gen c : Int) : Int := if packB age gen c then 0 else 10
def momB (p c r : Int) : Bool := decide (0 ≤ p) && decide (p ≤ 4) && (c == 0 || c == 1) && decide (r < 72057594037927936)
def momV (p c r : Int) : Int := if momB p c r then p + c * 8 + r * 256 else 0
def momE (p c r : Int) : Int := if momB p c r then 0 else 10
def obj (used live final taken : Bool) (age gen link next : Int) : Value :=
 .agg #[.bool used, .bool live, .bool final, .bool taken, .int .i64 age, .int .u64 gen, .int .u64 link, .int .u64 next, .slice none 0 0]
end
section
theorem bump_any (t i : Int) (h0 : 0 ≤ t) (h1 : t < 18446744073709551616) (w : World) :
  Calls Tryz.prog 140 #[.int .u64 t, .int .i64 i] w fun e w' => e = .returned (.int .u64 (hd i (t / 4294967296 + 1))) ∧ w' = w := by
 go_enter Tryz.func140, Tryz.ntmps140
 go_wp2_with (first | (go_at_call 99; refine (gen_any _ h0 h1 _).mono ?_; rintro e w' ⟨rfl, rfl⟩) | (go_at_call 43; refine (tagged_any _ _ _).mono ?_; rintro e w' ⟨rfl, rfl⟩))
 go_ret
 exact ⟨rfl, rfl⟩
theorem handle_ref (i g : Int) (h0 : 0 ≤ g) (h1 : g < 18446744073709551616) (w : World) :
  Calls Tryz.prog 91 #[.int .i64 i, .int .u64 g] w fun e w' => e = .returned (.int .u64 (hd i g)) ∧ w' = w := by
 go_enter Tryz.func91, Tryz.ntmps91
 go_wp2
 go_ret
 exact ⟨ret_int (ref_eq i g), rfl⟩
theorem tagged_ref (i g : Int) (h0 : 0 ≤ g) (h1 : g < 18446744073709551616) (w : World) :
  Calls Tryz.prog 112 #[.int .i64 i, .int .u64 g] w fun e w' => e = .returned (.int .u64 (hd i g)) ∧ w' = w := by
 go_enter Tryz.func112, Tryz.ntmps112
 go_wp2_with (go_at_call 91; refine (handle_ref _ _ h0 h1 _).mono ?_; rintro e w' ⟨rfl, rfl⟩)
 go_ret
 exact ⟨rfl, rfl⟩
theorem bump_ref (t i : Int) (h0 : 0 ≤ t) (h1 : t < 18446744073709551616) (w : World) :
  Calls Tryz.prog 89 #[.int .u64 t, .int .i64 i] w fun e w' => e = .returned (.int .u64 (hd i (t / 4294967296 + 1))) ∧ w' = w := by
 go_enter Tryz.func89, Tryz.ntmps89
 go_wp2_with (first | (go_at_call 90; refine (gen_ref _ h0 h1 _).mono ?_; rintro e w' ⟨rfl, rfl⟩) | (go_at_call 112; refine (tagged_ref _ _ (by omega) (by omega) _).mono ?_; rintro e w' ⟨rfl, rfl⟩))
 go_ret
 exact ⟨rfl, rfl⟩
def whiteB (x g c : Int) : Bool := hasB x 1 && (x / 4294967296 == g) && (numB x 2 != c)
end
section
namespace Hp
def idx (x : Int) : Int := x % 4294967296
def bmp (t i : Int) : Int := hd i (t / 4294967296 + 1)
theorem idx_lo (x : Int) : 0 ≤ idx x := by unfold idx; omega
theorem idx_hi (x : Int) : idx x < 4294967296 := by unfold idx; omega
theorem bmp_lo (t i : Int) : 0 ≤ bmp t i := hd_lo _ _
theorem bmp_hi (t i : Int) : bmp t i ≤ 18446744073709551615 := by have := hd_hi i (t / 4294967296 + 1); unfold bmp; omega
def there (sh : Shp) (i : Int) : Prop := 1 ≤ i ∧ i ≤ sh.a
instance (sh : Shp) (i : Int) : Decidable (there sh i) := by unfold there; infer_instance
def headAt (sh : Shp) (i : Int) : Int := if there sh i then 8 + sh.c + sh.c * sh.d + sh.e + (i - 1) * (3 + sh.b) else -1
def linkAt (sh : Shp) (i : Int) : Int := if there sh i then 8 + sh.c + sh.c * sh.d + sh.e + (i - 1) * (3 + sh.b) + 1 else -1
def slotIn (sh : Shp) (i s : Int) : Prop := there sh i ∧ 0 ≤ s ∧ s < sh.b
instance (sh : Shp) (i s : Int) : Decidable (slotIn sh i s) := by unfold slotIn; infer_instance
def slotAt (sh : Shp) (i s : Int) : Int := if slotIn sh i s then 8 + sh.c + sh.c * sh.d + sh.e + (i - 1) * (3 + sh.b) + 3 + s else -1
theorem had_bounds {n : Nat} {f : Nat → Int} (hf : ∀ i, i < n → 0 ≤ f i ∧ f i ≤ 18446744073709551615) (q : Stp) : 0 ≤ (stepOf n f q).had ∧ (stepOf n f q).had ≤ 18446744073709551615 := by
 unfold stepOf
 split
 ·rename_i h
  exact hf _ (by omega)
 ·exact ⟨Int.le_refl 0, by show (0 : Int) ≤ 18446744073709551615; decide⟩
end Hp
end
end Go.Proofs.YtppgbndoijppnaaGreat
