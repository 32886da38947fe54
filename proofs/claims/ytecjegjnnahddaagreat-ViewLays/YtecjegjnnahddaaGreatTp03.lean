/-
  Lemmas: Lb0, Lb, ShapeN0, VwN, WordV, VwM.
-/
import Derived.Test.YtecjegjnnahddaaGreatRows
import Derived.WalkKit
import Derived.WalkSpells
import Derived.WalkLawsBesides
import Derived.Deep.OwnRows
import Derived.Deep.RegionWith
import Derived.Deep.RegionHeld
import Derived.Deep.Light
import Derived.Laws.Bits64
import Derived.Deep.QuietTactic
import Derived.BigQuiet
import Derived.Deep.CutBlock
import Derived.Deep.CutRange
import Derived.Maps.AppendAt
import Derived.Laws.CopyOwn
import Derived.Laws.AppendOwnNone
/-
  What texts without a machine of tasks share: rows of words, what is seen, new rows.
-/
namespace Go.Proofs.YtecjegjnnahddaaGreat
open Go.RowKit
set_option linter.unusedVariables false
set_option maxRecDepth 20000
set_option linter.unusedSimpArgs false
set_option linter.unnecessarySimpa false

theorem hide {p : Prop} (h : p) : Hid p := h
def putF (f : Nat → Int) (k : Nat) (v : Int) : Nat → Int := fun j => if j = k then v else f j
theorem putF_self {f : Nat → Int} (k : Nat) : putF f k (f k) = f := by
  funext j; unfold putF; split
  · subst_vars; rfl
  · rfl
theorem grown_refl (w : World) (r : Option Nat) : w.grownBy w r := ⟨rfl, rfl, rfl, Nat.le_refl _, fun _ _ _ => rfl⟩
theorem grown_alloc {w w' : World} {r : Option Nat} (h : w.grownBy w' r) (o : Obj) : w.grownBy (w'.alloc o) r :=
  ⟨h.os, h.tape, h.output, by have := h.size; simp; omega, fun k hk hr => (Below.heap_alloc _ _ _ (Nat.lt_of_lt_of_le hk h.size)).trans (h.block k hk hr)⟩
theorem grown_drew {w w' : World} {r : Option Nat} (h : w.grownBy w' r) : w.grownBy w'.drew r := ⟨h.os, h.tape, h.output, h.size, h.block⟩
theorem grown_setCell {w w' : World} {r : Option Nat} (h : w.grownBy w' r) (a : Addr) (ha : some a.block = r ∨ w.heap.size ≤ a.block) (u : Value) : w.grownBy (w'.setCell a u) r :=
  ⟨h.os, h.tape, h.output, by have := h.size; simp; omega, fun k hk hr => (Below.heap_setCell _ _ _ _ (by rintro rfl; rcases ha with ha | ha; exact hr ha; omega)).trans (h.block k hk hr)⟩
theorem grown_trans {a b c : World} {r : Option Nat} (h : a.grownBy b r) (k : b.grownBy c r) : a.grownBy c r :=
  ⟨k.os.trans h.os, k.tape.trans h.tape, k.output.trans h.output, Nat.le_trans h.size k.size, fun i hi hr => (k.block i (Nat.lt_of_lt_of_le hi h.size) hr).trans (h.block i hi hr)⟩
theorem grown_none {a b : World} (h : a.grownBy b none) (r : Option Nat) : a.grownBy b r := ⟨h.os, h.tape, h.output, h.size, fun i hi _ => h.block i hi (by simp)⟩
theorem grown_below {a b : World} {r : Nat} {B : Nat} (h : a.grownBy b (some r)) (hB : B ≤ a.heap.size) (hr : B ≤ r) : Below B a b :=
  ⟨h.os, h.tape, h.output, h.size, fun k hk => h.block k (by omega) (by simp; omega)⟩
theorem below_grown {a b : World} (h : Below a.heap.size a b) (r : Option Nat) : a.grownBy b r := ⟨h.os, h.tape, h.output, h.size, fun k hk _ => h.block k hk⟩
/-- Block g is a row of cap words' cells, the first n of them the words f: what a slice of the call's own lies on. -/
def IsRow (w : World) (g n cap : Nat) (f : Nat → Int) : Prop := n ≤ cap ∧ cap ≤ maxLen ∧ (∃ c : Nat → Value, w.rowIs g 24 cap c ∧ ∀ i, i < n → c i = .int .u64 (f i)) ∧ ∀ i, i < n → 0 ≤ f i ∧ f i ≤ 18446744073709551615

namespace IsRow
variable {w w' : World} {g n cap : Nat} {f : Nat → Int}
theorem cell (h : IsRow w g n cap f) {i : Nat} (hi : i < n) : w.cell? ⟨g, i, none⟩ = some (.int .u64 (f i)) := by
  obtain ⟨h1, _, ⟨c, hr, hc⟩, _⟩ := h
  rw [hr.cell (by omega), hc i hi]
theorem frozen (h : IsRow w g n cap f) (i : Nat) : w.frozen? ⟨g, i, none⟩ = false := by
  obtain ⟨h1, _, ⟨c, hr, hc⟩, _⟩ := h
  exact hr.frozen i
theorem lt (h : IsRow w g n cap f) : g < w.heap.size := by
  obtain ⟨h1, _, ⟨c, hr, hc⟩, _⟩ := h
  exact hr.lt
theorem word (h : IsRow w g n cap f) {i : Nat} (hi : i < n) : 0 ≤ f i ∧ f i ≤ 18446744073709551615 := h.2.2.2 i hi
theorem alloc (h : IsRow w g n cap f) (o : Obj) : IsRow (w.alloc o) g n cap f := by
  obtain ⟨h1, h2, ⟨c, hr, hc⟩, h3⟩ := h
  exact ⟨h1, h2, ⟨c, hr.alloc o, hc⟩, h3⟩
theorem block (h : IsRow w g n cap f) (e : w'.heap[g]? = w.heap[g]?) : IsRow w' g n cap f := by
  obtain ⟨h1, h2, ⟨c, hr, hc⟩, h3⟩ := h
  exact ⟨h1, h2, ⟨c, hr.of_block e, hc⟩, h3⟩
theorem grown {r : Option Nat} (h : IsRow w g n cap f) (hg : w.grownBy w' r) (hr : some g ≠ r) : IsRow w' g n cap f := h.block (hg.block _ h.lt hr)
theorem below (h : IsRow w g n cap f) (hg : Below w.heap.size w w') : IsRow w' g n cap f := h.block (hg.block _ h.lt)
theorem set (h : IsRow w g n cap f) (k : Nat) (v : Int) (hv : 0 ≤ v ∧ v ≤ 18446744073709551615) : IsRow (w.setCell ⟨g, k, none⟩ (.int .u64 v)) g n cap (putF f k v) := by
  obtain ⟨h1, h2, ⟨c, hr, hc⟩, h3⟩ := h
  refine ⟨h1, h2, ⟨_, hr.set k _, fun i hi => ?_⟩, fun i hi => ?_⟩
  · simp only [putF]; split
    · rfl
    · exact hc i hi
  · simp only [putF]; split
    · exact hv
    · exact h3 i hi
theorem setOther (h : IsRow w g n cap f) {a : Addr} (ha : g ≠ a.block) (v : Value) : IsRow (w.setCell a v) g n cap f := h.block (Below.heap_setCell _ _ _ _ ha)
theorem congr {f' : Nat → Int} (h : IsRow w g n cap f) (e : ∀ i, i < n → f i = f' i) : IsRow w g n cap f' := by
  obtain ⟨h1, h2, ⟨c, hr, hc⟩, h3⟩ := h
  exact ⟨h1, h2, ⟨c, hr, fun i hi => by rw [← e i hi]; exact hc i hi⟩, fun i hi => by rw [← e i hi]; exact h3 i hi⟩
/-- What 'append' leaves, as such a row. -/
theorem of_owns {base : Nat} (h : w.ownsRow base 24 1 (.slice (some ⟨g, 0, none⟩) n cap) n ((List.range n).map fun i => Value.int .u64 (f i))) (hf : ∀ i, i < n → 0 ≤ f i ∧ f i ≤ 18446744073709551615) : IsRow w g n cap f := by
  obtain ⟨hl, h | ⟨g', cap', cur, hv, hb, hg, hc, hm, hsz, ht⟩⟩ := h
  · cases h.1
  · cases hv
    refine ⟨hc, hm, ⟨fun i => cur[i]?.getD default, ⟨cur, hg, by omega, fun i hi => ?_⟩, fun i hi => ?_⟩, hf⟩
    · have : i < cur.size := by omega
      simp [this]
    · have h1 : cur[i]? = (cur.toList.take (n * 1))[i]? := by
        rw [List.getElem?_take, if_pos (by omega)]; simp
      show cur[i]?.getD default = _
      rw [h1, ht]; simp [hi]
end IsRow

theorem wrap_u64 (x : Int) : IntKind.u64.wrap x = x % 18446744073709551616 := by
  simp [IntKind.wrap, IntKind.signed, IntKind.bits]
/-- A slice at ao of n words, readable below block B: word j is 'f j'. -/
def Sees (w : World) (B : Nat) (ao : Option Addr) (n : Nat) (f : Nat → Int) : Prop :=
  ∀ j, j < n → ∃ b off, ao = some ⟨b, off, none⟩ ∧ b < B ∧ w.cell? ⟨b, off + j, none⟩ = some (.int .u64 (f j))
theorem Sees.below {w w' : World} {B C : Nat} {ao : Option Addr} {n : Nat} {f : Nat → Int} (h : Sees w B ao n f) (hb : Below C w w') (hBC : B ≤ C) : Sees w' B ao n f :=
  fun j hj => by obtain ⟨b, off, e, hl, hc⟩ := h j hj; exact ⟨b, off, e, hl, (hb.cell (p := ⟨b, off + j, none⟩) (by show b < C; omega)).trans hc⟩
theorem Sees.mono {w : World} {B C : Nat} {ao : Option Addr} {n : Nat} {f : Nat → Int} (h : Sees w B ao n f) (hBC : B ≤ C) : Sees w C ao n f :=
  fun j hj => by obtain ⟨b, off, e, hl, hc⟩ := h j hj; exact ⟨b, off, e, by omega, hc⟩
theorem IsRow.sees {w : World} {g n cap : Nat} {f : Nat → Int} (h : IsRow w g n cap f) : Sees w w.heap.size (some ⟨g, 0, none⟩) n f :=
  fun j hj => ⟨g, 0, rfl, h.lt, by simpa using h.cell hj⟩
theorem info46 : (Tryz.prog.info? 24).map (fun i => (i.zero.map Value.cells, i.size, i.bytes)) = some (some #[.int .u64 0], 1, 8) := by kernel_rfl
/-- 'make([]T, n)' as one equation. -/
def lrow (l : List Value) : Nat → Value := fun i => l[i]?.getD default
theorem World.rowIs_alloc' (w : World) (vs : Array Value) (t : TypeId) (n : Nat) (hn : vs.size = n) {f : Nat → Value} (hc : ∀ i, i < n → vs[i]? = some (f i)) : (w.alloc (.cells vs t)).rowIs w.heap.size t n f := by
  subst hn
  exact World.rowIs_alloc w vs t f hc
theorem rowL_alloc (w : World) (l : List Value) (t : TypeId) {n : Nat} (hn : l.length = n) : (w.alloc (.cells l.toArray t)).rowIs w.heap.size t n (lrow l) := World.rowIs_alloc' w l.toArray t n (by simpa using hn) (fun i hi => by simp [lrow, hn, hi])
theorem below_drewN {B : Nat} {a w : World} (h : Below B a w) (m : Nat) : Below B a (w.drewN m) := ⟨h.os, h.tape, h.output, h.size, h.block⟩
theorem below_of_grown_none {a b : World} (h : a.grownBy b none) (B : Nat) (hB : B ≤ a.heap.size) : Below B a b := ⟨h.os, h.tape, h.output, h.size, fun k hk => h.block k (by omega) (by simp)⟩
end Go.Proofs.YtecjegjnnahddaaGreat

/-
  What texts without a machine of tasks share; the document's comparison of words.
-/
namespace Go.Proofs.YtecjegjnnahddaaGreat
open Go.RowKit
set_option linter.unusedVariables false
set_option maxRecDepth 20000
set_option linter.unusedSimpArgs false
set_option linter.unnecessarySimpa false
set_option maxHeartbeats 800000 in
theorem same_words {w : World} {B B' : Nat} {ao ao' : Option Addr} {n cap cap' : Nat} {f f' : Nat → Int} (h : Sees w B ao n f) (h' : Sees w B' ao' n f') (e : ∀ i, i < n → f i = f' i) (hn : n ≤ 9223372036854775807) :
    Calls Tryz.prog 8 #[.slice ao n cap, .slice ao' n cap'] w fun e w' => e = .returned (.bool true) ∧ ∃ m, w' = w.drewN m := by
  have H := hide h
  have H' := hide h'
  clear h h'
  go_enter Tryz.func8, Tryz.ntmps8
  go_wp2_with fail
  go_loopw [5] (fun i wr => ∃ k m : Nat, k ≤ n ∧ i = .int .i64 k ∧ wr = w.drewN m) (fun i _ => n - (intOf i).toNat)
  case atStart => exact ⟨0, 0, Nat.zero_le _, rfl, rfl⟩
  case round =>
    obtain ⟨k, m, hk, rfl, rfl⟩ := hrel
    by_cases hlt : k < n
    · obtain ⟨b, off, rfl, hbl, hcc⟩ := H.out k hlt
      obtain ⟨b', off', rfl, hbl', hcc'⟩ := H'.out k hlt
      have he := e k hlt
      have hkn : (k : Int) < (n : Int) := by omega
      go_wp2
      go_quiet (fail)
      go_wp2
      go_roundw
      case rel => exact ⟨k + 1, _, by omega, by go_num, rfl⟩
      case measure => simp [intOf]; omega
    · go_wp2
      go_ret
      exact ⟨rfl, _, rfl⟩
end Go.Proofs.YtecjegjnnahddaaGreat

/-
  Shape, without a program: a right shape's five numbers, and how many words its memory has.
-/
namespace Go.Proofs.YtecjegjnnahddaaGreat
open Go
set_option linter.unusedVariables false
set_option linter.unusedSimpArgs false
set_option maxRecDepth 20000
namespace Shape

/-- A right shape's five numbers. -/
structure Sh where
  o : Nat
  s : Nat
  h : Nat
  r : Nat
  k : Nat
structure Sh.Ok (x : Sh) : Prop where
  o1 : 1 ≤ x.o
  o2 : x.o ≤ 64
  s2 : x.s ≤ 4
  h1 : 1 ≤ x.h
  h2 : x.h ≤ 7
  r1 : 1 ≤ x.r
  r2 : x.r ≤ 8
  k2 : x.k ≤ 16

def bR (x : Sh) : Nat := 8 + x.h
def bK (x : Sh) : Nat := bR x + x.h * x.r
def bO (x : Sh) : Nat := bK x + x.k
def ow (x : Sh) : Nat := 3 + x.s
def size (x : Sh) : Nat := bO x + x.o * ow x

theorem sizes {x : Sh} (H : x.Ok) : x.h * x.r ≤ 56 ∧ x.o * ow x ≤ 448 ∧ 1 ≤ x.h * x.r ∧ 3 ≤ x.o * ow x ∧ size x ≤ 600 := by
  have a : x.h * x.r ≤ 7 * 8 := Nat.mul_le_mul H.h2 H.r2
  have b : x.o * ow x ≤ 64 * 7 := Nat.mul_le_mul H.o2 (by unfold ow; have := H.s2; omega)
  have c : 1 * 1 ≤ x.h * x.r := Nat.mul_le_mul H.h1 H.r1
  have d : 1 * 3 ≤ x.o * ow x := Nat.mul_le_mul H.o1 (by unfold ow; omega)
  have := H.h2
  have := H.k2
  unfold size bO bK bR
  omega
end Shape
end Go.Proofs.YtecjegjnnahddaaGreat

/-
  View, pure: a list as it is seen; the view of a memory; what is sound.
-/
namespace Go.Proofs.YtecjegjnnahddaaGreat
set_option linter.unusedVariables false
set_option linter.unusedSimpArgs false
namespace Vw
open Shape

/-- Along the numbers: so long as the number is one of 1 to o and not seen yet. -/
def al (o : Nat) (nx : Int → Int) : Nat → List Int → Int → List Int × Int
  | 0, seen, cur => (seen, cur)
  | k + 1, seen, cur => if 1 ≤ cur ∧ cur ≤ (o : Int) ∧ ¬ cur ∈ seen then al o nx k (seen ++ [cur]) (nx cur) else (seen, cur)

structure Sn (o : Nat) (seen : List Int) : Prop where
  nodup : seen.Nodup
  range : ∀ c ∈ seen, 1 ≤ c ∧ c ≤ (o : Int)

theorem Sn.nil (o : Nat) : Sn o [] := ⟨List.nodup_nil, by simp⟩
theorem Sn.len : ∀ {o : Nat} {seen : List Int}, Sn o seen → seen.length ≤ o
  | 0, [], h => Nat.le_refl _
  | 0, c :: l, h => by have := h.range c (by simp); omega
  | o + 1, seen, h => by
    by_cases hm : ((o + 1 : Nat) : Int) ∈ seen
    · have h1 : Sn o (seen.erase ((o + 1 : Nat) : Int)) := by
        refine ⟨h.nodup.erase _, fun c hc => ?_⟩
        have h2 := (List.Nodup.mem_erase_iff h.nodup).1 hc
        have h3 := h.range c h2.2
        have h4 := h2.1
        omega
      have h5 := h1.len
      rw [List.length_erase_of_mem hm] at h5
      omega
    · have h1 : Sn o seen := by
        refine ⟨h.nodup, fun c hc => ?_⟩
        have h3 := h.range c hc
        have h4 : ¬ c = ((o + 1 : Nat) : Int) := fun e => hm (e ▸ hc)
        omega
      have h5 := h1.len
      omega
theorem Sn.more {o : Nat} {seen : List Int} {c : Int} (h : Sn o seen) (h1 : 1 ≤ c) (h2 : c ≤ (o : Int)) (h3 : ¬ c ∈ seen) : Sn o (seen ++ [c]) := by
  refine ⟨?_, ?_⟩
  · rw [List.nodup_append]
    refine ⟨h.nodup, by simp, ?_⟩
    intro a ha b hb e
    simp at hb
    subst hb
    subst e
    exact h3 ha
  · intro a ha
    rcases List.mem_append.1 ha with ha | ha
    · exact h.range a ha
    · simp at ha; subst ha; exact ⟨h1, h2⟩
theorem al_stop (o : Nat) (nx : Int → Int) (k : Nat) {seen : List Int} {cur : Int} (h : ¬ (1 ≤ cur ∧ cur ≤ (o : Int) ∧ ¬ cur ∈ seen)) : al o nx k seen cur = (seen, cur) := by
  cases k with
  | zero => rfl
  | succ k => simp only [al]; rw [if_neg h]
theorem al_go {o : Nat} {nx : Int → Int} {seen : List Int} {cur : Int} (S : Sn o seen) (h : 1 ≤ cur ∧ cur ≤ (o : Int) ∧ ¬ cur ∈ seen) : al o nx (o - seen.length) seen cur = al o nx (o - (seen ++ [cur]).length) (seen ++ [cur]) (nx cur) := by
  have h1 := (S.more h.1 h.2.1 h.2.2).len
  simp at h1
  rw [show o - seen.length = (o - (seen ++ [cur]).length) + 1 from by simp; omega]
  simp only [al]
  rw [if_pos h]
theorem al_sn (o : Nat) (nx : Int → Int) : ∀ (k : Nat) (seen : List Int) (cur : Int), Sn o seen → Sn o (al o nx k seen cur).1
  | 0, seen, cur, h => h
  | k + 1, seen, cur, h => by
    simp only [al]
    split
    · rename_i h1
      exact al_sn o nx k _ _ (h.more h1.1 h1.2.1 h1.2.2)
    · exact h

structure Ob where
  us : Bool
  li : Bool
  fi : Bool
  ta : Bool
  ag : Int
  ge : Int
  lk : Int
  nx : Int
  ns : Nat
  sl : Nat → Int

/-- What a view tells. -/
structure Cv where
  ph : Int
  co : Int
  ro : Int
  na : Nat
  ac : Nat → Int
  nr : Nat
  rn : Nat → Nat
  rt : Nat → Nat → Int
  nw : Nat
  wk : Nat → Int
  no : Nat
  ob : Nat → Ob
  fr : List Int
  gr : List Int
  qu : List Int
  cn : Nat → Int

/-- The place of object j + 1. -/
def pO (x : Sh) (j : Nat) : Nat := bO x + j * ow x
def bitB (y v : Int) : Bool := y / v % 2 == 1
def obAt (x : Sh) (f : Nat → Int) (j : Nat) : Ob :=
  ⟨bitB (f (pO x j)) 1, f (pO x j) / 2 % 2 == f 0 / 8 % 2, bitB (f (pO x j)) 4, bitB (f (pO x j)) 8, f (pO x j) / 256 % 256, f (pO x j) / 4294967296, f (pO x j + 1), f (pO x j + 2), x.s, fun q => f (pO x j + (3 + q))⟩
/-- The number to which an object's word leads. -/
def nxt (x : Sh) (f : Nat → Int) (over : Nat) (c : Int) : Int := f (pO x (c.toNat - 1) + over) % 4294967296
def lst (x : Sh) (f : Nat → Int) (at' over : Nat) : List Int × Int := al x.o (nxt x f over) x.o [] (f at' % 4294967296)
def cv (x : Sh) (f : Nat → Int) : Cv :=
  ⟨f 0 % 8, f 0 / 8 % 2, f 0 / 256, x.h, fun i => f (8 + i), x.h, fun _ => x.r, fun j q => f (bR x + j * x.r + q), x.k, fun b => f (bK x + b), x.o, obAt x f, (lst x f 1 1).1, (lst x f 2 1).1, (lst x f 3 2).1, fun i => f (4 + i)⟩
end Vw
end Go.Proofs.YtecjegjnnahddaaGreat

/-
  Words: Index, Gen, Tagged, Parts, Unpack, the package's and the document's.
-/
namespace Go.Proofs.YtecjegjnnahddaaGreat
open Go.RowKit
set_option linter.unusedVariables false
set_option linter.unusedSimpArgs false
set_option maxRecDepth 20000


theorem wrapU (n : Int) : IntKind.u64.wrap n = n % 18446744073709551616 := IntKind.wrap_u64 n

theorem and_low (x : Int) (h0 : 0 ≤ x) (h1 : x < 18446744073709551616) : bits .and .u64 x 4294967295 = x % 4294967296 := by
  rw [u64_and x 4294967295 h0 h1 (by omega) (by omega)]
  have e : x.toNat &&& (4294967295 : Int).toNat = x.toNat % 4294967296 := Nat.and_two_pow_sub_one_eq_mod x.toNat 32
  rw [e]; omega

theorem and7 (x : Int) (h0 : 0 ≤ x) (h1 : x < 18446744073709551616) : bits .and .u64 x 7 = x % 8 := by
  rw [u64_and x 7 h0 h1 (by omega) (by omega)]
  have e : x.toNat &&& (7 : Int).toNat = x.toNat % 8 := Nat.and_two_pow_sub_one_eq_mod x.toNat 3
  rw [e]; omega

theorem and1 (x : Int) (h0 : 0 ≤ x) (h1 : x < 18446744073709551616) : bits .and .u64 x 1 = x % 2 := by
  rw [u64_and x 1 h0 h1 (by omega) (by omega)]
  have e : x.toNat &&& (1 : Int).toNat = x.toNat % 2 := Nat.and_two_pow_sub_one_eq_mod x.toNat 1
  rw [e]; omega

theorem and2 (x : Int) (h0 : 0 ≤ x) (h1 : x < 18446744073709551616) : bits .and .u64 x 2 = x / 2 % 2 * 2 := by
  rw [u64_and x 2 h0 h1 (by omega) (by omega)]
  have e : x.toNat &&& (2 : Int).toNat = x.toNat / 2 % 2 * 2 := nat_bit 1 x.toNat
  rw [e]; omega

theorem and4 (x : Int) (h0 : 0 ≤ x) (h1 : x < 18446744073709551616) : bits .and .u64 x 4 = x / 4 % 2 * 4 := by
  rw [u64_and x 4 h0 h1 (by omega) (by omega)]
  have e : x.toNat &&& (4 : Int).toNat = x.toNat / 4 % 2 * 4 := nat_bit 2 x.toNat
  rw [e]; omega

theorem and8 (x : Int) (h0 : 0 ≤ x) (h1 : x < 18446744073709551616) : bits .and .u64 x 8 = x / 8 % 2 * 8 := by
  rw [u64_and x 8 h0 h1 (by omega) (by omega)]
  have e : x.toNat &&& (8 : Int).toNat = x.toNat / 8 % 2 * 8 := nat_bit 3 x.toNat
  rw [e]; omega

theorem nat_shiftmask (x m i : Nat) : x &&& (m * 2 ^ i) = (x / 2 ^ i &&& m) * 2 ^ i := by
  apply Nat.eq_of_testBit_eq
  intro j
  rw [Nat.testBit_and, Nat.testBit_mul_two_pow, Nat.testBit_mul_two_pow, Nat.testBit_and, Nat.testBit_div_two_pow]
  by_cases h : i ≤ j
  · simp [h]
  · simp [h]

theorem andAge (x : Int) (h0 : 0 ≤ x) (h1 : x < 18446744073709551616) : bits .and .u64 x 65280 = x / 256 % 256 * 256 := by
  rw [u64_and x 65280 h0 h1 (by omega) (by omega)]
  have e1 : x.toNat &&& (255 * 2 ^ 8) = (x.toNat / 2 ^ 8 &&& 255) * 2 ^ 8 := nat_shiftmask x.toNat 255 8
  have e2 : x.toNat / 2 ^ 8 &&& 255 = x.toNat / 2 ^ 8 % 256 := Nat.and_two_pow_sub_one_eq_mod (x.toNat / 2 ^ 8) 8
  have e : x.toNat &&& (65280 : Int).toNat = x.toNat / 256 % 256 * 256 := by
    show x.toNat &&& (255 * 2 ^ 8) = _
    rw [e1, e2]
  rw [e]; omega

theorem or_join (i : Nat) (a b : Int) (ha0 : 0 ≤ a) (ha1 : a.toNat < 2 ^ i) (ha2 : a < 18446744073709551616) (hb0 : 0 ≤ b) (hb1 : b.toNat % 2 ^ i = 0) (hb2 : b < 18446744073709551616) : bits .or .u64 a b = a + b := by
  rw [u64_or a b ha0 ha2 hb0 hb2, Nat.or_comm, nat_join i b.toNat a.toNat hb1 ha1]
  omega

theorem or32 (a b : Int) (ha0 : 0 ≤ a) (ha1 : a < 4294967296) (hb0 : 0 ≤ b) (hb1 : b % 4294967296 = 0) (hb2 : b < 18446744073709551616) : bits .or .u64 a b = a + b :=
  or_join 32 a b ha0 (by omega) (by omega) hb0 (by omega) hb2
theorem or8 (a b : Int) (ha0 : 0 ≤ a) (ha1 : a < 256) (hb0 : 0 ≤ b) (hb1 : b % 256 = 0) (hb2 : b < 18446744073709551616) : bits .or .u64 a b = a + b :=
  or_join 8 a b ha0 (by omega) (by omega) hb0 (by omega) hb2
theorem or3 (a b : Int) (ha0 : 0 ≤ a) (ha1 : a < 8) (hb0 : 0 ≤ b) (hb1 : b % 8 = 0) (hb2 : b < 18446744073709551616) : bits .or .u64 a b = a + b :=
  or_join 3 a b ha0 (by omega) (by omega) hb0 (by omega) hb2
theorem or2 (a b : Int) (ha0 : 0 ≤ a) (ha1 : a < 4) (hb0 : 0 ≤ b) (hb1 : b % 4 = 0) (hb2 : b < 18446744073709551616) : bits .or .u64 a b = a + b :=
  or_join 2 a b ha0 (by omega) (by omega) hb0 (by omega) hb2
theorem or1 (a b : Int) (ha0 : 0 ≤ a) (ha1 : a < 2) (hb0 : 0 ≤ b) (hb1 : b % 2 = 0) (hb2 : b < 18446744073709551616) : bits .or .u64 a b = a + b :=
  or_join 1 a b ha0 (by omega) (by omega) hb0 (by omega) hb2

/-- The word whose lower half is i and whose upper half is g, both modulo 2^32. -/
def hd (i g : Int) : Int := i % 4294967296 + g % 4294967296 * 4294967296

theorem hd_lo (i g : Int) : 0 ≤ hd i g := by unfold hd; omega
theorem hd_hi (i g : Int) : hd i g < 18446744073709551616 := by unfold hd; omega

theorem join_eq (i g : Int) : bits .or .u64 (bits .and .u64 (IntKind.u64.wrap i) 4294967295) (IntKind.u64.wrap (g * 4294967296)) = hd i g := by
  rw [wrapU, wrapU, and_low _ (by omega) (by omega), or32 _ _ (by omega) (by omega) (by omega) (by omega) (by omega)]
  unfold hd; omega

theorem ref_eq (i g : Int) : IntKind.u64.wrap ((IntKind.u64.wrap i).tmod 4294967296 + g % 4294967296 * 4294967296) = hd i g := by
  rw [wrapU, wrapU, Int.tmod_eq_emod_of_nonneg (by omega)]
  unfold hd; omega

/-- A bool as a bit of that worth. -/
def bit (b : Bool) (v : Int) : Int := if b then v else 0
theorem bit_true (v : Int) : bit true v = v := rfl
theorem bit_false (v : Int) : bit false v = 0 := rfl




theorem ret_int {k : IntKind} {a b : Int} (h : a = b) : Ending.returned (.int k a) = .returned (.int k b) := by rw [h]
theorem ret_bool {a b : Bool} (h : a = b) : Ending.returned (.bool a) = .returned (.bool b) := by rw [h]

set_option maxHeartbeats 400000 in
theorem join_any (i g : Int) (w : World) :
    Calls Tryz.prog 65 #[.int .i64 i, .int .u64 g] w fun e w' => e = .returned (.int .u64 (hd i g)) ∧ w' = w := by
  go_enter Tryz.func65, Tryz.ntmps65
  go_wp2
  go_ret
  exact ⟨ret_int (join_eq i g), rfl⟩

set_option maxHeartbeats 400000 in
theorem tagged_any (i g : Int) (w : World) :
    Calls Tryz.prog 26 #[.int .i64 i, .int .u64 g] w fun e w' => e = .returned (.int .u64 (hd i g)) ∧ w' = w := by
  go_enter Tryz.func26, Tryz.ntmps26
  go_wp2_with (go_at_call 65; refine (join_any _ _ _).mono ?_; rintro e w' ⟨rfl, rfl⟩)
  go_ret
  exact ⟨rfl, rfl⟩

theorem wrap64_low (h : Int) (h0 : 0 ≤ h) (h1 : h < 18446744073709551616) : wrap64 (bits .and .u64 h 4294967295) = h % 4294967296 := by
  rw [and_low h h0 h1]; unfold wrap64; omega

set_option maxHeartbeats 400000 in
theorem index_any (h : Int) (h0 : 0 ≤ h) (h1 : h < 18446744073709551616) (w : World) :
    Calls Tryz.prog 100 #[.int .u64 h] w fun e w' => e = .returned (.int .i64 (h % 4294967296)) ∧ w' = w := by
  go_enter Tryz.func100, Tryz.ntmps100
  go_wp2
  go_ret
  exact ⟨ret_int (wrap64_low h h0 h1), rfl⟩

set_option maxHeartbeats 400000 in
theorem index_ref (h : Int) (h0 : 0 ≤ h) (h1 : h < 18446744073709551616) (w : World) :
    Calls Tryz.prog 76 #[.int .u64 h] w fun e w' => e = .returned (.int .i64 (h % 4294967296)) ∧ w' = w := by
  go_enter Tryz.func76, Tryz.ntmps76
  go_wp2
  go_ret
  exact ⟨rfl, rfl⟩

set_option maxHeartbeats 400000 in
theorem gen_any (h : Int) (h0 : 0 ≤ h) (h1 : h < 18446744073709551616) (w : World) :
    Calls Tryz.prog 99 #[.int .u64 h] w fun e w' => e = .returned (.int .u64 (h / 4294967296)) ∧ w' = w := by
  go_enter Tryz.func99, Tryz.ntmps99
  go_wp2
  go_ret
  exact ⟨rfl, rfl⟩

set_option maxHeartbeats 400000 in
theorem isColour_any (c : Int) (w : World) :
    Calls Tryz.prog 94 #[.int .i64 c] w fun e w' => e = .returned (.bool (c == 0 || c == 1)) ∧ w' = w := by
  by_cases hc : c = 0
  · subst hc
    go_enter Tryz.func94, Tryz.ntmps94
    go_wp2
    go_ret
    exact ⟨rfl, rfl⟩
  · have hb : (c == 0) = false := beq_eq_false_iff_ne.2 hc
    go_enter Tryz.func94, Tryz.ntmps94
    go_wp2
    go_ret
    exact ⟨ret_bool (by simp [hb]), rfl⟩

set_option maxHeartbeats 400000 in
theorem bitIf_any (b : Bool) (v : Int) (w : World) :
    Calls Tryz.prog 95 #[.bool b, .int .u64 v] w fun e w' => e = .returned (.int .u64 (bit b v)) ∧ w' = w := by
  cases b
  · go_enter Tryz.func95, Tryz.ntmps95
    go_wp2
    go_ret
    exact ⟨rfl, rfl⟩
  · go_enter Tryz.func95, Tryz.ntmps95
    go_wp2
    go_ret
    exact ⟨rfl, rfl⟩

/-- Bit number 'place of v' of x, where v is the bit's worth. -/
def hasB (x v : Int) : Bool := x / v % 2 == 1
def numB (x v : Int) : Int := x / v % 2

theorem num2 (x : Int) (h0 : 0 ≤ x) (h1 : x < 18446744073709551616) : (bits .and .u64 x 2 != 0) = hasB x 2 := by
  rw [and2 x h0 h1]; unfold hasB; rw [Bool.eq_iff_iff]; simp; omega
theorem num8 (x : Int) (h0 : 0 ≤ x) (h1 : x < 18446744073709551616) : (bits .and .u64 x 8 != 0) = hasB x 8 := by
  rw [and8 x h0 h1]; unfold hasB; rw [Bool.eq_iff_iff]; simp; omega
theorem num1 (x : Int) (h0 : 0 ≤ x) (h1 : x < 18446744073709551616) : (bits .and .u64 x 1 != 0) = hasB x 1 := by
  rw [and1 x h0 h1]; unfold hasB; rw [Bool.eq_iff_iff]; simp; omega
theorem num4 (x : Int) (h0 : 0 ≤ x) (h1 : x < 18446744073709551616) : (bits .and .u64 x 4 != 0) = hasB x 4 := by
  rw [and4 x h0 h1]; unfold hasB; rw [Bool.eq_iff_iff]; simp; omega
theorem numB_of_true {x v : Int} (h : hasB x v = true) : numB x v = 1 := by unfold hasB at h; unfold numB; simpa using h
theorem numB_of_false {x v : Int} (h : hasB x v = false) : numB x v = 0 := by unfold hasB at h; unfold numB; simp at h; omega

set_option maxHeartbeats 400000 in
theorem numberOf_gen (x v : Int) (hx : (bits .and .u64 x v != 0) = hasB x v) (w : World) :
    Calls Tryz.prog 86 #[.int .u64 x, .int .u64 v] w fun e w' => e = .returned (.int .i64 (numB x v)) ∧ w' = w := by
  have H : Hid ((bits .and .u64 x v != 0) = hasB x v) := hx
  clear hx
  go_enter Tryz.func86, Tryz.ntmps86
  go_wp2
  · go_ret
    rename_i h
    exact ⟨ret_int (numB_of_true (H.out.symm.trans h)).symm, rfl⟩
  · go_ret
    rename_i h
    exact ⟨ret_int (numB_of_false (H.out.symm.trans h)).symm, rfl⟩

theorem has_eq (x v : Int) (h0 : 0 ≤ x) (hv : 0 < v) : ((x / v).tmod 2 == 1) = hasB x v := by
  unfold hasB; rw [Int.tmod_eq_emod_of_nonneg (Int.ediv_nonneg h0 (by omega))]

set_option maxHeartbeats 400000 in
theorem has_ref (x v : Int) (h0 : 0 ≤ x) (h1 : x < 18446744073709551616) (hv : 0 < v) (w : World) :
    Calls Tryz.prog 74 #[.int .u64 x, .int .u64 v] w fun e w' => e = .returned (.bool (hasB x v)) ∧ w' = w := by
  go_enter Tryz.func74, Tryz.ntmps74
  go_wp2
  go_ret
  exact ⟨ret_bool (has_eq x v h0 hv), rfl⟩

set_option maxHeartbeats 400000 in
theorem colour_ref (x : Int) (h0 : 0 ≤ x) (h1 : x < 18446744073709551616) (w : World) :
    Calls Tryz.prog 75 #[.int .u64 x] w fun e w' => e = .returned (.int .i64 (numB x 2)) ∧ w' = w := by
  go_enter Tryz.func75, Tryz.ntmps75
  go_wp2
  go_ret
  exact ⟨rfl, rfl⟩




theorem ret_two {k l : IntKind} {a b c d : Int} (h : a = b) (h' : c = d) : Ending.returned (.tuple #[.int k a, .int l c]) = .returned (.tuple #[.int k b, .int l d]) := by rw [h, h']

def packOk (age gen c : Int) : Prop := (c = 0 ∨ c = 1) ∧ 0 ≤ age ∧ age ≤ 255 ∧ gen ≤ 4294967295
def ownB (live : Bool) (c : Int) : Bool := if live then c == 1 else !(c == 1)
def packW (used own final taken : Bool) (age gen : Int) : Int := bit used 1 + bit own 2 + bit final 4 + bit taken 8 + age * 256 + gen * 4294967296

theorem or_bits (u o f t : Bool) : bits .or .u64 (bits .or .u64 (bits .or .u64 (bit u 1) (bit o 2)) (bit f 4)) (bit t 8) = bit u 1 + bit o 2 + bit f 4 + bit t 8 := by
  rw [or1 (bit u 1) (bit o 2) (by cases u <;> simp [bit]) (by cases u <;> simp [bit]) (by cases o <;> simp [bit]) (by cases o <;> simp [bit]) (by cases o <;> simp [bit])]
  rw [or2 _ (bit f 4) (by cases u <;> cases o <;> simp [bit]) (by cases u <;> cases o <;> simp [bit]) (by cases f <;> simp [bit]) (by cases f <;> simp [bit]) (by cases f <;> simp [bit])]
  rw [or3 _ (bit t 8) (by cases u <;> cases o <;> cases f <;> simp [bit]) (by cases u <;> cases o <;> cases f <;> simp [bit]) (by cases t <;> simp [bit]) (by cases t <;> simp [bit]) (by cases t <;> simp [bit])]

theorem bits_lt (u o f t : Bool) : 0 ≤ bit u 1 + bit o 2 + bit f 4 + bit t 8 ∧ bit u 1 + bit o 2 + bit f 4 + bit t 8 < 16 := by
  cases u <;> cases o <;> cases f <;> cases t <;> simp [bit]


theorem pack_eq (u o f t : Bool) (age gen : Int) (ha0 : 0 ≤ age) (ha1 : age ≤ 255) (hg0 : 0 ≤ gen) (hg1 : gen ≤ 4294967295) :
    bits .or .u64 (bits .or .u64 (bits .or .u64 (bits .or .u64 (bits .or .u64 (bit u 1) (bit o 2)) (bit f 4)) (bit t 8)) (age * 256)) (gen * 4294967296) = packW u o f t age gen := by
  have hb := bits_lt u o f t
  rw [or_bits, or8 _ (age * 256) (by omega) (by omega) (by omega) (by omega) (by omega), or32 _ (gen * 4294967296) (by omega) (by omega) (by omega) (by omega) (by omega)]
  rfl

theorem pack_eq_ref (u o f t : Bool) (age gen : Int) (ha0 : 0 ≤ age) (ha1 : age ≤ 255) (hg0 : 0 ≤ gen) (hg1 : gen ≤ 4294967295) :
    IntKind.u64.wrap (IntKind.u64.wrap (IntKind.u64.wrap (IntKind.u64.wrap (IntKind.u64.wrap (bit u 1 + bit o 2) + bit f 4) + bit t 8) + age * 256) + gen * 4294967296) = packW u o f t age gen := by
  have e1 : bit u 1 = 0 ∨ bit u 1 = 1 := by cases u <;> simp [bit]
  have e2 : bit o 2 = 0 ∨ bit o 2 = 2 := by cases o <;> simp [bit]
  have e3 : bit f 4 = 0 ∨ bit f 4 = 4 := by cases f <;> simp [bit]
  have e4 : bit t 8 = 0 ∨ bit t 8 = 8 := by cases t <;> simp [bit]
  simp only [wrapU, packW]
  omega

theorem below_box (w : World) (o : Obj) (n : Nat) : Below w.heap.size w ((w.alloc o).drewN n) := below_drewN ((Below.refl _ _).alloc (Nat.le_refl _) _) n

/-- What Pack takes, as one test. -/
def packB (age gen c : Int) : Bool := (c == 0 || c == 1) && decide (0 ≤ age) && decide (age ≤ 255) && decide (gen ≤ 4294967295)
def packV (used live final taken : Bool) (age gen c : Int) : Int := if packB age gen c then packW used (ownB live c) final taken age gen else 0
def packE (age gen c : Int) : Int := if packB age gen c then 0 else 10



theorem ret2 {k l : IntKind} {a b c d : Int} (h : a = b) (h' : c = d) : Ending.returned (.tuple #[.int k a, .int l c]) = .returned (.tuple #[.int k b, .int l d]) := by rw [h, h']
theorem ret3 {k l m : IntKind} {a b c d x y : Int} (h : a = b) (h' : c = d) (h'' : x = y) : Ending.returned (.tuple #[.int k a, .int l c, .int m x]) = .returned (.tuple #[.int k b, .int l d, .int m y]) := by rw [h, h', h'']

def momB (p c r : Int) : Bool := decide (0 ≤ p) && decide (p ≤ 4) && (c == 0 || c == 1) && decide (r < 72057594037927936)
def momV (p c r : Int) : Int := if momB p c r then p + c * 8 + r * 256 else 0
def momE (p c r : Int) : Int := if momB p c r then 0 else 10

theorem mom_eq (p c r : Int) (hc : c = 0 ∨ c = 1) (hp0 : 0 ≤ p) (hp1 : p ≤ 4) (hr0 : 0 ≤ r) (hr1 : r < 72057594037927936) (b : Bool) (hb : b = (c == 1)) :
    bits .or .u64 (bits .or .u64 p (bit b 8)) (r * 256) = p + c * 8 + r * 256 := by
  have e : bit b 8 = c * 8 := by subst hb; rcases hc with rfl | rfl <;> rfl
  rw [e, or3 p (c * 8) hp0 (by omega) (by omega) (by omega) (by omega), or8 _ (r * 256) (by omega) (by omega) (by omega) (by omega) (by omega)]

theorem wrap64_small (a : Int) (h0 : 0 ≤ a) (h1 : a < 9223372036854775808) : wrap64 a = a := by unfold wrap64; omega

set_option maxHeartbeats 400000 in
theorem parts_word (x : Int) (h0 : 0 ≤ x) (h1 : x < 18446744073709551616) (w : World) :
    Calls Tryz.prog 59 #[.int .u64 x] w fun e w' => e = .returned (.tuple #[.int .i64 (x % 8), .int .i64 (numB x 8), .int .u64 (x / 256)]) ∧ w' = w := by
  go_enter Tryz.func59, Tryz.ntmps59
  go_wp2_with (go_at_call 86; refine (numberOf_gen _ _ (num8 _ h0 h1) _).mono ?_; rintro e w' ⟨rfl, rfl⟩)
  go_ret3
  exact ⟨ret3 (by rw [and7 x h0 h1]; exact wrap64_small _ (by omega) (by omega)) rfl rfl, rfl⟩
set_option maxHeartbeats 400000 in
theorem parts_ref (x : Int) (h0 : 0 ≤ x) (h1 : x < 18446744073709551616) (w : World) :
    Calls Tryz.prog 34 #[.int .u64 x] w fun e w' => e = .returned (.tuple #[.int .i64 (x % 8), .int .i64 (numB x 8), .int .u64 (x / 256)]) ∧ w' = w := by
  go_enter Tryz.func34, Tryz.ntmps34
  go_wp2
  go_ret3
  exact ⟨rfl, rfl⟩



/-- An object's head, as a value, its slots nil. -/
def obj (used live final taken : Bool) (age gen link next : Int) : Value :=
  .agg #[.bool used, .bool live, .bool final, .bool taken, .int .i64 age, .int .u64 gen, .int .u64 link, .int .u64 next, .slice none 0 0]

theorem age_eq (x : Int) (h0 : 0 ≤ x) (h1 : x < 18446744073709551616) : wrap64 (bits .and .u64 x 65280 / 256) = x / 256 % 256 := by
  rw [andAge x h0 h1]; unfold wrap64; omega

set_option maxHeartbeats 400000 in
theorem unpack_word (x : Int) (h0 : 0 ≤ x) (h1 : x < 18446744073709551616) (w : World) :
    Calls Tryz.prog 87 #[.int .u64 x] w fun e w' => e = .returned (.tuple #[obj (hasB x 1) false (hasB x 4) (hasB x 8) (x / 256 % 256) (x / 4294967296) 0 0, .int .i64 (numB x 2)]) ∧ Below w.heap.size w w' := by
  go_enter Tryz.func87, Tryz.ntmps87
  go_wp2_with (go_at_call 99; refine (gen_any _ h0 h1 _).mono ?_; rintro e w' ⟨rfl, rfl⟩)
  go_region_with (go_at_call 86; refine (numberOf_gen _ _ (num2 _ h0 h1) _).mono ?_; rintro e w' ⟨rfl, rfl⟩)
  all_goals go_wp2
  all_goals (refine bodyPost_ret (v := .tuple #[.agg #[.bool (bits .and .u64 x 1 != 0), .bool false, .bool (bits .and .u64 x 4 != 0), .bool (bits .and .u64 x 8 != 0), .int .i64 (wrap64 (bits .and .u64 x 65280 / 256)), .int .u64 (x / 4294967296), .int .u64 0, .int .u64 0, .slice none 0 0], .int .i64 (numB x 2)]) (by simp [results, Tryz.results87, go_sem]) rfl ⟨?_, ?_⟩)
  all_goals first | (rw [num1 x h0 h1, num4 x h0 h1, num8 x h0 h1, age_eq x h0 h1]; rfl) | exact ((Below.refl _ _).alloc (Nat.le_refl _) _).drew

set_option maxHeartbeats 400000 in
theorem unpack_ref (x : Int) (h0 : 0 ≤ x) (h1 : x < 18446744073709551616) (w : World) :
    Calls Tryz.prog 40 #[.int .u64 x] w fun e w' => e = .returned (.tuple #[obj (hasB x 1) false (hasB x 4) (hasB x 8) (x / 256 % 256) (x / 4294967296) 0 0, .int .i64 (numB x 2)]) ∧ Below w.heap.size w w' := by
  go_enter Tryz.func40, Tryz.ntmps40
  go_wp2_with (first | (go_at_call 74; refine (has_ref _ _ h0 h1 (by omega) _).mono ?_; rintro e w' ⟨rfl, rfl⟩) | (go_at_call 75; refine (colour_ref _ h0 h1 _).mono ?_; rintro e w' ⟨rfl, rfl⟩))
  exact bodyPost_ret (v := .tuple #[obj (hasB x 1) false (hasB x 4) (hasB x 8) (x / 256 % 256) (x / 4294967296) 0 0, .int .i64 (numB x 2)]) (by simp [results, Tryz.results40, go_sem, obj]) rfl ⟨rfl, (Below.refl _ _).alloc (Nat.le_refl _) _⟩

end Go.Proofs.YtecjegjnnahddaaGreat

/-
  View: a view in memory: what is seen of it, what is owned of it; a memory's value; copied, the package's and the document's.
-/
namespace Go.Proofs.YtecjegjnnahddaaGreat
open Go.RowKit
set_option linter.unusedVariables false
set_option linter.unusedSimpArgs false
set_option linter.unnecessarySimpa false
set_option maxRecDepth 20000
namespace Vw
open Shape

def wcs (n : Nat) (f : Nat → Int) : List Value := (List.range n).map fun i => Value.int .u64 (f i)
def ncs (l : List Int) : List Value := l.map fun c => Value.int .i64 c
theorem wcs_len (n : Nat) (f : Nat → Int) : (wcs n f).length = n := by simp [wcs]
theorem ncs_len (l : List Int) : (ncs l).length = l.length := by simp [ncs]
theorem wcs_get {n : Nat} (f : Nat → Int) {j : Nat} (h : j < n) : (wcs n f)[j]? = some (.int .u64 (f j)) := by simp [wcs, h]
theorem wcs_one (n : Nat) (f : Nat → Int) : ∀ u ∈ wcs n f, u.oneCell' = true := by intro u hu; obtain ⟨i, _, rfl⟩ := List.mem_map.1 hu; rfl
theorem ncs_one (l : List Int) : ∀ u ∈ ncs l, u.oneCell' = true := by intro u hu; obtain ⟨i, _, rfl⟩ := List.mem_map.1 hu; rfl
theorem ncs_more (l : List Int) (c : Int) : ncs (l ++ [c]) = ncs l ++ [.int .i64 c] := by simp [ncs]
theorem ncs_get {l : List Int} {j : Nat} {c : Int} (h : l[j]? = some c) : (ncs l)[j]? = some (.int .i64 c) := by simp [ncs, h]

def Ob.cell (b : Ob) (sv : Value) : Nat → Value
  | 0 => .bool b.us
  | 1 => .bool b.li
  | 2 => .bool b.fi
  | 3 => .bool b.ta
  | 4 => .int .i64 b.ag
  | 5 => .int .u64 b.ge
  | 6 => .int .u64 b.lk
  | 7 => .int .u64 b.nx
  | _ => sv
def Ob.cells (b : Ob) (sv : Value) : List Value := [.bool b.us, .bool b.li, .bool b.fi, .bool b.ta, .int .i64 b.ag, .int .u64 b.ge, .int .u64 b.lk, .int .u64 b.nx, sv]
theorem Ob.cells_get (b : Ob) (sv : Value) {q : Nat} (h : q < 9) : (b.cells sv)[q]? = some (b.cell sv q) := by
  match q, h with
  | 0, _ => rfl
  | 1, _ => rfl
  | 2, _ => rfl
  | 3, _ => rfl
  | 4, _ => rfl
  | 5, _ => rfl
  | 6, _ => rfl
  | 7, _ => rfl
  | 8, _ => rfl

/-- Where a view's lists lie. -/
structure Av where
  aa : Option Addr
  ca : Nat
  ra : Option Addr
  cr : Nat
  wa : Option Addr
  cw : Nat
  oa : Option Addr
  cb : Nat
  fa : Option Addr
  cf : Nat
  ga : Option Addr
  cg : Nat
  qa : Option Addr
  cq : Nat
def vl (c : Cv) (a : Av) : Value := .agg #[.int .i64 c.ph, .int .i64 c.co, .int .u64 c.ro, .slice a.aa c.na a.ca, .slice a.ra c.nr a.cr, .slice a.wa c.nw a.cw, .slice a.oa c.no a.cb, .slice a.fa c.fr.length a.cf, .slice a.ga c.gr.length a.cg, .slice a.qa c.qu.length a.cq, .int .u64 (c.cn 0), .int .u64 (c.cn 1), .int .u64 (c.cn 2), .int .u64 (c.cn 3)]

/-- Numbers as they are seen. -/
def SeesN (w : World) (ao : Option Addr) (l : List Int) : Prop :=
  ∀ j c, l[j]? = some c → ∃ b off, ao = some ⟨b, off, none⟩ ∧ b < w.heap.size ∧ w.cell? ⟨b, off + j, none⟩ = some (.int .i64 c)
theorem SeesN.below {w w' : World} {ao : Option Addr} {l : List Int} (h : SeesN w ao l) (hb : Below w.heap.size w w') : SeesN w' ao l :=
  fun j c hj => by obtain ⟨b, off, e, hl, hc⟩ := h j c hj; exact ⟨b, off, e, Nat.lt_of_lt_of_le hl hb.size, (hb.cell (p := ⟨b, off + j, none⟩) hl).trans hc⟩
theorem sees_on {w w' : World} {ao : Option Addr} {n : Nat} {f : Nat → Int} (h : Sees w w.heap.size ao n f) (hb : Below w.heap.size w w') : Sees w' w'.heap.size ao n f := (h.below hb (Nat.le_refl _)).mono hb.size

/-- A view as it is seen. -/
structure Shows (w : World) (c : Cv) (a : Av) : Prop where
  ac : Sees w w.heap.size a.aa c.na c.ac
  rt : ∀ j, j < c.nr → ∃ b off ai ci, a.ra = some ⟨b, off, none⟩ ∧ b < w.heap.size ∧ w.cell? ⟨b, off + j, none⟩ = some (.slice ai (c.rn j) ci) ∧ Sees w w.heap.size ai (c.rn j) (c.rt j)
  wk : Sees w w.heap.size a.wa c.nw c.wk
  ob : ∀ j, j < c.no → ∃ b off ai ci, a.oa = some ⟨b, off, none⟩ ∧ b < w.heap.size ∧ (∀ q, q < 9 → w.cell? ⟨b, off + j * 9 + q, none⟩ = some ((c.ob j).cell (.slice ai (c.ob j).ns ci) q)) ∧ Sees w w.heap.size ai (c.ob j).ns (c.ob j).sl
  fr : SeesN w a.fa c.fr
  gr : SeesN w a.ga c.gr
  qu : SeesN w a.qa c.qu
theorem Shows.below {w w' : World} {c : Cv} {a : Av} (h : Shows w c a) (hb : Below w.heap.size w w') : Shows w' c a := by
  refine ⟨sees_on h.ac hb, fun j hj => ?_, sees_on h.wk hb, fun j hj => ?_, h.fr.below hb, h.gr.below hb, h.qu.below hb⟩
  · obtain ⟨b, off, ai, ci, e, hl, hc, hs⟩ := h.rt j hj
    exact ⟨b, off, ai, ci, e, Nat.lt_of_lt_of_le hl hb.size, (hb.cell (p := ⟨b, off + j, none⟩) hl).trans hc, sees_on hs hb⟩
  · obtain ⟨b, off, ai, ci, e, hl, hc, hs⟩ := h.ob j hj
    exact ⟨b, off, ai, ci, e, Nat.lt_of_lt_of_le hl hb.size, fun q hq => (hb.cell (p := ⟨b, off + j * 9 + q, none⟩) hl).trans (hc q hq), sees_on hs hb⟩

/-- A view in memory of one's own, from block lo on. -/
structure Owns (w : World) (lo : Nat) (c : Cv) (a : Av) : Prop where
  ac : w.ownsRow lo 24 1 (.slice a.aa c.na a.ca) c.na (wcs c.na c.ac)
  rt : ∃ rs, w.ownsRow lo 25 1 (.slice a.ra c.nr a.cr) c.nr rs ∧ ∀ j, j < c.nr → ∃ ai ci, rs[j]? = some (.slice ai (c.rn j) ci) ∧ w.ownsRow lo 24 1 (.slice ai (c.rn j) ci) (c.rn j) (wcs (c.rn j) (c.rt j))
  wk : w.ownsRow lo 24 1 (.slice a.wa c.nw a.cw) c.nw (wcs c.nw c.wk)
  ob : ∃ os, w.ownsRow lo 46 9 (.slice a.oa c.no a.cb) c.no os ∧ ∀ j, j < c.no → ∃ ai ci, (∀ q, q < 9 → os[j * 9 + q]? = some ((c.ob j).cell (.slice ai (c.ob j).ns ci) q)) ∧ w.ownsRow lo 24 1 (.slice ai (c.ob j).ns ci) (c.ob j).ns (wcs (c.ob j).ns (c.ob j).sl)
  fr : w.ownsRow lo 3 1 (.slice a.fa c.fr.length a.cf) c.fr.length (ncs c.fr)
  gr : w.ownsRow lo 3 1 (.slice a.ga c.gr.length a.cg) c.gr.length (ncs c.gr)
  qu : w.ownsRow lo 3 1 (.slice a.qa c.qu.length a.cq) c.qu.length (ncs c.qu)

theorem owns_cell {w : World} {lo : Nat} {e : TypeId} {size : Nat} {ao : Option Addr} {n cap : Nat} {xs : List Value} (h : w.ownsRow lo e size (.slice ao n cap) n xs) {i : Nat} {u : Value} (hi : xs[i]? = some u) : ∃ b, ao = some ⟨b, 0, none⟩ ∧ lo ≤ b ∧ b < w.heap.size ∧ w.cell? ⟨b, i, none⟩ = some u ∧ w.frozen? ⟨b, i, none⟩ = false := by
  obtain ⟨hl, ⟨h1, rfl⟩ | ⟨g, cap', cur, h1, hb, hg, hc, hm, hs, ht⟩⟩ := h
  · have := (List.getElem?_eq_some_iff.1 hi).1
    simp at hl
    subst hl
    simp at this
  · cases h1
    have hil := (List.getElem?_eq_some_iff.1 hi).1
    refine ⟨g, rfl, hb, (Array.getElem?_eq_some_iff.1 hg).1, ?_, ?_⟩
    · rw [← ht] at hi
      rw [List.getElem?_take] at hi
      split at hi
      · simp only [World.cell?, hg]
        simpa using hi
      · cases hi
    · simp [World.frozen?, hg]
theorem owns_sees {w : World} {lo : Nat} {ao : Option Addr} {n cap : Nat} {f : Nat → Int} (h : w.ownsRow lo 24 1 (.slice ao n cap) n (wcs n f)) : Sees w w.heap.size ao n f := by
  intro j hj
  obtain ⟨b, e, _, hl, hc, _⟩ := owns_cell h (wcs_get f hj)
  exact ⟨b, 0, e, hl, by simpa using hc⟩
theorem owns_seesN {w : World} {lo : Nat} {ao : Option Addr} {cap : Nat} {l : List Int} (h : w.ownsRow lo 3 1 (.slice ao l.length cap) l.length (ncs l)) : SeesN w ao l := by
  intro j c hj
  obtain ⟨b, e, _, hl, hc, _⟩ := owns_cell h (ncs_get hj)
  exact ⟨b, 0, e, hl, by simpa using hc⟩
theorem Owns.shows {w : World} {lo : Nat} {c : Cv} {a : Av} (h : Owns w lo c a) : Shows w c a := by
  refine ⟨owns_sees h.ac, fun j hj => ?_, owns_sees h.wk, fun j hj => ?_, owns_seesN h.fr, owns_seesN h.gr, owns_seesN h.qu⟩
  · obtain ⟨rs, h1, h2⟩ := h.rt
    obtain ⟨ai, ci, h3, h4⟩ := h2 j hj
    obtain ⟨b, e, _, hl, hc, _⟩ := owns_cell h1 h3
    exact ⟨b, 0, ai, ci, e, hl, by simpa using hc, owns_sees h4⟩
  · obtain ⟨os, h1, h2⟩ := h.ob
    obtain ⟨ai, ci, h3, h4⟩ := h2 j hj
    obtain ⟨b, e, _, hl, _, _⟩ := owns_cell h1 (h3 0 (by decide))
    refine ⟨b, 0, ai, ci, e, hl, fun q hq => ?_, owns_sees h4⟩
    obtain ⟨b', e', _, hl', hc, _⟩ := owns_cell h1 (h3 q hq)
    rw [e] at e'
    cases e'
    simpa using hc
theorem owns_keep {w w' : World} {base : Nat} {e : TypeId} {size : Nat} {v : Value} {n : Nat} {xs : List Value} (h : w.ownsRow base e size v n xs) (hk : ∀ b, b < w.heap.size → base ≤ b → w'.heap[b]? = w.heap[b]?) : w'.ownsRow base e size v n xs := by
  obtain ⟨hl, h | ⟨g, cap, cur, rfl, hb, hg, hc, hm, hs, ht⟩⟩ := h
  · exact ⟨hl, .inl h⟩
  · exact ⟨hl, .inr ⟨g, cap, cur, rfl, hb, by rw [hk g (Array.getElem?_eq_some_iff.1 hg).1 hb]; exact hg, hc, hm, hs, ht⟩⟩
theorem owns_on {w w' : World} {base : Nat} {e : TypeId} {size : Nat} {v : Value} {n : Nat} {xs : List Value} (h : w.ownsRow base e size v n xs) (hb : Below w.heap.size w w') : w'.ownsRow base e size v n xs := owns_keep h (fun b hb' _ => hb.block b hb')
theorem owns_low {w : World} {base lo : Nat} {e : TypeId} {size : Nat} {v : Value} {n : Nat} {xs : List Value} (h : w.ownsRow base e size v n xs) (hl : lo ≤ base) : w.ownsRow lo e size v n xs := by
  obtain ⟨hl', h | ⟨g, cap, cur, rfl, hb, hg, hc, hm, hs, ht⟩⟩ := h
  · exact ⟨hl', .inl h⟩
  · exact ⟨hl', .inr ⟨g, cap, cur, rfl, Nat.le_trans hl hb, hg, hc, hm, hs, ht⟩⟩
/-- Rows of two types lie in two blocks. -/
theorem owns_ne {w : World} {b1 b2 : Nat} {e1 e2 : TypeId} {s1 s2 : Nat} {v1 v2 : Value} {n1 n2 : Nat} {x1 x2 : List Value} (h : w.ownsRow b1 e1 s1 v1 n1 x1) (h' : w.ownsRow b2 e2 s2 v2 n2 x2) (hne : ¬ e1 = e2) : v1.ownBlock = none ∨ v1.ownBlock ≠ v2.ownBlock := by
  obtain ⟨_, ⟨rfl, _⟩ | ⟨g, cap, cur, rfl, hb, hg, _⟩⟩ := h
  · exact .inl rfl
  · obtain ⟨_, ⟨rfl, _⟩ | ⟨g', cap', cur', rfl, hb', hg', _⟩⟩ := h'
    · exact .inr (by simp [Value.ownBlock])
    · refine .inr (fun e => ?_)
      simp [Value.ownBlock] at e
      subst e
      rw [hg] at hg'
      injection hg' with hg'
      injection hg' with _ h2 _
      exact hne h2
theorem Owns.keep {w w' : World} {lo : Nat} {c : Cv} {a : Av} (h : Owns w lo c a) (hk : ∀ b, b < w.heap.size → lo ≤ b → w'.heap[b]? = w.heap[b]?) : Owns w' lo c a := by
  refine ⟨owns_keep h.ac hk, ?_, owns_keep h.wk hk, ?_, owns_keep h.fr hk, owns_keep h.gr hk, owns_keep h.qu hk⟩
  · obtain ⟨rs, h1, h2⟩ := h.rt
    exact ⟨rs, owns_keep h1 hk, fun j hj => by obtain ⟨ai, ci, h3, h4⟩ := h2 j hj; exact ⟨ai, ci, h3, owns_keep h4 hk⟩⟩
  · obtain ⟨os, h1, h2⟩ := h.ob
    exact ⟨os, owns_keep h1 hk, fun j hj => by obtain ⟨ai, ci, h3, h4⟩ := h2 j hj; exact ⟨ai, ci, h3, owns_keep h4 hk⟩⟩
theorem Owns.below {w w' : World} {lo : Nat} {c : Cv} {a : Av} (h : Owns w lo c a) (hb : Below w.heap.size w w') : Owns w' lo c a := h.keep (fun b hb' _ => hb.block b hb')

theorem infoU : ∃ i, Tryz.prog.info? 24 = some i ∧ i.zero = some (.int .u64 0) ∧ i.size = 1 ∧ i.bytes = 8 := by
  have h : (Tryz.prog.info? 24).map (fun i => (i.zero, i.size, i.bytes)) = some (some (.int .u64 0), 1, 8) := by kernel_rfl
  cases hp : Tryz.prog.info? 24 with
  | none => rw [hp] at h; cases h
  | some i => rw [hp] at h; simp at h; exact ⟨i, rfl, h.1, h.2.1, h.2.2⟩
theorem infoI : ∃ i, Tryz.prog.info? 3 = some i ∧ i.zero = some (.int .i64 0) ∧ i.size = 1 ∧ i.bytes = 8 := by
  have h : (Tryz.prog.info? 3).map (fun i => (i.zero, i.size, i.bytes)) = some (some (.int .i64 0), 1, 8) := by kernel_rfl
  cases hp : Tryz.prog.info? 3 with
  | none => rw [hp] at h; cases h
  | some i => rw [hp] at h; simp at h; exact ⟨i, rfl, h.1, h.2.1, h.2.2⟩
theorem infoS : ∃ i, Tryz.prog.info? 25 = some i ∧ i.zero = some (.slice none 0 0) ∧ i.size = 1 ∧ i.bytes = 24 := by
  have h : (Tryz.prog.info? 25).map (fun i => (i.zero, i.size, i.bytes)) = some (some (.slice none 0 0), 1, 24) := by kernel_rfl
  cases hp : Tryz.prog.info? 25 with
  | none => rw [hp] at h; cases h
  | some i => rw [hp] at h; simp at h; exact ⟨i, rfl, h.1, h.2.1, h.2.2⟩
theorem infoO : ∃ i z, Tryz.prog.info? 46 = some i ∧ i.zero = some z ∧ i.size = 9 ∧ i.bytes = 64 ∧ z.cells.size = 9 := by
  have h : (Tryz.prog.info? 46).map (fun i => (i.zero.map (fun z => z.cells.size), i.size, i.bytes)) = some (some 9, 9, 64) := by kernel_rfl
  cases hp : Tryz.prog.info? 46 with
  | none => rw [hp] at h; cases h
  | some i =>
    rw [hp] at h
    simp at h
    obtain ⟨⟨z, h1, h2⟩, h3, h4⟩ := h
    exact ⟨i, z, rfl, h1, h3, h4, h2⟩
theorem news_of {w : World} {B : Nat} {ao : Option Addr} {n : Nat} {f : Nat → Int} (h : Sees w B ao n f) : ∀ ad, ao = some ad → ∀ j u, (wcs n f)[j]? = some u → w.cell? (ad.add j) = some u := by
  intro ad hao j u hu
  have hj : j < n := by have := (List.getElem?_eq_some_iff.1 hu).1; simpa [wcs] using this
  obtain ⟨b, off, he, hbl, hcc⟩ := h j hj
  rw [hao] at he
  cases he
  have : u = .int .u64 (f j) := by rw [wcs_get f hj] at hu; cases hu; rfl
  subst this
  rw [Go.WideShapes.add_plain]
  exact hcc
end Vw
end Go.Proofs.YtecjegjnnahddaaGreat
