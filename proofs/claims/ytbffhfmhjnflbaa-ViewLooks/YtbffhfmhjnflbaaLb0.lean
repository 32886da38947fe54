/-
  What texts without a machine of tasks share: rows of words, what is seen, new rows.
-/
import Derived.Test.YtbffhfmhjnflbaaRows
import Derived.WalkKit
import Derived.WalkSpells
import Derived.WalkLawsBesides
import Derived.Deep.OwnRows
import Derived.Deep.RegionWith
import Derived.Deep.RegionHeld
import Derived.Deep.Light
import Derived.Laws.Bits64
import Derived.Deep.QuietTactic
import Derived.BigQuiet
import Derived.Deep.CutBlock
import Derived.Deep.CutRange
namespace Go.Proofs.Ytbffhfmhjnflbaa
open Go.RowKit
set_option linter.unusedVariables false
set_option maxRecDepth 20000
set_option linter.unusedSimpArgs false
set_option linter.unnecessarySimpa false

theorem hide {p : Prop} (h : p) : Hid p := h
def putF (f : Nat → Int) (k : Nat) (v : Int) : Nat → Int := fun j => if j = k then v else f j
theorem putF_self {f : Nat → Int} (k : Nat) : putF f k (f k) = f := by
  funext j; unfold putF; split
  · subst_vars; rfl
  · rfl
theorem grown_refl (w : World) (r : Option Nat) : w.grownBy w r := ⟨rfl, rfl, rfl, Nat.le_refl _, fun _ _ _ => rfl⟩
theorem grown_alloc {w w' : World} {r : Option Nat} (h : w.grownBy w' r) (o : Obj) : w.grownBy (w'.alloc o) r :=
  ⟨h.os, h.tape, h.output, by have := h.size; simp; omega, fun k hk hr => (Below.heap_alloc _ _ _ (Nat.lt_of_lt_of_le hk h.size)).trans (h.block k hk hr)⟩
theorem grown_drew {w w' : World} {r : Option Nat} (h : w.grownBy w' r) : w.grownBy w'.drew r := ⟨h.os, h.tape, h.output, h.size, h.block⟩
theorem grown_setCell {w w' : World} {r : Option Nat} (h : w.grownBy w' r) (a : Addr) (ha : some a.block = r ∨ w.heap.size ≤ a.block) (u : Value) : w.grownBy (w'.setCell a u) r :=
  ⟨h.os, h.tape, h.output, by have := h.size; simp; omega, fun k hk hr => (Below.heap_setCell _ _ _ _ (by rintro rfl; rcases ha with ha | ha; exact hr ha; omega)).trans (h.block k hk hr)⟩
theorem grown_trans {a b c : World} {r : Option Nat} (h : a.grownBy b r) (k : b.grownBy c r) : a.grownBy c r :=
  ⟨k.os.trans h.os, k.tape.trans h.tape, k.output.trans h.output, Nat.le_trans h.size k.size, fun i hi hr => (k.block i (Nat.lt_of_lt_of_le hi h.size) hr).trans (h.block i hi hr)⟩
theorem grown_none {a b : World} (h : a.grownBy b none) (r : Option Nat) : a.grownBy b r := ⟨h.os, h.tape, h.output, h.size, fun i hi _ => h.block i hi (by simp)⟩
theorem grown_below {a b : World} {r : Nat} {B : Nat} (h : a.grownBy b (some r)) (hB : B ≤ a.heap.size) (hr : B ≤ r) : Below B a b :=
  ⟨h.os, h.tape, h.output, h.size, fun k hk => h.block k (by omega) (by simp; omega)⟩
theorem below_grown {a b : World} (h : Below a.heap.size a b) (r : Option Nat) : a.grownBy b r := ⟨h.os, h.tape, h.output, h.size, fun k hk _ => h.block k hk⟩
/-- Block g is a row of cap words' cells, the first n of them the words f: what a slice of the call's own lies on. -/
def IsRow (w : World) (g n cap : Nat) (f : Nat → Int) : Prop := n ≤ cap ∧ cap ≤ maxLen ∧ (∃ c : Nat → Value, w.rowIs g 27 cap c ∧ ∀ i, i < n → c i = .int .u64 (f i)) ∧ ∀ i, i < n → 0 ≤ f i ∧ f i ≤ 18446744073709551615

namespace IsRow
variable {w w' : World} {g n cap : Nat} {f : Nat → Int}
theorem cell (h : IsRow w g n cap f) {i : Nat} (hi : i < n) : w.cell? ⟨g, i, none⟩ = some (.int .u64 (f i)) := by
  obtain ⟨h1, _, ⟨c, hr, hc⟩, _⟩ := h
  rw [hr.cell (by omega), hc i hi]
theorem frozen (h : IsRow w g n cap f) (i : Nat) : w.frozen? ⟨g, i, none⟩ = false := by
  obtain ⟨h1, _, ⟨c, hr, hc⟩, _⟩ := h
  exact hr.frozen i
theorem lt (h : IsRow w g n cap f) : g < w.heap.size := by
  obtain ⟨h1, _, ⟨c, hr, hc⟩, _⟩ := h
  exact hr.lt
theorem word (h : IsRow w g n cap f) {i : Nat} (hi : i < n) : 0 ≤ f i ∧ f i ≤ 18446744073709551615 := h.2.2.2 i hi
theorem alloc (h : IsRow w g n cap f) (o : Obj) : IsRow (w.alloc o) g n cap f := by
  obtain ⟨h1, h2, ⟨c, hr, hc⟩, h3⟩ := h
  exact ⟨h1, h2, ⟨c, hr.alloc o, hc⟩, h3⟩
theorem block (h : IsRow w g n cap f) (e : w'.heap[g]? = w.heap[g]?) : IsRow w' g n cap f := by
  obtain ⟨h1, h2, ⟨c, hr, hc⟩, h3⟩ := h
  exact ⟨h1, h2, ⟨c, hr.of_block e, hc⟩, h3⟩
theorem grown {r : Option Nat} (h : IsRow w g n cap f) (hg : w.grownBy w' r) (hr : some g ≠ r) : IsRow w' g n cap f := h.block (hg.block _ h.lt hr)
theorem below (h : IsRow w g n cap f) (hg : Below w.heap.size w w') : IsRow w' g n cap f := h.block (hg.block _ h.lt)
theorem set (h : IsRow w g n cap f) (k : Nat) (v : Int) (hv : 0 ≤ v ∧ v ≤ 18446744073709551615) : IsRow (w.setCell ⟨g, k, none⟩ (.int .u64 v)) g n cap (putF f k v) := by
  obtain ⟨h1, h2, ⟨c, hr, hc⟩, h3⟩ := h
  refine ⟨h1, h2, ⟨_, hr.set k _, fun i hi => ?_⟩, fun i hi => ?_⟩
  · simp only [putF]; split
    · rfl
    · exact hc i hi
  · simp only [putF]; split
    · exact hv
    · exact h3 i hi
theorem setOther (h : IsRow w g n cap f) {a : Addr} (ha : g ≠ a.block) (v : Value) : IsRow (w.setCell a v) g n cap f := h.block (Below.heap_setCell _ _ _ _ ha)
theorem congr {f' : Nat → Int} (h : IsRow w g n cap f) (e : ∀ i, i < n → f i = f' i) : IsRow w g n cap f' := by
  obtain ⟨h1, h2, ⟨c, hr, hc⟩, h3⟩ := h
  exact ⟨h1, h2, ⟨c, hr, fun i hi => by rw [← e i hi]; exact hc i hi⟩, fun i hi => by rw [← e i hi]; exact h3 i hi⟩
/-- What 'append' leaves, as such a row. -/
theorem of_owns {base : Nat} (h : w.ownsRow base 27 1 (.slice (some ⟨g, 0, none⟩) n cap) n ((List.range n).map fun i => Value.int .u64 (f i))) (hf : ∀ i, i < n → 0 ≤ f i ∧ f i ≤ 18446744073709551615) : IsRow w g n cap f := by
  obtain ⟨hl, h | ⟨g', cap', cur, hv, hb, hg, hc, hm, hsz, ht⟩⟩ := h
  · cases h.1
  · cases hv
    refine ⟨hc, hm, ⟨fun i => cur[i]?.getD default, ⟨cur, hg, by omega, fun i hi => ?_⟩, fun i hi => ?_⟩, hf⟩
    · have : i < cur.size := by omega
      simp [this]
    · have h1 : cur[i]? = (cur.toList.take (n * 1))[i]? := by
        rw [List.getElem?_take, if_pos (by omega)]; simp
      show cur[i]?.getD default = _
      rw [h1, ht]; simp [hi]
end IsRow

theorem wrap_u64 (x : Int) : IntKind.u64.wrap x = x % 18446744073709551616 := by
  simp [IntKind.wrap, IntKind.signed, IntKind.bits]
/-- A slice at ao of n words, readable below block B: word j is 'f j'. -/
def Sees (w : World) (B : Nat) (ao : Option Addr) (n : Nat) (f : Nat → Int) : Prop :=
  ∀ j, j < n → ∃ b off, ao = some ⟨b, off, none⟩ ∧ b < B ∧ w.cell? ⟨b, off + j, none⟩ = some (.int .u64 (f j))
theorem Sees.below {w w' : World} {B C : Nat} {ao : Option Addr} {n : Nat} {f : Nat → Int} (h : Sees w B ao n f) (hb : Below C w w') (hBC : B ≤ C) : Sees w' B ao n f :=
  fun j hj => by obtain ⟨b, off, e, hl, hc⟩ := h j hj; exact ⟨b, off, e, hl, (hb.cell (p := ⟨b, off + j, none⟩) (by show b < C; omega)).trans hc⟩
theorem Sees.mono {w : World} {B C : Nat} {ao : Option Addr} {n : Nat} {f : Nat → Int} (h : Sees w B ao n f) (hBC : B ≤ C) : Sees w C ao n f :=
  fun j hj => by obtain ⟨b, off, e, hl, hc⟩ := h j hj; exact ⟨b, off, e, by omega, hc⟩
theorem IsRow.sees {w : World} {g n cap : Nat} {f : Nat → Int} (h : IsRow w g n cap f) : Sees w w.heap.size (some ⟨g, 0, none⟩) n f :=
  fun j hj => ⟨g, 0, rfl, h.lt, by simpa using h.cell hj⟩
theorem info46 : (Try.prog.info? 27).map (fun i => (i.zero.map Value.cells, i.size, i.bytes)) = some (some #[.int .u64 0], 1, 8) := by kernel_rfl
/-- 'make([]T, n)' as one equation. -/
def lrow (l : List Value) : Nat → Value := fun i => l[i]?.getD default
theorem World.rowIs_alloc' (w : World) (vs : Array Value) (t : TypeId) (n : Nat) (hn : vs.size = n) {f : Nat → Value} (hc : ∀ i, i < n → vs[i]? = some (f i)) : (w.alloc (.cells vs t)).rowIs w.heap.size t n f := by
  subst hn
  exact World.rowIs_alloc w vs t f hc
theorem rowL_alloc (w : World) (l : List Value) (t : TypeId) {n : Nat} (hn : l.length = n) : (w.alloc (.cells l.toArray t)).rowIs w.heap.size t n (lrow l) := World.rowIs_alloc' w l.toArray t n (by simpa using hn) (fun i hi => by simp [lrow, hn, hi])
theorem below_drewN {B : Nat} {a w : World} (h : Below B a w) (m : Nat) : Below B a (w.drewN m) := ⟨h.os, h.tape, h.output, h.size, h.block⟩
theorem below_of_grown_none {a b : World} (h : a.grownBy b none) (B : Nat) (hB : B ≤ a.heap.size) : Below B a b := ⟨h.os, h.tape, h.output, h.size, fun k hk => h.block k (by omega) (by simp)⟩
end Go.Proofs.Ytbffhfmhjnflbaa
