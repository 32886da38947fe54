/-
  Lemmas: Ref.
-/
import Derived.Test.YtidihnnmdmlgfaaGreatTq01
import Derived.Deep.Light
import Derived.Laws.Bits64
namespace Go.Proofs.YtidihnnmdmlgfaaGreat
set_option maxHeartbeats 8000000
open Go.RowKit
set_option linter.unusedVariables false
set_option linter.unusedSimpArgs false
set_option maxRecDepth 20000
section
def IsRow (w : World) (g n cap : Nat) (f : Nat → Int) : Prop := n ≤ cap ∧ cap ≤ maxLen ∧ (∃ c : Nat → Value, w.rowIs g 38 cap c ∧ ∀ i, i < n → c i = .int .u64 (f i)) ∧ ∀ i, i < n → 0 ≤ f i ∧ f i ≤ 18446744073709551615
namespace IsRow
variable {w w' : World} {g n cap : Nat} {f : Nat → Int}
theorem cell (h : IsRow w g n cap f) {i : Nat} (hi : i < n) : w.cell? ⟨g, i, none⟩ = some (.int .u64 (f i)) := by
  obtain ⟨h1, _, ⟨c, hr, hc⟩, _⟩ := h
  rw [hr.cell (by omega), hc i hi]
theorem frozen (h : IsRow w g n cap f) (i : Nat) : w.frozen? ⟨g, i, none⟩ = false := by
  obtain ⟨h1, _, ⟨c, hr, hc⟩, _⟩ := h
  exact hr.frozen i
theorem lt (h : IsRow w g n cap f) : g < w.heap.size := by
  obtain ⟨h1, _, ⟨c, hr, hc⟩, _⟩ := h
  exact hr.lt
theorem word (h : IsRow w g n cap f) {i : Nat} (hi : i < n) : 0 ≤ f i ∧ f i ≤ 18446744073709551615 := h.2.2.2 i hi
theorem alloc (h : IsRow w g n cap f) (o : Obj) : IsRow (w.alloc o) g n cap f := by
  obtain ⟨h1, h2, ⟨c, hr, hc⟩, h3⟩ := h
  exact ⟨h1, h2, ⟨c, hr.alloc o, hc⟩, h3⟩
theorem block (h : IsRow w g n cap f) (e : w'.heap[g]? = w.heap[g]?) : IsRow w' g n cap f := by
  obtain ⟨h1, h2, ⟨c, hr, hc⟩, h3⟩ := h
  exact ⟨h1, h2, ⟨c, hr.of_block e, hc⟩, h3⟩
theorem grown {r : Option Nat} (h : IsRow w g n cap f) (hg : w.grownBy w' r) (hr : some g ≠ r) : IsRow w' g n cap f := h.block (hg.block _ h.lt hr)
theorem below (h : IsRow w g n cap f) (hg : Below w.heap.size w w') : IsRow w' g n cap f := h.block (hg.block _ h.lt)
theorem set (h : IsRow w g n cap f) (k : Nat) (v : Int) (hv : 0 ≤ v ∧ v ≤ 18446744073709551615) : IsRow (w.setCell ⟨g, k, none⟩ (.int .u64 v)) g n cap (putF f k v) := by
  obtain ⟨h1, h2, ⟨c, hr, hc⟩, h3⟩ := h
  refine ⟨h1, h2, ⟨_, hr.set k _, fun i hi => ?_⟩, fun i hi => ?_⟩
  · simp only [putF]; split
    · rfl
    · exact hc i hi
  · simp only [putF]; split
    · exact hv
    · exact h3 i hi
theorem setOther (h : IsRow w g n cap f) {a : Addr} (ha : g ≠ a.block) (v : Value) : IsRow (w.setCell a v) g n cap f := h.block (Below.heap_setCell _ _ _ _ ha)
theorem congr {f' : Nat → Int} (h : IsRow w g n cap f) (e : ∀ i, i < n → f i = f' i) : IsRow w g n cap f' := by
  obtain ⟨h1, h2, ⟨c, hr, hc⟩, h3⟩ := h
  exact ⟨h1, h2, ⟨c, hr, fun i hi => by rw [← e i hi]; exact hc i hi⟩, fun i hi => by rw [← e i hi]; exact h3 i hi⟩
end IsRow
theorem wrap_u64 (x : Int) : IntKind.u64.wrap x = x % 18446744073709551616 := by
  simp [IntKind.wrap, IntKind.signed, IntKind.bits]
section
variable {w : World} {g n cap : Nat} {f : Nat → Int}
end
end
end Go.Proofs.YtidihnnmdmlgfaaGreat
