/-
  Graph: GraphKeeps: what writes over lists of one's own leave as it is
-/
import Derived.Test.YtlbcjolbgeficaaGrKc
namespace Go.Proofs.Ytlbcjolbgeficaa
open Go.RowKit
set_option linter.unusedVariables false
set_option linter.unusedSimpArgs false
set_option linter.unnecessarySimpa false
namespace Gr

/-- From V to w only numbers were turned, in blocks of Z. -/
structure Kw (V w : World) (Z : Nat → Prop) (lo : Nat) : Prop where
  b : Below lo V w
  same : ∀ k, k < V.heap.size → ¬ Z k → w.heap[k]? = V.heap[k]?
  kept : ∀ p v, V.cell? p = some v → (∀ kd x, v ≠ .int kd x) → w.cell? p = some v
  num : ∀ p kd x, V.cell? p = some (.int kd x) → ∃ y, w.cell? p = some (.int kd y)
  fz : ∀ p, w.frozen? p = V.frozen? p
theorem Kw.refl (V : World) (Z : Nat → Prop) (lo : Nat) : Kw V V Z lo := ⟨Below.refl _ _, fun _ _ _ => rfl, fun _ _ h _ => h, fun _ _ x h => ⟨x, h⟩, fun _ => rfl⟩
theorem Kw.step {V w : World} {Z : Nat → Prop} {lo : Nat} (h : Kw V w Z lo) {p : Addr} {kd : IntKind} {x : Int} (hp : V.cell? p = some (.int kd x)) (hz : Z p.block) (hl : lo ≤ p.block) (v : Int) : Kw V (w.setCell p (.int kd v)) Z lo := by
  obtain ⟨y, hy⟩ := h.num p kd x hp
  refine ⟨h.b.setCell hl _, fun k hk hn => ?_, fun q u hq hu => ?_, fun q kd' x' hq => ?_, fun q => by rw [World.frozen?_setCell]; exact h.fz q⟩
  · rw [Below.heap_setCell _ _ _ _ (fun e => hn (by rw [e]; exact hz))]
    exact h.same k hk hn
  · have hne : p ≠ q := fun e => by
      subst e
      rw [hp] at hq
      cases hq
      exact hu kd x rfl
    rw [World.cell?_setCell_other w _ _ _ hne]
    exact h.kept q u hq hu
  · by_cases e : p = q
    · subst e
      rw [hp] at hq
      cases hq
      exact ⟨v, World.cell?_setCell_same w _ _ hy⟩
    · rw [World.cell?_setCell_other w _ _ _ e]
      exact h.num q kd' x' hq
theorem Kw.slice {V w : World} {Z : Nat → Prop} {lo : Nat} (h : Kw V w Z lo) {p : Addr} {ao : Option Addr} {n c : Nat} (hp : V.cell? p = some (.slice ao n c)) : w.cell? p = some (.slice ao n c) := h.kept p _ hp (fun kd x e => by cases e)
theorem Kw.row {V w : World} {Z : Nat → Prop} {lo : Nat} (h : Kw V w Z lo) {g : Nat} {t : TypeId} {n : Nat} {F : Nat → Value} (r : V.rowIs g t n F) (hz : ¬ Z g) : w.rowIs g t n F := r.of_block (h.same g r.lt hz)
theorem Kw.own {V w : World} {Z : Nat → Prop} {lo base : Nat} {e : TypeId} {size : Nat} {v : Value} {n : Nat} {xs : List Value} (h : Kw V w Z lo) (o : V.ownsRow base e size v n xs) (hz : ∀ g, v.ownBlock = some g → ¬ Z g) : w.ownsRow base e size v n xs := by
  obtain ⟨hl, o | ⟨g, cap, cur, rfl, hb, hg, hc, hm, hs, ht⟩⟩ := o
  · exact ⟨hl, .inl o⟩
  · exact ⟨hl, .inr ⟨g, cap, cur, rfl, hb, by rw [h.same g (Array.getElem?_eq_some_iff.1 hg).1 (hz g rfl)]; exact hg, hc, hm, hs, ht⟩⟩

/-- A list's words of one's own. -/
theorem own_words {w : World} {lo : Nat} {ai : Option Addr} {n ci : Nat} {l : List Int} (h : w.ownsRow lo 22 1 (.slice ai n ci) n (ucs l)) (hn : l.length = n) {k : Nat} (hk : k < n) : ∃ b x, ai = some ⟨b, 0, none⟩ ∧ lo ≤ b ∧ b < w.heap.size ∧ w.cell? ⟨b, k, none⟩ = some (.int .u64 x) ∧ w.frozen? ⟨b, k, none⟩ = false := by
  obtain ⟨x, hx⟩ : ∃ x, l[k]? = some x := ⟨l[k]'(by omega), by simp [hn, hk]⟩
  obtain ⟨b, e, h1, h2, h3, h4⟩ := owns_cell h (ucs_get hx)
  exact ⟨b, x, e, h1, h2, h3, h4⟩
theorem own_nums {w : World} {lo : Nat} {ai : Option Addr} {n ci : Nat} {l : List Int} (h : w.ownsRow lo 3 1 (.slice ai n ci) n (ncs l)) (hn : l.length = n) {k : Nat} (hk : k < n) : ∃ b x, ai = some ⟨b, 0, none⟩ ∧ lo ≤ b ∧ b < w.heap.size ∧ w.cell? ⟨b, k, none⟩ = some (.int .i64 x) ∧ w.frozen? ⟨b, k, none⟩ = false := by
  obtain ⟨x, hx⟩ : ∃ x, l[k]? = some x := ⟨l[k]'(by omega), by simp [hn, hk]⟩
  obtain ⟨b, e, h1, h2, h3, h4⟩ := owns_cell h (ncs_get hx)
  exact ⟨b, x, e, h1, h2, h3, h4⟩
theorem Cp.list {w : World} {lo : Nat} {c : Vc} {a : Av} (h : Cp w lo c a) {j : Nat} {l : List Int} (hj : c.rs[j]? = some l) : ∃ br ai ci, a.ra = some ⟨br, 0, none⟩ ∧ br < w.heap.size ∧ w.cell? ⟨br, j, none⟩ = some (.slice ai l.length ci) ∧ ∀ k, k < l.length → ∃ b x, ai = some ⟨b, 0, none⟩ ∧ lo ≤ b ∧ b < w.heap.size ∧ w.cell? ⟨b, k, none⟩ = some (.int .u64 x) ∧ w.frozen? ⟨b, k, none⟩ = false := by
  obtain ⟨rs, h1, h2⟩ := h.rt
  obtain ⟨ai, ci, h3, h4⟩ := h2.2 j l hj
  obtain ⟨br, e, g1, g2, g3, g4⟩ := owns_cell h1 h3
  exact ⟨br, ai, ci, e, g2, g3, fun k hk => own_words h4 rfl hk⟩
theorem Cp.obj {w : World} {lo : Nat} {c : Vc} {a : Av} (h : Cp w lo c a) {j : Nat} {o : Ob} (hj : c.os[j]? = some o) : ∃ br ai ci, a.oa = some ⟨br, 0, none⟩ ∧ br < w.heap.size ∧ w.cell? ⟨br, j * 9 + 8, none⟩ = some (.slice ai o.sl.length ci) ∧ ∀ k, k < o.sl.length → ∃ b x, ai = some ⟨b, 0, none⟩ ∧ lo ≤ b ∧ b < w.heap.size ∧ w.cell? ⟨b, k, none⟩ = some (.int .u64 x) ∧ w.frozen? ⟨b, k, none⟩ = false := by
  obtain ⟨rs, h1, h2⟩ := h.ob
  obtain ⟨ai, ci, h3, h4⟩ := h2.2 j o hj
  obtain ⟨br, e, g1, g2, g3, g4⟩ := owns_cell h1 (h3 8 (by decide))
  exact ⟨br, ai, ci, e, g2, g3, fun k hk => own_words h4 rfl hk⟩
theorem Cp.shows {w : World} {lo : Nat} {c : Vc} {a : Av} (h : Cp w lo c a) : Shows w c a := by
  refine ⟨fun j l hj => ?_, fun j o hj => ?_, fun j x hj => ?_⟩
  · obtain ⟨rs, h1, h2⟩ := h.rt
    obtain ⟨ai, ci, h3, h4⟩ := h2.2 j l hj
    obtain ⟨br, e, g1, g2, g3, g4⟩ := owns_cell h1 h3
    refine ⟨br, 0, ai, ci, e, g2, by simpa using g3, fun k x hk => ?_⟩
    obtain ⟨b, e, f1, f2, f3, f4⟩ := owns_cell h4 (ucs_get hk)
    exact ⟨b, 0, e, f2, by simpa using f3⟩
  · obtain ⟨rs, h1, h2⟩ := h.ob
    obtain ⟨ai, ci, h3, h4⟩ := h2.2 j o hj
    obtain ⟨br, e, g1, g2, g3, g4⟩ := owns_cell h1 (h3 0 (by decide))
    refine ⟨br, 0, ai, ci, e, g2, fun q hq => ?_, fun k x hk => ?_⟩
    · obtain ⟨b', e', _, _, f3, _⟩ := owns_cell h1 (h3 q hq)
      rw [e] at e'
      cases e'
      simpa using f3
    · obtain ⟨b, e, f1, f2, f3, f4⟩ := owns_cell h4 (ucs_get hk)
      exact ⟨b, 0, e, f2, by simpa using f3⟩
  · obtain ⟨b, e, f1, f2, f3, f4⟩ := owns_cell h.qu (ncs_get hj)
    exact ⟨b, 0, e, f2, by simpa using f3⟩
end Gr
end Go.Proofs.Ytlbcjolbgeficaa
