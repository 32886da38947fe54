/-
  View: what writes over lists of one's own leave as it is: all other blocks, and the forms of rows
-/
import Derived.Test.YtbffhfmhjnflbaaVwY
import Derived.Test.YtbffhfmhjnflbaaVwF
import Derived.Test.YtbffhfmhjnflbaaVwI
namespace Go.Proofs.Ytbffhfmhjnflbaa
open Go.RowKit
set_option linter.unusedVariables false
set_option linter.unusedSimpArgs false
set_option linter.unnecessarySimpa false
set_option maxRecDepth 20000
namespace Vw
open Shape

/-- From w to w' only blocks from lo up to hi were written, and new ones made. -/
structure Ovw (lo hi : Nat) (w w' : World) : Prop where
  b : Below lo w w'
  same : ∀ k, hi ≤ k → k < w.heap.size → w'.heap[k]? = w.heap[k]?
  shape : ∀ (k : Nat) (cur : Array Value) (t : TypeId) (f : Nat × Nat), w.heap[k]? = some (Obj.cells cur t f) → ∃ cur' : Array Value, w'.heap[k]? = some (Obj.cells cur' t f) ∧ cur'.size = cur.size
theorem Ovw.refl (lo hi : Nat) (w : World) : Ovw lo hi w w := ⟨Below.refl _ _, fun _ _ _ => rfl, fun k cur t f h => ⟨cur, h, rfl⟩⟩
theorem Ovw.trans {lo hi : Nat} {w w1 w2 : World} (h : Ovw lo hi w w1) (h' : Ovw lo hi w1 w2) : Ovw lo hi w w2 := by
  have hs := h.b.size
  refine ⟨h.b.trans h'.b, fun k h1 h2 => (h'.same k h1 (by omega)).trans (h.same k h1 h2), fun k cur t f h1 => ?_⟩
  obtain ⟨c1, h2, h3⟩ := h.shape k cur t f h1
  obtain ⟨c2, h4, h5⟩ := h'.shape k c1 t f h2
  exact ⟨c2, h4, h5.trans h3⟩
theorem Ovw.below {lo hi : Nat} {w w' : World} (h : Below w.heap.size w w') (hl : lo ≤ w.heap.size) : Ovw lo hi w w' :=
  ⟨h.mono hl, fun k _ h2 => h.block k h2, fun k cur t f h1 => ⟨cur, by rw [h.block k (Array.getElem?_eq_some_iff.1 h1).1]; exact h1, rfl⟩⟩
theorem Ovw.set {lo hi : Nat} {w w' : World} (h : Ovw lo hi w w') {p : Addr} (h1 : lo ≤ p.block) (h2 : p.block < hi) (v : Value) : Ovw lo hi w (w'.setCell p v) := by
  refine ⟨h.b.setCell h1 _, fun k h3 h4 => (Below.heap_setCell _ _ _ _ (by omega)).trans (h.same k h3 h4), fun k cur t f h3 => ?_⟩
  obtain ⟨c1, h4, h5⟩ := h.shape k cur t f h3
  by_cases e : k = p.block
  · subst e
    have hlt := (Array.getElem?_eq_some_iff.1 h4).1
    have hv := (Array.getElem?_eq_some_iff.1 h4).2
    refine ⟨if p.spot.isSome then c1 else c1.setIfInBounds p.off v, ?_, ?_⟩
    · unfold World.setCell
      rw [Array.getElem?_eq_getElem (by simpa using hlt)]
      simp [Array.getElem_modify, hv]
    · split
      · exact h5
      · simpa using h5
  · exact ⟨c1, (Below.heap_setCell _ _ _ _ e).trans h4, h5⟩

/-- A row of one's own, whatever it holds. -/
def Rw (w : World) (lo hi : Nat) (e : TypeId) (size : Nat) (ao : Option Addr) (n cap : Nat) : Prop :=
  (ao = none ∧ n = 0 ∧ cap = 0) ∨ ∃ (g : Nat) (cur : Array Value), ao = some ⟨g, 0, none⟩ ∧ lo ≤ g ∧ g < hi ∧ w.heap[g]? = some (Obj.cells cur e (0, 0)) ∧ n ≤ cap ∧ cap ≤ maxLen ∧ cur.size = cap * size
theorem Rw.of {V w : World} {lo : Nat} {e : TypeId} {size : Nat} {ao : Option Addr} {n cap : Nat} {xs : List Value} (h : V.ownsRow lo e size (.slice ao n cap) n xs) (hb : Below V.heap.size V w) : Rw w lo V.heap.size e size ao n cap := by
  obtain ⟨hl, ⟨h1, h2⟩ | ⟨g, cap', cur, h1, hb', hg, hc, hm, hs, ht⟩⟩ := h
  · cases h1
    exact .inl ⟨rfl, rfl, rfl⟩
  · cases h1
    have hlt := (Array.getElem?_eq_some_iff.1 hg).1
    exact .inr ⟨g, cur, rfl, hb', hlt, by rw [hb.block g hlt]; exact hg, hc, hm, hs⟩
theorem Rw.sp {w w' : World} {lo hi : Nat} {e : TypeId} {size : Nat} {ao : Option Addr} {n cap : Nat} (h : Rw w lo hi e size ao n cap) (hs : Ovw lo hi w w') : Rw w' lo hi e size ao n cap := by
  rcases h with h | ⟨g, cur, h1, h2, h3, h4, h5, h6, h7⟩
  · exact .inl h
  · obtain ⟨c1, g1, g2⟩ := hs.shape g cur _ _ h4
    exact .inr ⟨g, c1, h1, h2, h3, g1, h5, h6, g2.trans h7⟩
theorem Rw.cell {w : World} {lo hi : Nat} {e : TypeId} {size : Nat} {ao : Option Addr} {n cap i : Nat} (h : Rw w lo hi e size ao n cap) (hi' : i < n * size) : ∃ g u, ao = some ⟨g, 0, none⟩ ∧ lo ≤ g ∧ g < hi ∧ w.cell? ⟨g, i, none⟩ = some u := by
  rcases h with ⟨_, rfl, _⟩ | ⟨g, cur, h1, h2, h3, h4, h5, h6, h7⟩
  · simp at hi'
  · have hlt : i < cur.size := by rw [h7]; exact Nat.lt_of_lt_of_le hi' (Nat.mul_le_mul_right _ h5)
    exact ⟨g, cur[i], h1, h2, h3, by simp [World.cell?, h4, hlt]⟩
theorem Rw.frozen {w : World} {lo hi : Nat} {e : TypeId} {size : Nat} {g n cap : Nat} (h : Rw w lo hi e size (some ⟨g, 0, none⟩) n cap) (i : Nat) : w.frozen? ⟨g, i, none⟩ = false := by
  rcases h with ⟨h1, _⟩ | ⟨g', cur, h1, h2, h3, h4, h5, h6, h7⟩
  · cases h1
  · cases h1
    simp [World.frozen?, h4]
theorem Rw.some {w : World} {lo hi : Nat} {e : TypeId} {size : Nat} {ao : Option Addr} {n cap : Nat} (h : Rw w lo hi e size ao n cap) (hn : 0 < n) : ∃ g, ao = some ⟨g, 0, none⟩ ∧ lo ≤ g ∧ g < hi := by
  rcases h with ⟨_, rfl, _⟩ | ⟨g, cur, h1, h2, h3, _⟩
  · omega
  · exact ⟨g, h1, h2, h3⟩

/-- append of one number to such a row. -/
theorem append_sp {P : Program} {w : World} {lo hi : Nat} (t ty e : TypeId) (i : TypeInfo) (z : Value) (ht : P.underlying t = some (.slice e)) (hi' : P.info? e = some i) (hz : i.zero = some z) (hsize : i.size = 1) (hby : i.bytes = 8)
    {ao : Option Addr} {n cap : Nat} (h : Rw w lo hi e 1 ao n cap) (hn : n ≤ 70000) (hlo : lo ≤ w.heap.size) (ad : Addr) (c : Nat) (u : Value) (hu : w.cell? ad = some u) (h1 : u.oneCell' = true) :
    ∃ a' c' w', (Builtin.append_ #[t, t] ty #[.slice ao n cap, .slice (some ad) 1 c]).run P w = .ok (.slice a' (n + 1) c') w' ∧ Ovw lo hi w w' := by
  have hnews : ∀ j v, [u][j]? = some v → w.cell? (ad.add j) = some v := by
    intro j v hj
    have : j = 0 := by have := (List.getElem?_eq_some_iff.1 hj).1; simpa using this
    subst this
    simp at hj
    subst hj
    have : ad.add 0 = ad := by cases ad; rename_i b o s; cases s <;> simp [Addr.add]
    rw [this]
    exact hu
  have hal : ∀ o : Obj, Ovw lo hi w (w.drew.alloc o) := fun o => Ovw.below ((((Below.refl _ w).drew).alloc (Nat.le_refl _) _)) hlo
  rcases h with ⟨rfl, rfl, rfl⟩ | ⟨g, cur, rfl, h2, h3, h4, h5, h6, h7⟩
  · have hr := run_append_nil (P := P) w t ty e i z ht hi' hz ad 1 c [u] (by simp [hsize]) hnews (by omega) (by omega) (by rw [hby]; omega)
    exact ⟨_, _, _, hr, hal _⟩
  · by_cases hroom : n + 1 ≤ cap
    · have hr := run_append_room (P := P) w t ty e i ht hi' g n cap cur h4 ad 1 c [u] (by simp [hsize]) hnews (by simpa using h1) hroom (by simp only [hsize, h7, List.length_singleton]; omega)
      refine ⟨_, _, _, hr, ⟨rfl, rfl, rfl, by simp [World.setRow], fun k hk => setRow_other w g k _ (by omega)⟩, fun k h8 h9 => setRow_other w g k _ (by omega), fun k cur' t' f' hk => ?_⟩
      by_cases e' : k = g
      · subst e'
        rw [h4] at hk
        injection hk with hk
        injection hk with ha hb hc
        subst ha hb hc
        refine ⟨_, setRow_heap w k cur _ e _ h4, ?_⟩
        simp only [List.size_toArray, List.length_append, List.length_take, List.length_drop, Array.length_toList, List.length_singleton, hsize]
        omega
      · exact ⟨cur', (setRow_other w g k _ e').trans hk, rfl⟩
    · have holds : ∀ j v, (cur.toList.take n)[j]? = some v → w.cell? ((⟨g, 0, none⟩ : Addr).add j) = some v := by
        intro j v hj
        rw [Go.WideShapes.add_plain, Nat.zero_add]
        rw [List.getElem?_take] at hj
        split at hj
        · simp only [World.cell?, h4]
          simpa using hj
        · cases hj
      have hr := run_append_grow (P := P) w t ty e i z ht hi' hz ⟨g, 0, none⟩ n cap (cur.toList.take n) (by simp [hsize]; omega) holds ad 1 c [u] (by simp [hsize]) hnews (by omega) (by omega) (growslice_fits (by omega) (by rw [hby]; omega))
      exact ⟨_, _, _, hr, hal _⟩

theorem wpList_append_sp {P : Program} {w : World} {ops : Array Oper} {rest : List Oper} {o : Oper} {a : Act} {Q : Exit → Act → World → Prop} {lo hi : Nat} (hgd : o.guard = none) (s x : Operand) (t : TypeId)
    (ho : o.op = .call { callee := .builtin .append, args := #[s, x], argTypes := #[t, t] })
    (e : TypeId) (i : TypeInfo) (z : Value) (ht : P.underlying t = some (.slice e)) (hi' : P.info? e = some i) (hz : i.zero = some z) (hsize : i.size = 1) (hby : i.bytes = 8)
    {ao : Option Addr} {n cap : Nat} (h : Rw w lo hi e 1 ao n cap) (hn : n ≤ 70000) (hlo : lo ≤ w.heap.size) (hs : a.eval s = .slice ao n cap) (ad : Addr) (c : Nat) (hx : a.eval x = .slice (some ad) 1 c) (u : Value) (hu : w.cell? ad = some u) (h1 : u.oneCell' = true)
    (hk : ∀ a' c' w', Ovw lo hi w w' → wpList P ops Q rest (a.put o.dst (.slice a' (n + 1) c')) w') : wpList P ops Q (o :: rest) a w := by
  refine wpList_plain hgd fun K hK => ?_
  obtain ⟨a', c', w', hr, hsp⟩ := append_sp (P := P) t o.type e i z ht hi' hz hsize hby h hn hlo ad c u hu h1
  unfold Oper.wp execOp
  simp only [ho, resolve, invoke, builtin, Sem.run_bind, Sem.run_pure, Result.andThen_ok, List.map_toArray, List.map_cons, List.map_nil, hs, hx, hr]
  exact hK _ _ (hk a' c' w' hsp)
end Vw
end Go.Proofs.Ytbffhfmhjnflbaa
