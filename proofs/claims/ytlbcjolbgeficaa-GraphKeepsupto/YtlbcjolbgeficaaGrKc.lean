/-
  Graph: GraphKeeps: the law's copy of a view, in memory of its own
-/
import Derived.Test.YtlbcjolbgeficaaGrU0
import Derived.Test.YtlbcjolbgeficaaGrA
namespace Go.Proofs.Ytlbcjolbgeficaa
open Go.RowKit
set_option linter.unusedVariables false
set_option linter.unusedSimpArgs false
set_option linter.unnecessarySimpa false
set_option maxRecDepth 20000
namespace Gr

/-- What bounds a view that is copied. -/
structure Sz (c : Vc) : Prop where
  nr : c.rs.length ≤ 1048576
  rl : ∀ l ∈ c.rs, l.length ≤ 1048576
  no : c.os.length ≤ 1048576
  sl : ∀ o ∈ c.os, o.sl.length ≤ 17592186044415
  nq : c.qu.length ≤ 1048576
/-- Lists that are nil have no room. -/
structure Ncv (w : World) (c : Vc) (a : Av) : Prop where
  rt : ∀ b off j l ai n ci, a.ra = some ⟨b, off, none⟩ → c.rs[j]? = some l → w.cell? ⟨b, off + j, none⟩ = some (.slice ai n ci) → ai = none → ci = 0
  ob : ∀ b off j o ai n ci, a.oa = some ⟨b, off, none⟩ → c.os[j]? = some o → w.cell? ⟨b, off + j * 9 + 8, none⟩ = some (.slice ai n ci) → ai = none → ci = 0
  qu : a.qa = none → a.cq = 0
theorem Ncv.below {w w' : World} {c : Vc} {a : Av} (h : Ncv w c a) (hS : Shows w c a) (hb : Below w.heap.size w w') : Ncv w' c a := by
  refine ⟨fun b off j l ai n ci e hl hc => ?_, fun b off j o ai n ci e ho hc => ?_, h.qu⟩
  · obtain ⟨b', off', _, _, e', hlt, _⟩ := hS.rt j l hl
    rw [e] at e'
    cases e'
    rw [hb.cell (p := ⟨b, off + j, none⟩) hlt] at hc
    exact h.rt b off j l ai n ci e hl hc
  · obtain ⟨b', off', _, _, e', hlt, _⟩ := hS.ob j o ho
    rw [e] at e'
    cases e'
    rw [hb.cell (p := ⟨b, off + j * 9 + 8, none⟩) hlt] at hc
    exact h.ob b off j o ai n ci e ho hc

/-- Lists of words of one's own, as the cells of a row. -/
def Ls (w : World) (z : Nat) (rs : List Value) (ls : List (List Int)) : Prop :=
  rs.length = ls.length ∧ ∀ (j : Nat) (l : List Int), ls[j]? = some l → ∃ (ai : Option Addr) (ci : Nat), rs[j]? = some (.slice ai l.length ci) ∧ w.ownsRow z 22 1 (.slice ai l.length ci) l.length (ucs l)
def Lo (w : World) (z : Nat) (xs : List Value) (os : List Ob) : Prop :=
  xs.length = os.length * 9 ∧ ∀ (j : Nat) (o : Ob), os[j]? = some o → ∃ (ai : Option Addr) (ci : Nat), (∀ q, q < 9 → xs[j * 9 + q]? = some (o.cell (.slice ai o.sl.length ci) q)) ∧ w.ownsRow z 22 1 (.slice ai o.sl.length ci) o.sl.length (ucs o.sl)
/-- Every row of one's own of this type stays as it is. -/
def Kp (t : TypeId) (w w' : World) (z : Nat) : Prop := ∀ v n xs, w.ownsRow z t 1 v n xs → w'.ownsRow z t 1 v n xs
theorem Kp.trans {t : TypeId} {a b c : World} {z : Nat} (h : Kp t a b z) (k : Kp t b c z) : Kp t a c z := fun v n xs o => k v n xs (h v n xs o)
theorem Ls.on {w w' : World} {z : Nat} {rs : List Value} {ls : List (List Int)} (h : Ls w z rs ls) (k : Kp 22 w w' z) : Ls w' z rs ls :=
  ⟨h.1, fun j l hl => by obtain ⟨ai, ci, h1, h2⟩ := h.2 j l hl; exact ⟨ai, ci, h1, k _ _ _ h2⟩⟩
theorem Lo.on {w w' : World} {z : Nat} {rs : List Value} {ls : List Ob} (h : Lo w z rs ls) (k : Kp 22 w w' z) : Lo w' z rs ls :=
  ⟨h.1, fun j l hl => by obtain ⟨ai, ci, h1, h2⟩ := h.2 j l hl; exact ⟨ai, ci, h1, k _ _ _ h2⟩⟩
theorem own_set {w : World} {base : Nat} {e : TypeId} {size : Nat} {v : Value} {n : Nat} {xs : List Value} (h : w.ownsRow base e size v n xs) (p : Addr) (u : Value) (hne : v.ownBlock ≠ some p.block) : (w.setCell p u).ownsRow base e size v n xs := by
  obtain ⟨hl, h | ⟨g, cap, cur, rfl, hb, hg, hc, hm, hs, ht⟩⟩ := h
  · exact ⟨hl, .inl h⟩
  · refine ⟨hl, .inr ⟨g, cap, cur, rfl, hb, ?_, hc, hm, hs, ht⟩⟩
    rw [Below.heap_setCell _ _ _ _ (fun e => hne (by simp [Value.ownBlock, e]))]
    exact hg
theorem own_low {w : World} {base : Nat} {e : TypeId} {size : Nat} {v : Value} {n : Nat} {xs : List Value} (h : w.ownsRow base e size v n xs) {p : Addr} (hp : p.block < base) (u : Value) : (w.setCell p u).ownsRow base e size v n xs := own_set h p u (fun e => by have := (h.lt _ e).1; omega)
theorem kp_alloc (t : TypeId) (w : World) (z : Nat) (o : Obj) : Kp t w (w.alloc o) z := fun v n xs h => h.alloc o
theorem kp_new {t : TypeId} {w w' : World} {z : Nat} {o : Obj} (hz : z ≤ w.heap.size) (g : (w.alloc o).grownBy w' (some w.heap.size)) : Kp t w w' z := fun v n xs h =>
  (h.alloc o).kept g (.inr (fun e => by have := (h.lt _ e).2; omega))
theorem kp_none {t : TypeId} {w w' : World} {z : Nat} (g : w.grownBy w' none) : Kp t w w' z := fun v n xs h => by
  cases e : v.ownBlock with
  | none => exact h.kept g (.inl e)
  | some x => exact h.kept g (.inr (by rw [e]; simp))
theorem kp_row {t' : TypeId} {w w' : World} {z : Nat} {t : TypeId} {sz n : Nat} {V : Value} {ys : List Value} (H : w.ownsRow z t sz V n ys) (ht : ¬ t' = t) (g : w.grownBy w' V.ownBlock) : Kp t' w w' z := fun v n xs h => h.kept g (owns_ne h H ht)
/-- A box made, a row made behind it, a cell of the box written. -/
theorem own_obj {wr w5 : World} {z : Nat} {t : TypeId} {sz : Nat} {v : Value} {n : Nat} {xs : List Value} {o1 o2 : Obj} (h : wr.ownsRow z t sz v n xs) (G5 : ((wr.alloc o1).alloc o2).grownBy w5 (some (wr.heap.size + 1))) (u : Value) : (w5.setCell ⟨wr.heap.size, 8, none⟩ u).ownsRow z t sz v n xs :=
  own_set (((h.alloc o1).alloc o2).kept G5 (.inr (fun e => by have := (h.lt _ e).2; omega))) _ u (fun e => by have := (h.lt _ e).2; simp at this)

theorem ls_step {w : World} {z : Nat} {rs : List Value} {ls : List (List Int)} {l : List Int} {ai : Option Addr} {ci : Nat} (h : Ls w z rs ls) (o : w.ownsRow z 22 1 (.slice ai l.length ci) l.length (ucs l)) : Ls w z (rs ++ [.slice ai l.length ci]) (ls ++ [l]) := by
  refine ⟨by simp [h.1], fun j m hm => ?_⟩
  by_cases hj : j < ls.length
  · rw [List.getElem?_append_left hj] at hm
    obtain ⟨ai', ci', h1, h2⟩ := h.2 j m hm
    exact ⟨ai', ci', by rw [List.getElem?_append_left (by rw [h.1]; exact hj)]; exact h1, h2⟩
  · rw [List.getElem?_append_right (by omega)] at hm
    have hj2 : j - ls.length = 0 := by
      have := (List.getElem?_eq_some_iff.1 hm).1
      simp at this
      omega
    rw [hj2] at hm
    simp at hm
    subst hm
    refine ⟨ai, ci, ?_, o⟩
    rw [List.getElem?_append_right (by rw [h.1]; omega), h.1, hj2]
    rfl
theorem lo_step {w : World} {z : Nat} {xs : List Value} {os : List Ob} {b : Ob} {ai : Option Addr} {ci : Nat} (h : Lo w z xs os) (o : w.ownsRow z 22 1 (.slice ai b.sl.length ci) b.sl.length (ucs b.sl)) : Lo w z (xs ++ b.cells (.slice ai b.sl.length ci)) (os ++ [b]) := by
  refine ⟨by simp [h.1, Ob.cells]; omega, fun j m hm => ?_⟩
  by_cases hj : j < os.length
  · rw [List.getElem?_append_left hj] at hm
    obtain ⟨ai', ci', h1, h2⟩ := h.2 j m hm
    exact ⟨ai', ci', fun q hq => by rw [List.getElem?_append_left (by rw [h.1]; omega)]; exact h1 q hq, h2⟩
  · rw [List.getElem?_append_right (by omega)] at hm
    have hj2 : j - os.length = 0 := by
      have := (List.getElem?_eq_some_iff.1 hm).1
      simp at this
      omega
    have hj3 : j = os.length := by omega
    rw [hj2] at hm
    simp at hm
    subst hm
    refine ⟨ai, ci, fun q hq => ?_, o⟩
    rw [List.getElem?_append_right (by rw [h.1]; omega), h.1, hj3, show os.length * 9 + q - os.length * 9 = q by omega]
    exact b.cells_get _ hq
theorem take_step {α : Type} {l : List α} {k : Nat} {x : α} (h : l[k]? = some x) : l.take (k + 1) = l.take k ++ [x] := by
  rw [List.take_add_one, h]
  rfl

/-- A view in memory of one's own, from block lo on. -/
structure Cp (w : World) (lo : Nat) (c : Vc) (a : Av) : Prop where
  rt : ∃ rs, w.ownsRow lo 23 1 (.slice a.ra c.rs.length a.cr) c.rs.length rs ∧ Ls w lo rs c.rs
  ob : ∃ xs, w.ownsRow lo 41 9 (.slice a.oa c.os.length a.cb) c.os.length xs ∧ Lo w lo xs c.os
  qu : w.ownsRow lo 3 1 (.slice a.qa c.qu.length a.cq) c.qu.length (ncs c.qu)
theorem Ls.low {w : World} {z lo : Nat} {rs : List Value} {ls : List (List Int)} (h : Ls w z rs ls) (hl : lo ≤ z) : Ls w lo rs ls :=
  ⟨h.1, fun j l e => by obtain ⟨ai, ci, h1, h2⟩ := h.2 j l e; exact ⟨ai, ci, h1, owns_low h2 hl⟩⟩
theorem Lo.low {w : World} {z lo : Nat} {rs : List Value} {ls : List Ob} (h : Lo w z rs ls) (hl : lo ≤ z) : Lo w lo rs ls :=
  ⟨h.1, fun j l e => by obtain ⟨ai, ci, h1, h2⟩ := h.2 j l e; exact ⟨ai, ci, h1, owns_low h2 hl⟩⟩
theorem Cp.low {w : World} {z lo : Nat} {c : Vc} {a : Av} (h : Cp w z c a) (hl : lo ≤ z) : Cp w lo c a := by
  obtain ⟨⟨rs, h1, h2⟩, ⟨xs, h3, h4⟩, h5⟩ := h
  exact ⟨⟨rs, owns_low h1 hl, h2.low hl⟩, ⟨xs, owns_low h3 hl, h4.low hl⟩, owns_low h5 hl⟩
theorem Cp.set {w : World} {z : Nat} {c : Vc} {a : Av} (h : Cp w z c a) {p : Addr} (hp : p.block < z) (u : Value) : Cp (w.setCell p u) z c a := by
  obtain ⟨⟨rs, h1, h2⟩, ⟨xs, h3, h4⟩, h5⟩ := h
  have k : Kp 22 w (w.setCell p u) z := fun v n xs o => own_low o hp u
  exact ⟨⟨rs, own_low h1 hp u, h2.on k⟩, ⟨xs, own_low h3 hp u, h4.on k⟩, own_low h5 hp u⟩
theorem news_n {w : World} {ao : Option Addr} {l : List Int} (h : SeesN w ao l) : ∀ ad, ao = some ad → ∀ j u, (ncs l)[j]? = some u → w.cell? (ad.add j) = some u := by
  intro ad hao j u hu
  have hj : j < l.length := by have := (List.getElem?_eq_some_iff.1 hu).1; simpa [ncs] using this
  obtain ⟨x, hx⟩ : ∃ x, l[j]? = some x := ⟨l[j], by simp [hj]⟩
  obtain ⟨b, off, he, hbl, hcc⟩ := h j x hx
  rw [hao] at he
  cases he
  rw [ncs_get hx] at hu
  cases hu
  rw [Go.WideShapes.add_plain]
  exact hcc
theorem nil_lenN {w : World} {ao : Option Addr} {l : List Int} (h : SeesN w ao l) (hao : ao = none) : l.length = 0 := by
  cases l with
  | nil => rfl
  | cons x r =>
    obtain ⟨b, off, he, _⟩ := h 0 x rfl
    rw [hao] at he
    cases he
end Gr
end Go.Proofs.Ytlbcjolbgeficaa
