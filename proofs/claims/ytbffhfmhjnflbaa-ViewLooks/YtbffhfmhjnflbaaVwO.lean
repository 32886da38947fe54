/-
  View: single operations: slices of one element, a slice's store; append at an operation.
-/
import Derived.Test.YtbffhfmhjnflbaaVwD
import Derived.Test.YtbffhfmhjnflbaaLtC
namespace Go.Proofs.Ytbffhfmhjnflbaa
open Go.RowKit
set_option linter.unusedVariables false
set_option linter.unusedSimpArgs false
set_option linter.unnecessarySimpa false
set_option maxRecDepth 20000
namespace Vw
open Shape
section
variable {ev : Operand → Value} {o : Oper} {w : World}
theorem ex_bsS {x : Operand} {ao : Option Addr} {n m : Nat} (ho : o.op = .buildSlice 28 1 #[(0, x)]) (hx : ev x = .slice ao n m) : (execOp ev o).run Try.prog w = .ok (.value (.slice (some ⟨w.heap.size, 0, none⟩) 1 1)) (w.alloc (.cells #[.slice ao n m] 24)) := by
  simp [execOp, ho, hx, go_sem]
theorem ex_bsO {x : Operand} {u l f t : Bool} {a g k n : Int} {ao : Option Addr} {p q : Nat} (ho : o.op = .buildSlice 29 1 #[(0, x)]) (hx : ev x = .agg #[.bool u, .bool l, .bool f, .bool t, .int .i64 a, .int .u64 g, .int .u64 k, .int .u64 n, .slice ao p q]) : (execOp ev o).run Try.prog w = .ok (.value (.slice (some ⟨w.heap.size, 0, none⟩) 1 1)) (w.alloc (.cells #[.bool u, .bool l, .bool f, .bool t, .int .i64 a, .int .u64 g, .int .u64 k, .int .u64 n, .slice ao p q] 57)) := by
  simp [execOp, ho, hx, go_sem]
theorem ex_arr {x : Operand} {b off : Nat} (ho : o.op = .slice 31 x none none none) (hx : ev x = .pointer (some ⟨b, off, none⟩)) : (execOp ev o).run Try.prog w = .ok (.value (.slice (some ⟨b, off, none⟩) 4 4)) w := by
  simp [execOp, ho, hx, go_sem]
end
theorem wp_storeS {P : Program} {Q : Exit → Act → World → Prop} {K : Act → World → Prop} {a : Act} {o : Oper} {w : World} {ty : TypeId} {x y : Operand} {b off : Nat} {ao : Option Addr} {n m : Nat} {u : Value} (ho : o.op = .store ty x y) (hd : o.dst = none) (hx : a.eval x = .pointer (some ⟨b, off, none⟩)) (hy : a.eval y = .slice ao n m) (hs : (sizeOf ty).run P w = .ok 1 w) (hc : w.cell? ⟨b, off, none⟩ = some u) (hf : w.frozen? ⟨b, off, none⟩ = false) (h : K (a.put o.dst undef) (w.setCell ⟨b, off, none⟩ (.slice ao n m))) : o.wp P a w K Q := by
  simp only [Oper.wp, execOp, ho, hx, hy]
  simp [go_sem, hc, hf, hs, Oper.upon]
  exact h
theorem wp_append {P : Program} {w : World} {o : Oper} {a : Act} {K : Act → World → Prop} {Q : Exit → Act → World → Prop} (s x : Operand) (t : TypeId)
    (ho : o.op = .call { callee := .builtin .append, args := #[s, x], argTypes := #[t, t] })
    (base : Nat) (e : TypeId) (i : TypeInfo) (z : Value) (size bytes : Nat) (ht : P.underlying t = some (.slice e)) (hi : P.info? e = some i) (hz : i.zero = some z)
    (hsize : i.size = size) (hby : i.bytes = bytes) (hzs : z.cells.size = size) (hsz : 0 < size)
    (v : Value) (n : Nat) (xs : List Value) (hs : a.eval s = v) (hown : w.ownsRow base e size v n xs)
    (ad : Addr) (m c : Nat) (news : List Value) (hx : a.eval x = .slice (some ad) m c) (hl : news.length = m * size) (hnews : ∀ j u, news[j]? = some u → w.cell? (ad.add j) = some u) (h1 : ∀ u ∈ news, u.oneCell' = true)
    (h63 : n + m ≤ maxLen) (hbytes : (n + m) * bytes ≤ 140737488355328) (hbase : base ≤ w.heap.size)
    (h : ∀ v' w', w'.ownsRow base e size v' (n + m) (xs ++ news) → w.grownBy w' v.ownBlock → K (a.put o.dst v') w') : o.wp P a w K Q := by
  obtain ⟨v', w', hr, h2, h3, _, _⟩ := run_append_own_at (P := P) w base t o.type e i z size bytes ht hi hz hsize hby hzs hsz v n xs hown ad m c news hl hnews h1 h63 hbytes hbase
  unfold Oper.wp execOp
  simp only [ho, resolve, invoke, builtin, Sem.run_bind, Sem.run_pure, Result.andThen_ok, List.map_toArray, List.map_cons, List.map_nil, hs, hx, hr]
  exact h v' w' h2 h3

theorem row_set {W : World} {g : Nat} {t : TypeId} {n : Nat} {l : List Value} (hr : W.rowIs g t n (lrow l)) (hl : l.length = n) (i : Nat) (v : Value) : (W.setCell ⟨g, i, none⟩ v).rowIs g t n (lrow (l.set i v)) := by
  obtain ⟨cur, h1, h2, h3⟩ := hr.set i v
  refine ⟨cur, h1, h2, fun j hj => ?_⟩
  rw [h3 j hj]
  congr 1
  simp only [lrow, List.getElem?_set]
  by_cases e : j = i
  · subst e; simp [hl, hj]
  · simp [e, Ne.symm e]
theorem rng7 {w' : World} {b : Nat} {v0 v1 v2 v3 v4 v5 v6 : Value} (y0 : w'.cell? ⟨b, 0, none⟩ = some v0) (y1 : w'.cell? ⟨b, 1, none⟩ = some v1) (y2 : w'.cell? ⟨b, 2, none⟩ = some v2) (y3 : w'.cell? ⟨b, 3, none⟩ = some v3) (y4 : w'.cell? ⟨b, 4, none⟩ = some v4) (y5 : w'.cell? ⟨b, 5, none⟩ = some v5) (y6 : w'.cell? ⟨b, 6, none⟩ = some v6) : w'.rangeAt b 0 [v0, v1, v2, v3, v4, v5, v6] := by
  intro j v hv
  match j, hv with
  | 0, hv => cases hv; simpa using y0
  | 1, hv => cases hv; simpa using y1
  | 2, hv => cases hv; simpa using y2
  | 3, hv => cases hv; simpa using y3
  | 4, hv => cases hv; simpa using y4
  | 5, hv => cases hv; simpa using y5
  | 6, hv => cases hv; simpa using y6
theorem row_on {W W' : World} {g : Nat} {t : TypeId} {n : Nat} {F : Nat → Value} (hr : W.rowIs g t n F) (hb : Below W.heap.size W W') : W'.rowIs g t n F := hr.of_block (hb.block g hr.lt)


theorem cells_new (w : World) (l : List Value) (t : TypeId) : ∀ j u, l[j]? = some u → (w.alloc (.cells l.toArray t)).cell? ((⟨w.heap.size, 0, none⟩ : Addr).add j) = some u := by
  intro j u hj
  have hl := (List.getElem?_eq_some_iff.1 hj).1
  rw [Go.WideShapes.add_plain, Nat.zero_add, (rowL_alloc w l t rfl).cell hl]
  simp [lrow, hj]

/-- What 'x.f = append(x.f, g(h(..)))' leaves, link by link: h's answer, g's, the slice of one, append's, the store's. -/
def AS (wr : World) (bb vb fld : Nat) (e : TypeId) (size : Nat) (rv : Value) (q : Nat) (rs : List Value) (x1 x2 x3 x4 : Nat) (A : Value → Prop) (Bp : World → Value → Prop) : Nat → (Nat → Value) → World → Prop
  | 0, s, w => Below wr.heap.size wr w
  | 1, s, w => Below wr.heap.size wr w ∧ A (s x1)
  | 2, s, w => Below wr.heap.size wr w ∧ Bp w (s x2)
  | 3, s, w => Below wr.heap.size wr w ∧ Bp w (s x2) ∧ ∃ g6, s x3 = .slice (some ⟨g6, 0, none⟩) 1 1 ∧ ∀ j u, (s x2).cells.toList[j]? = some u → w.cell? ((⟨g6, 0, none⟩ : Addr).add j) = some u
  | 4, s, w => ∃ w6, Below wr.heap.size wr w6 ∧ Bp w6 (s x2) ∧ w6.grownBy w rv.ownBlock ∧ w.ownsRow bb e size (s x4) (q + 1) (rs ++ (s x2).cells.toList)
  | _, s, w => ∃ w6 w7, Below wr.heap.size wr w6 ∧ Bp w6 (s x2) ∧ w6.grownBy w7 rv.ownBlock ∧ w7.ownsRow bb e size (s x4) (q + 1) (rs ++ (s x2).cells.toList) ∧ w = w7.setCell ⟨vb, fld, none⟩ (s x4)
section
variable {wr : World} {bb vb fld : Nat} {e : TypeId} {size : Nat} {rv : Value} {q : Nat} {rs : List Value} {x1 x2 x3 x4 : Nat} {A : Value → Prop} {Bp : World → Value → Prop} {n : Nat} {s s' : Nat → Value} {w : World}
theorem AS.local (h1 : s x1 = s' x1) (h2 : s x2 = s' x2) (h3 : s x3 = s' x3) (h4 : s x4 = s' x4) (h : AS wr bb vb fld e size rv q rs x1 x2 x3 x4 A Bp n s w) : AS wr bb vb fld e size rv q rs x1 x2 x3 x4 A Bp n s' w := by
  match n, h with
  | 0, h => exact h
  | 1, h => simp only [AS] at h ⊢; rw [← h1]; exact h
  | 2, h => simp only [AS] at h ⊢; rw [← h2]; exact h
  | 3, h => simp only [AS] at h ⊢; rw [← h2, ← h3]; exact h
  | 4, h => simp only [AS] at h ⊢; rw [← h2, ← h4]; exact h
  | n + 5, h => simp only [AS] at h ⊢; rw [← h2, ← h4]; exact h
theorem AS.early (hn : n ≤ 3) (h : AS wr bb vb fld e size rv q rs x1 x2 x3 x4 A Bp n s w) : Below wr.heap.size wr w := by
  match n, hn, h with
  | 0, _, h => exact h
  | 1, _, h => exact h.1
  | 2, _, h => exact h.1
  | 3, _, h => exact h.1
theorem AS.low (hv : vb < bb) (hb : bb ≤ wr.heap.size) (HO : wr.ownsRow bb e size rv q rs) (h : AS wr bb vb fld e size rv q rs x1 x2 x3 x4 A Bp n s w) : Below vb wr w := by
  have hl : ∀ {w6 w7 : World}, Below wr.heap.size wr w6 → w6.grownBy w7 rv.ownBlock → Below vb wr w7 := fun {w6 w7} h1 h2 => by
    have h3 := h1.size
    exact (below_grown (h1.mono hb) (owns_on HO h1) h2 (by omega)).mono (by omega)
  match n, h with
  | 0, h => exact Below.mono h (by omega)
  | 1, h => exact h.1.mono (by omega)
  | 2, h => exact h.1.mono (by omega)
  | 3, h => exact h.1.mono (by omega)
  | 4, h =>
    obtain ⟨w6, h1, _, h3, _⟩ := h
    exact hl h1 h3
  | n + 5, h =>
    obtain ⟨w6, w7, h1, _, h3, _, rfl⟩ := h
    exact (hl h1 h3).setCell (Nat.le_refl _) _
theorem AS.other (hv : vb < bb) (hb : bb ≤ wr.heap.size) (HO : wr.ownsRow bb e size rv q rs) (h : AS wr bb vb fld e size rv q rs x1 x2 x3 x4 A Bp n s w) {t : TypeId} {m : Nat} {F : Nat → Value} (hr : wr.rowIs vb t m F) {i : Nat} (hi : i < m) (hne : ¬ i = fld) : w.cell? ⟨vb, i, none⟩ = some (F i) := by
  have hl : ∀ {w6 w7 : World}, Below wr.heap.size wr w6 → w6.grownBy w7 rv.ownBlock → w7.rowIs vb t m F := fun {w6 w7} h1 h2 => (row_on hr h1).of_block (h2.block vb (by have := hr.lt; have := h1.size; omega) (fun e => by have := (HO.lt vb e.symm).1; omega))
  match n, h with
  | 0, h => exact (row_on hr h).cell hi
  | 1, h => exact (row_on hr h.1).cell hi
  | 2, h => exact (row_on hr h.1).cell hi
  | 3, h => exact (row_on hr h.1).cell hi
  | 4, h =>
    obtain ⟨w6, h1, _, h3, _⟩ := h
    exact (hl h1 h3).cell hi
  | n + 5, h =>
    obtain ⟨w6, w7, h1, _, h3, _, rfl⟩ := h
    rw [World.cell?_setCell_other _ _ _ _ (fun e => by injection e with _ e2 _; exact hne (by omega))]
    exact (hl h1 h3).cell hi
theorem AS.end (hv : vb < bb) (hb : bb ≤ wr.heap.size) (HO : wr.ownsRow bb e size rv q rs) (h : AS wr bb vb fld e size rv q rs x1 x2 x3 x4 A Bp 5 s w) :
    (w.ownsRow bb e size (s x4) (q + 1) (rs ++ (s x2).cells.toList)) ∧ (∃ w6, Below wr.heap.size wr w6 ∧ Bp w6 (s x2) ∧ ∀ e' size' v' n' xs', ¬ e' = e → w6.ownsRow bb e' size' v' n' xs' → w.ownsRow bb e' size' v' n' xs') ∧ (∀ e' size' v' n' xs', ¬ e' = e → wr.ownsRow bb e' size' v' n' xs' → w.ownsRow bb e' size' v' n' xs') ∧ (∀ t n l, wr.rowIs vb t n (lrow l) → l.length = n → w.rowIs vb t n (lrow (l.set fld (s x4)))) ∧ Below vb wr w := by
  have hlow := AS.low hv hb HO h
  obtain ⟨w6, w7, h1, h2, h3, h4, rfl⟩ := h
  have hk : ∀ e' size' v' n' xs', ¬ e' = e → w6.ownsRow bb e' size' v' n' xs' → (w7.setCell ⟨vb, fld, none⟩ (s x4)).ownsRow bb e' size' v' n' xs' := fun e' size' v' n' xs' hne h' => owns_set (h'.kept h3 (owns_ne h' (owns_on HO h1) hne)) hv _
  refine ⟨owns_set h4 hv _, ⟨w6, h1, h2, hk⟩, fun e' size' v' n' xs' hne h' => hk _ _ _ _ _ hne (owns_on h' h1), fun t n l hr hl => ?_, hlow⟩
  refine row_set ((row_on hr h1).of_block (h3.block vb (by have := hr.lt; have := h1.size; omega) (fun e => by have := (HO.lt vb e.symm).1; omega))) hl fld _
end
/-- What 'copy(v.f[:], m.part())' leaves, link by link. -/
def CS (wr : World) (vb : Nat) (L : List Value) (t : TypeId) (ad : Addr) (cs : List Value) : Nat → (Nat → Value) → World → Prop
  | 0, s, w => Below wr.heap.size wr w
  | 1, s, w => Below wr.heap.size wr w ∧ ∃ cp, s 81 = .slice (some ad) 4 cp
  | _, s, w => s 82 = goInt 4 ∧ ∃ w6, Below wr.heap.size wr w6 ∧ w.heap[vb]? = some (.cells (splice L 10 cs).toArray t (0, 0)) ∧ (∀ k, ¬ k = vb → w.heap[k]? = w6.heap[k]?) ∧ Below vb w6 w
theorem CS.local {wr : World} {vb : Nat} {L : List Value} {t : TypeId} {ad : Addr} {cs : List Value} {n : Nat} {s s' : Nat → Value} {w : World} (h1 : s 81 = s' 81) (h2 : s 82 = s' 82) (h : CS wr vb L t ad cs n s w) : CS wr vb L t ad cs n s' w := by
  match n, h with
  | 0, h => exact h
  | 1, h => simp only [CS] at h ⊢; rw [← h1]; exact h
  | n + 2, h => simp only [CS] at h ⊢; rw [← h2]; exact h
theorem CS.low {wr : World} {vb : Nat} {L : List Value} {t : TypeId} {ad : Addr} {cs : List Value} {n : Nat} {s : Nat → Value} {w : World} (hb : vb ≤ wr.heap.size) (h : CS wr vb L t ad cs n s w) : Below vb wr w := by
  match n, h with
  | 0, h => exact Below.mono h hb
  | 1, h => exact h.1.mono hb
  | n + 2, h =>
    obtain ⟨_, w6, h1, _, _, h4⟩ := h
    exact (h1.mono hb).trans h4
theorem ex_copy {ev : Operand → Value} {o : Oper} {w w' : World} {x y : Operand} {ax ay : Option Addr} {n m c d : Nat} {v : Value} (ho : o.op = .call { callee := .builtin .copy, args := #[x, y], argTypes := #[24, 24] }) (hx : ev x = .slice ax n c) (hy : ev y = .slice ay m d) (hr : (Builtin.copy_ #[24, 24] o.type #[.slice ax n c, .slice ay m d]).run Try.prog w = .ok v w') : (execOp ev o).run Try.prog w = .ok (.value v) w' := by
  simp [execOp, ho, hx, hy, resolve, invoke, builtin, hr, Result.andThen]
end Vw
end Go.Proofs.Ytbffhfmhjnflbaa
