/-
  Lemmas: LtC, VwO, VwU, VwV, ShadeWX, VsR.
-/
import Derived.Test.YtnodkeoikamonaaTw34
import Derived.Test.YtnodkeoikamonaaTw20
import Derived.Test.YtnodkeoikamonaaTw33
/-
  A region that draws its order, some of its operations in a chain: what each link of the chain leaves, in slots and world; the others only read.
-/
namespace Go.Proofs.Ytnodkeoikamonaa
open Go.RowKit
set_option linter.unusedVariables false
set_option linter.unusedSimpArgs false
namespace LtC
open Lt (up up_same up_other)
def WI (cs : List Nat) (ra rb : Nat) (S : Nat → (Nat → Value) → World → Prop) (L : Nat → Bool) (s : Nat → Value) (w : World) : Prop :=
  (∃ n, n ≤ cs.length ∧ (∀ m i, cs[m]? = some i → (L i = true ↔ m < n)) ∧ S n s w) ∧ (L ra = true → L rb = true)
variable {cs : List Nat} {ra rb : Nat} {S : Nat → (Nat → Value) → World → Prop} {L : Nat → Bool} {s : Nat → Value} {w : World}
theorem WI.start (h : S 0 s w) : WI cs ra rb S (fun _ => false) s w := ⟨⟨0, Nat.zero_le _, fun m i _ => by simp, h⟩, fun e => by cases e⟩
theorem up_keep {b : Bool} (h : L rb = true) (i : Nat) : up L i rb = true := by
  by_cases e : rb = i
  · subst e; exact up_same _ _
  · rw [up_other _ e]; exact h
theorem WI.pass {i : Nat} (hi : cs.contains i = false) (hra : cs.contains ra = true) (h : WI cs ra rb S L s w) : WI cs ra rb S (up L i) s w := by
  obtain ⟨⟨n, hn, hL, hS⟩, hr⟩ := h
  refine ⟨⟨n, hn, fun m j hj => ?_, hS⟩, fun e => ?_⟩
  · rw [up_other _ (fun e => ?_)]
    · exact hL m j hj
    · subst e
      have := List.mem_of_getElem? hj
      simp [this] at hi
  · rw [up_other _ (fun e => by subst e; rw [hi] at hra; cases hra)] at e
    exact up_keep (b := true) (hr e) i
theorem WI.early (h : WI cs ra rb S L s w) {m : Nat} (hm : cs[m]? = some ra) (hL : L rb = false) : ∃ n, n ≤ m ∧ S n s w := by
  obtain ⟨⟨n, hn, hLn, hS⟩, hr⟩ := h
  refine ⟨n, ?_, hS⟩
  rcases Nat.lt_or_ge m n with hlt | hge
  · have := hr ((hLn m ra hm).2 hlt)
    rw [hL] at this
    cases this
  · exact hge
theorem WI.any (h : WI cs ra rb S L s w) : ∃ n, S n s w := by
  obtain ⟨⟨n, hn, hLn, hS⟩, hr⟩ := h
  exact ⟨n, hS⟩
theorem WI.at {m i : Nat} (hnd : cs.Nodup) (hm : cs[m]? = some i) (h : WI cs ra rb S L s w) (hL : L i = false) (hr' : i = ra → L rb = true) (hp : ∀ m' j, m = m' + 1 → cs[m']? = some j → L j = true) : S m s w ∧ ∀ s' w', S (m + 1) s' w' → WI cs ra rb S (up L i) s' w' := by
  obtain ⟨⟨n, hn, hLn, hS⟩, hr⟩ := h
  have h1 : ¬ m < n := fun hlt => by have := (hLn m i hm).2 hlt; rw [hL] at this; cases this
  have hlen := (List.getElem?_eq_some_iff.1 hm).1
  have h2 : m ≤ n := by
    cases m with
    | zero => omega
    | succ m' =>
      obtain ⟨j, hj⟩ : ∃ j, cs[m']? = some j := ⟨cs[m']'(by omega), List.getElem?_eq_getElem _⟩
      have := (hLn m' j hj).1 (hp m' j rfl hj)
      omega
  have h3 : m = n := by omega
  subst h3
  refine ⟨hS, fun s' w' hS' => ⟨⟨m + 1, by omega, fun m2 j hj => ?_, hS'⟩, fun e => ?_⟩⟩
  rotate_left
  · refine up_keep (b := true) ?_ i
    by_cases he : i = ra
    · exact hr' he
    · rw [up_other _ (Ne.symm he)] at e
      exact hr e
  by_cases he : j = i
  · subst he
    have e : m2 = m := by
      have h5 := (List.getElem?_eq_some_iff.1 hj).1
      have h6 := List.pairwise_iff_getElem.1 hnd
      have e1 := (List.getElem?_eq_some_iff.1 hj).2
      have e2 := (List.getElem?_eq_some_iff.1 hm).2
      rcases Nat.lt_trichotomy m2 m with h7 | h7 | h7
      · exact absurd (e1.trans e2.symm) (h6 m2 m h5 hlen h7)
      · exact h7
      · exact absurd (e2.trans e1.symm) (h6 m m2 hlen h5 h7)
    subst e
    simp [up_same]
  · rw [up_other _ he, hLn m2 j hj]
    constructor
    · omega
    · intro h4
      have : ¬ m2 = m := fun e => by subst e; rw [hm] at hj; cases hj; exact he rfl
      omega
theorem WI.done (h : WI cs ra rb S L s w) (hall : ∀ i, i ∈ cs → L i = true) : S cs.length s w := by
  obtain ⟨⟨n, hn, hL, hS⟩, _⟩ := h
  have : n = cs.length := by
    rcases Nat.lt_or_ge n cs.length with hlt | hge
    · obtain ⟨j, hj⟩ : ∃ j, cs[n]? = some j := ⟨cs[n]'hlt, List.getElem?_eq_getElem _⟩
      have := (hL n j hj).1 (hall j (List.mem_of_getElem? hj))
      omega
    · omega
  subst this
  exact hS
variable {P : Program} {Q : Exit → Act → World → Prop} {ks : List (Nat × Nat)} {vals : Nat → Value} {xs : List Nat} {a0 : Act} {i m : Nat} {o : Oper}
theorem read (hd : o.dst = Lt.look ks i) (hi : cs.contains i = false) (hra : cs.contains ra = true) (h : ∀ L a w, LtH.In ks vals xs (WI cs ra rb S) a0 L a w → L i = false → (∀ e ∈ o.after, Region.binds .any e = true → L e.on = true) → (execOp a.eval o).run P w = .ok (.value (vals i)) w) : LtH.Does P Q ks vals xs (WI cs ra rb S) a0 i o :=
  .mk hd fun L a w K hI hL hdep hk => Lt.wp_value (h L a w hI hL hdep) (hk w _ (fun _ _ => rfl) (hI.world.pass hi hra))
theorem call {x : Nat} {f : FuncId} {args : (Nat → Value) → Array Value} (hnd : cs.Nodup) (hm : cs[m]? = some i) (hd : o.dst = some x) (hx : xs.contains x = true) (hn : Lt.look ks i = none) (hr : ∀ (L : Nat → Bool), (∀ e ∈ o.after, Region.binds .any e = true → L e.on = true) → i = ra → L rb = true) (hp : ∀ (L : Nat → Bool), (∀ e ∈ o.after, Region.binds .any e = true → L e.on = true) → ∀ m' j, m = m' + 1 → cs[m']? = some j → L j = true)
    (h : ∀ L a w, LtH.In ks vals xs (WI cs ra rb S) a0 L a w → (∀ e ∈ o.after, Region.binds .any e = true → L e.on = true) → S m (fun k => a.eval (.tmp k)) w → (execOp a.eval o).run P w = .ok (.enter f (args (fun k => a.eval (.tmp k)))) w)
    (hc : ∀ s w, S m s w → Calls P f (args s) w fun e w' => ∃ v, e = .returned v ∧ S (m + 1) (fun k => if k = x then v else s k) w') : LtH.Does P Q ks vals xs (WI cs ra rb S) a0 i o :=
  .own x hd hx hn fun L a w K hI hL hdep hk => by
    obtain ⟨h1, h2⟩ := hI.world.at hnd hm hL (hr L hdep) (hp L hdep)
    refine Lt.wp_call (h L a w hI hdep h1) ((hc _ w h1).mono ?_)
    rintro e w' ⟨v, rfl, hw⟩
    exact ⟨v, rfl, by rw [hd]; exact hk _ _ (h2 _ _ hw)⟩
theorem link {x : Nat} (hnd : cs.Nodup) (hm : cs[m]? = some i) (hd : o.dst = some x) (hx : xs.contains x = true) (hn : Lt.look ks i = none) (hr : ∀ (L : Nat → Bool), (∀ e ∈ o.after, Region.binds .any e = true → L e.on = true) → i = ra → L rb = true) (hp : ∀ (L : Nat → Bool), (∀ e ∈ o.after, Region.binds .any e = true → L e.on = true) → ∀ m' j, m = m' + 1 → cs[m']? = some j → L j = true)
    (h : ∀ L a w (K : Act → World → Prop), LtH.In ks vals xs (WI cs ra rb S) a0 L a w → (∀ e ∈ o.after, Region.binds .any e = true → L e.on = true) → S m (fun k => a.eval (.tmp k)) w → (∀ v w', S (m + 1) (fun k => if k = x then v else a.eval (.tmp k)) w' → K (a.put o.dst v) w') → o.wp P a w K Q) : LtH.Does P Q ks vals xs (WI cs ra rb S) a0 i o :=
  .own x hd hx hn fun L a w K hI hL hdep hk => by
    obtain ⟨h1, h2⟩ := hI.world.at hnd hm hL (hr L hdep) (hp L hdep)
    exact h L a w K hI hdep h1 (fun v w' hS => by rw [hd]; exact hk w' v (h2 _ _ hS))
theorem store (hnd : cs.Nodup) (hm : cs[m]? = some i) (hd : o.dst = none) (hn : Lt.look ks i = none) (hr : ∀ (L : Nat → Bool), (∀ e ∈ o.after, Region.binds .any e = true → L e.on = true) → i = ra → L rb = true) (hp : ∀ (L : Nat → Bool), (∀ e ∈ o.after, Region.binds .any e = true → L e.on = true) → ∀ m' j, m = m' + 1 → cs[m']? = some j → L j = true)
    (h : ∀ L a w (K : Act → World → Prop), LtH.In ks vals xs (WI cs ra rb S) a0 L a w → (∀ e ∈ o.after, Region.binds .any e = true → L e.on = true) → S m (fun k => a.eval (.tmp k)) w → (∀ v w', S (m + 1) (fun k => a.eval (.tmp k)) w' → K (a.put o.dst v) w') → o.wp P a w K Q) : LtH.Does P Q ks vals xs (WI cs ra rb S) a0 i o :=
  .mk (by rw [hd, hn]) fun L a w K hI hL hdep hk => by
    obtain ⟨h1, h2⟩ := hI.world.at hnd hm hL (hr L hdep) (hp L hdep)
    exact h L a w K hI hdep h1 (fun v w' hS => hk w' v (fun d e => by rw [hd] at e; cases e) (h2 _ _ hS))
end LtC
end Go.Proofs.Ytnodkeoikamonaa
/-
  View: single operations: slices of one element, a slice's store; append at an operation.
-/
namespace Go.Proofs.Ytnodkeoikamonaa
open Go.RowKit
set_option linter.unusedVariables false
set_option linter.unusedSimpArgs false
set_option linter.unnecessarySimpa false
set_option maxRecDepth 20000
namespace Vw
open Shape
section
variable {ev : Operand → Value} {o : Oper} {w : World}
end
theorem row_set {W : World} {g : Nat} {t : TypeId} {n : Nat} {l : List Value} (hr : W.rowIs g t n (lrow l)) (hl : l.length = n) (i : Nat) (v : Value) : (W.setCell ⟨g, i, none⟩ v).rowIs g t n (lrow (l.set i v)) := by
  obtain ⟨cur, h1, h2, h3⟩ := hr.set i v
  refine ⟨cur, h1, h2, fun j hj => ?_⟩
  rw [h3 j hj]
  congr 1
  simp only [lrow, List.getElem?_set]
  by_cases e : j = i
  · subst e; simp [hl, hj]
  · simp [e, Ne.symm e]
theorem row_on {W W' : World} {g : Nat} {t : TypeId} {n : Nat} {F : Nat → Value} (hr : W.rowIs g t n F) (hb : Below W.heap.size W W') : W'.rowIs g t n F := hr.of_block (hb.block g hr.lt)
theorem cells_new (w : World) (l : List Value) (t : TypeId) : ∀ j u, l[j]? = some u → (w.alloc (.cells l.toArray t)).cell? ((⟨w.heap.size, 0, none⟩ : Addr).add j) = some u := by
  intro j u hj
  have hl := (List.getElem?_eq_some_iff.1 hj).1
  rw [Go.WideShapes.add_plain, Nat.zero_add, (rowL_alloc w l t rfl).cell hl]
  simp [lrow, hj]
def AS (wr : World) (bb vb fld : Nat) (e : TypeId) (size : Nat) (rv : Value) (q : Nat) (rs : List Value) (x1 x2 x3 x4 : Nat) (A : Value → Prop) (Bp : World → Value → Prop) : Nat → (Nat → Value) → World → Prop
  | 0, s, w => Below wr.heap.size wr w
  | 1, s, w => Below wr.heap.size wr w ∧ A (s x1)
  | 2, s, w => Below wr.heap.size wr w ∧ Bp w (s x2)
  | 3, s, w => Below wr.heap.size wr w ∧ Bp w (s x2) ∧ ∃ g6, s x3 = .slice (some ⟨g6, 0, none⟩) 1 1 ∧ ∀ j u, (s x2).cells.toList[j]? = some u → w.cell? ((⟨g6, 0, none⟩ : Addr).add j) = some u
  | 4, s, w => ∃ w6, Below wr.heap.size wr w6 ∧ Bp w6 (s x2) ∧ w6.grownBy w rv.ownBlock ∧ w.ownsRow bb e size (s x4) (q + 1) (rs ++ (s x2).cells.toList)
  | _, s, w => ∃ w6 w7, Below wr.heap.size wr w6 ∧ Bp w6 (s x2) ∧ w6.grownBy w7 rv.ownBlock ∧ w7.ownsRow bb e size (s x4) (q + 1) (rs ++ (s x2).cells.toList) ∧ w = w7.setCell ⟨vb, fld, none⟩ (s x4)
section
variable {wr : World} {bb vb fld : Nat} {e : TypeId} {size : Nat} {rv : Value} {q : Nat} {rs : List Value} {x1 x2 x3 x4 : Nat} {A : Value → Prop} {Bp : World → Value → Prop} {n : Nat} {s s' : Nat → Value} {w : World}
theorem AS.local (h1 : s x1 = s' x1) (h2 : s x2 = s' x2) (h3 : s x3 = s' x3) (h4 : s x4 = s' x4) (h : AS wr bb vb fld e size rv q rs x1 x2 x3 x4 A Bp n s w) : AS wr bb vb fld e size rv q rs x1 x2 x3 x4 A Bp n s' w := by
  match n, h with
  | 0, h => exact h
  | 1, h => simp only [AS] at h ⊢; rw [← h1]; exact h
  | 2, h => simp only [AS] at h ⊢; rw [← h2]; exact h
  | 3, h => simp only [AS] at h ⊢; rw [← h2, ← h3]; exact h
  | 4, h => simp only [AS] at h ⊢; rw [← h2, ← h4]; exact h
  | n + 5, h => simp only [AS] at h ⊢; rw [← h2, ← h4]; exact h
theorem AS.early (hn : n ≤ 3) (h : AS wr bb vb fld e size rv q rs x1 x2 x3 x4 A Bp n s w) : Below wr.heap.size wr w := by
  match n, hn, h with
  | 0, _, h => exact h
  | 1, _, h => exact h.1
  | 2, _, h => exact h.1
  | 3, _, h => exact h.1
theorem AS.low (hv : vb < bb) (hb : bb ≤ wr.heap.size) (HO : wr.ownsRow bb e size rv q rs) (h : AS wr bb vb fld e size rv q rs x1 x2 x3 x4 A Bp n s w) : Below vb wr w := by
  have hl : ∀ {w6 w7 : World}, Below wr.heap.size wr w6 → w6.grownBy w7 rv.ownBlock → Below vb wr w7 := fun {w6 w7} h1 h2 => by
    have h3 := h1.size
    exact (below_grown (h1.mono hb) (owns_on HO h1) h2 (by omega)).mono (by omega)
  match n, h with
  | 0, h => exact Below.mono h (by omega)
  | 1, h => exact h.1.mono (by omega)
  | 2, h => exact h.1.mono (by omega)
  | 3, h => exact h.1.mono (by omega)
  | 4, h =>
    obtain ⟨w6, h1, _, h3, _⟩ := h
    exact hl h1 h3
  | n + 5, h =>
    obtain ⟨w6, w7, h1, _, h3, _, rfl⟩ := h
    exact (hl h1 h3).setCell (Nat.le_refl _) _
theorem AS.other (hv : vb < bb) (hb : bb ≤ wr.heap.size) (HO : wr.ownsRow bb e size rv q rs) (h : AS wr bb vb fld e size rv q rs x1 x2 x3 x4 A Bp n s w) {t : TypeId} {m : Nat} {F : Nat → Value} (hr : wr.rowIs vb t m F) {i : Nat} (hi : i < m) (hne : ¬ i = fld) : w.cell? ⟨vb, i, none⟩ = some (F i) := by
  have hl : ∀ {w6 w7 : World}, Below wr.heap.size wr w6 → w6.grownBy w7 rv.ownBlock → w7.rowIs vb t m F := fun {w6 w7} h1 h2 => (row_on hr h1).of_block (h2.block vb (by have := hr.lt; have := h1.size; omega) (fun e => by have := (HO.lt vb e.symm).1; omega))
  match n, h with
  | 0, h => exact (row_on hr h).cell hi
  | 1, h => exact (row_on hr h.1).cell hi
  | 2, h => exact (row_on hr h.1).cell hi
  | 3, h => exact (row_on hr h.1).cell hi
  | 4, h =>
    obtain ⟨w6, h1, _, h3, _⟩ := h
    exact (hl h1 h3).cell hi
  | n + 5, h =>
    obtain ⟨w6, w7, h1, _, h3, _, rfl⟩ := h
    rw [World.cell?_setCell_other _ _ _ _ (fun e => by injection e with _ e2 _; exact hne (by omega))]
    exact (hl h1 h3).cell hi
theorem AS.end (hv : vb < bb) (hb : bb ≤ wr.heap.size) (HO : wr.ownsRow bb e size rv q rs) (h : AS wr bb vb fld e size rv q rs x1 x2 x3 x4 A Bp 5 s w) :
    (w.ownsRow bb e size (s x4) (q + 1) (rs ++ (s x2).cells.toList)) ∧ (∃ w6, Below wr.heap.size wr w6 ∧ Bp w6 (s x2) ∧ ∀ e' size' v' n' xs', ¬ e' = e → w6.ownsRow bb e' size' v' n' xs' → w.ownsRow bb e' size' v' n' xs') ∧ (∀ e' size' v' n' xs', ¬ e' = e → wr.ownsRow bb e' size' v' n' xs' → w.ownsRow bb e' size' v' n' xs') ∧ (∀ t n l, wr.rowIs vb t n (lrow l) → l.length = n → w.rowIs vb t n (lrow (l.set fld (s x4)))) ∧ Below vb wr w := by
  have hlow := AS.low hv hb HO h
  obtain ⟨w6, w7, h1, h2, h3, h4, rfl⟩ := h
  have hk : ∀ e' size' v' n' xs', ¬ e' = e → w6.ownsRow bb e' size' v' n' xs' → (w7.setCell ⟨vb, fld, none⟩ (s x4)).ownsRow bb e' size' v' n' xs' := fun e' size' v' n' xs' hne h' => owns_set (h'.kept h3 (owns_ne h' (owns_on HO h1) hne)) hv _
  refine ⟨owns_set h4 hv _, ⟨w6, h1, h2, hk⟩, fun e' size' v' n' xs' hne h' => hk _ _ _ _ _ hne (owns_on h' h1), fun t n l hr hl => ?_, hlow⟩
  refine row_set ((row_on hr h1).of_block (h3.block vb (by have := hr.lt; have := h1.size; omega) (fun e => by have := (HO.lt vb e.symm).1; omega))) hl fld _
end
def CS (wr : World) (vb : Nat) (L : List Value) (t : TypeId) (ad : Addr) (cs : List Value) : Nat → (Nat → Value) → World → Prop
  | 0, s, w => Below wr.heap.size wr w
  | 1, s, w => Below wr.heap.size wr w ∧ ∃ cp, s 81 = .slice (some ad) 4 cp
  | _, s, w => s 82 = goInt 4 ∧ ∃ w6, Below wr.heap.size wr w6 ∧ w.heap[vb]? = some (.cells (splice L 10 cs).toArray t (0, 0)) ∧ (∀ k, ¬ k = vb → w.heap[k]? = w6.heap[k]?) ∧ Below vb w6 w
theorem CS.local {wr : World} {vb : Nat} {L : List Value} {t : TypeId} {ad : Addr} {cs : List Value} {n : Nat} {s s' : Nat → Value} {w : World} (h1 : s 81 = s' 81) (h2 : s 82 = s' 82) (h : CS wr vb L t ad cs n s w) : CS wr vb L t ad cs n s' w := by
  match n, h with
  | 0, h => exact h
  | 1, h => simp only [CS] at h ⊢; rw [← h1]; exact h
  | n + 2, h => simp only [CS] at h ⊢; rw [← h2]; exact h
theorem CS.low {wr : World} {vb : Nat} {L : List Value} {t : TypeId} {ad : Addr} {cs : List Value} {n : Nat} {s : Nat → Value} {w : World} (hb : vb ≤ wr.heap.size) (h : CS wr vb L t ad cs n s w) : Below vb wr w := by
  match n, h with
  | 0, h => exact Below.mono h hb
  | 1, h => exact h.1.mono hb
  | n + 2, h =>
    obtain ⟨_, w6, h1, _, _, h4⟩ := h
    exact (h1.mono hb).trans h4
end Vw
end Go.Proofs.Ytnodkeoikamonaa
/-
  View: steps played again, pure; the package's replay of one step.
-/
namespace Go.Proofs.Ytnodkeoikamonaa
open Go.RowKit
set_option linter.unusedVariables false
set_option linter.unusedSimpArgs false
set_option linter.unnecessarySimpa false
set_option maxRecDepth 20000
namespace Vw
open Shape
structure Sp where
  ha : Int
  ac : Int
  at' : Int
  hd : Int
  pt : Int
  ok : Bool
def Sp.cells (x : Sp) : List Value := [.int .i64 x.ha, .int .i64 x.ac, .int .i64 x.at', .int .u64 x.hd, .int .u64 x.pt, .bool x.ok]
def Sp.cell (x : Sp) (i : Nat) : Value := lrow x.cells i
def one (m : Nat) (g : Nat → Int) (x : Sp) : Option (Nat → Int) :=
  if 0 ≤ x.at' ∧ x.at' < (m : Int) then (if x.hd = g x.at'.toNat then some (putF g x.at'.toNat x.pt) else none) else (if x.hd = 0 ∧ x.pt = 0 then some g else none)
def rp (m : Nat) (a : Nat → Sp) (g : Nat → Int) : Nat → Option (Nat → Int)
  | 0 => some g
  | n + 1 => (rp m a g n).bind fun g' => one m g' (a n)
theorem rp_none {m : Nat} {a : Nat → Sp} {g : Nat → Int} {k : Nat} (h : rp m a g k = none) : ∀ n, k ≤ n → rp m a g n = none := by
  intro n hn
  induction n with
  | zero => cases (show k = 0 by omega); exact h
  | succ n ih =>
    by_cases e : k = n + 1
    · subst e; exact h
    · simp only [rp, ih (by omega)]
      rfl
def rdm (m : Nat) (g : Nat → Int) : Option (Nat → Int) → Int × Nat × (Nat → Int)
  | none => (130, 0, g)
  | some g' => (0, m, g')
def rd (m ns : Nat) (n : Int) (a : Nat → Sp) (g : Nat → Int) : Int × Nat × (Nat → Int) :=
  if 4096 < m ∨ 65536 < ns then (1, 0, g) else if n < 0 ∨ (ns : Int) < n then (2, 0, g) else rdm m g (rp m a g n.toNat)
def SeesP (w : World) (ao : Option Addr) (n : Nat) (a : Nat → Sp) : Prop :=
  ∀ j, j < n → ∃ b off, ao = some ⟨b, off, none⟩ ∧ b < w.heap.size ∧ ∀ i, i < 6 → w.cell? ⟨b, off + j * 6 + i, none⟩ = some ((a j).cell i)
theorem SeesP.on {w w' : World} {ao : Option Addr} {n : Nat} {a : Nat → Sp} (h : SeesP w ao n a) (hb : Below w.heap.size w w') : SeesP w' ao n a :=
  fun j hj => by obtain ⟨b, off, e, hl, hc⟩ := h j hj; exact ⟨b, off, e, Nat.lt_of_lt_of_le hl hb.size, fun i hi => (hb.cell (p := ⟨b, off + j * 6 + i, none⟩) hl).trans (hc i hi)⟩
theorem SeesP.cells {w : World} {ao : Option Addr} {n : Nat} {a : Nat → Sp} (h : SeesP w ao n a) {j : Nat} (hj : j < n) : ∃ b off, ao = some ⟨b, off, none⟩ ∧ b < w.heap.size ∧ w.cell? ⟨b, off + j * 6, none⟩ = some (.int .i64 (a j).ha) ∧ w.cell? ⟨b, off + j * 6 + 1, none⟩ = some (.int .i64 (a j).ac) ∧ w.cell? ⟨b, off + j * 6 + 2, none⟩ = some (.int .i64 (a j).at') ∧ w.cell? ⟨b, off + j * 6 + 3, none⟩ = some (.int .u64 (a j).hd) ∧ w.cell? ⟨b, off + j * 6 + 4, none⟩ = some (.int .u64 (a j).pt) ∧ w.cell? ⟨b, off + j * 6 + 5, none⟩ = some (.bool (a j).ok) := by
  obtain ⟨b, off, e, hl, hc⟩ := h j hj
  exact ⟨b, off, e, hl, (by have := hc 0 (by decide); simpa [Sp.cell, lrow, Sp.cells] using this), hc 1 (by decide), hc 2 (by decide), hc 3 (by decide), hc 4 (by decide), hc 5 (by decide)⟩
theorem wcs_put (n : Nat) (f : Nat → Int) (k : Nat) (v : Int) : wcs n (putF f k v) = (wcs n f).set k (.int .u64 v) := by
  apply List.ext_getElem?
  intro i
  rw [List.getElem?_set]
  by_cases hi : i < n
  · by_cases e : k = i
    · subst e
      rw [wcs_get _ hi]
      simp [putF, wcs_len, hi]
    · rw [wcs_get _ hi, if_neg e, wcs_get _ hi]
      simp [putF, Ne.symm e]
  · have h1 : (wcs n (putF f k v))[i]? = none := List.getElem?_eq_none (by rw [wcs_len]; omega)
    have h2 : (wcs n f)[i]? = none := List.getElem?_eq_none (by rw [wcs_len]; omega)
    rw [h1, h2]
    by_cases e : k = i
    · subst e; simp [wcs_len, hi]
    · simp [e]
theorem owns_put {w : World} {base g cap n : Nat} {f : Nat → Int} (h : w.ownsRow base 30 1 (.slice (some ⟨g, 0, none⟩) n cap) n (wcs n f)) (k : Nat) (v : Int) : (w.setCell ⟨g, k, none⟩ (.int .u64 v)).ownsRow base 30 1 (.slice (some ⟨g, 0, none⟩) n cap) n (wcs n (putF f k v)) := by
  obtain ⟨hl, ⟨h1, _⟩ | ⟨g', cap', cur, h1, hb, hg, hc, hm, hs, ht⟩⟩ := h
  · cases h1
  · cases h1
    refine ⟨by rw [wcs_len]; omega, .inr ⟨g, cap, cur.setIfInBounds k (.int .u64 v), rfl, hb, ?_, hc, hm, by simpa using hs, ?_⟩⟩
    · simp [World.setCell, Array.getElem?_modify, hg]
    · rw [wcs_put, ← ht]
      simp [List.take_set]
theorem sbox (w : World) (ha ac at' hd pt : Int) (ok : Bool) : ∃ W0, w.alloc (.cells #[.int .i64 ha, .int .i64 ac, .int .i64 at', .int .u64 hd, .int .u64 pt, .bool ok] 63) = W0 ∧ Below w.heap.size w W0 ∧ W0.rowIs w.heap.size 63 6 (lrow [.int .i64 ha, .int .i64 ac, .int .i64 at', .int .u64 hd, .int .u64 pt, .bool ok]) := ⟨_, rfl, (Below.refl _ w).alloc (Nat.le_refl _) _, rowL_alloc w [.int .i64 ha, .int .i64 ac, .int .i64 at', .int .u64 hd, .int .u64 pt, .bool ok] _ rfl⟩
set_option maxHeartbeats 2000000 in
theorem one_ok {m base g : Nat} {f : Nat → Int} {ha ac at' hd pt : Int} {ok : Bool} {w : World} (hO : w.ownsRow base 30 1 (.slice (some ⟨g, 0, none⟩) m m) m (wcs m f)) (hm : m ≤ 4096) (hb : base ≤ w.heap.size) :
    Calls Try.prog 39 #[.slice (some ⟨g, 0, none⟩) m m, .agg #[.int .i64 ha, .int .i64 ac, .int .i64 at', .int .u64 hd, .int .u64 pt, .bool ok]] w fun e w' => (match one m f ⟨ha, ac, at', hd, pt, ok⟩ with | none => e = .returned (.bool false) | some f' => e = .returned (.bool true) ∧ Hid (w'.ownsRow base 30 1 (.slice (some ⟨g, 0, none⟩) m m) m (wcs m f'))) ∧ Below base w w' := by
  obtain ⟨W0, hW0, B0, R0⟩ := sbox w ha ac at' hd pt ok
  have HB := hide (B0.mono hb)
  have c2 : W0.cell? ⟨w.heap.size, 2, none⟩ = some (.int .i64 at') := R0.cell (i := 2) (by decide)
  have c3 : W0.cell? ⟨w.heap.size, 3, none⟩ = some (.int .u64 hd) := R0.cell (i := 3) (by decide)
  have c4 : W0.cell? ⟨w.heap.size, 4, none⟩ = some (.int .u64 pt) := R0.cell (i := 4) (by decide)
  have O0 := hide (owns_on hO B0)
  have HG := hide (show base ≤ g from (hO.lt g rfl).1)
  have hgl : g < w.heap.size := (hO.lt g rfl).2
  clear R0 B0 hO
  by_cases hat : 0 ≤ at' ∧ at' < (m : Int)
  · obtain ⟨k, rfl⟩ : ∃ k : Nat, at' = (k : Int) := ⟨at'.toNat, by omega⟩
    have hk : k < m := by omega
    have hk2 : (k : Int) < (m : Int) := by omega
    have l1 : ¬ ((k : Int) < 0) := by omega
    have l2 : ¬ ((m : Int) ≤ (k : Int)) := by omega
    obtain ⟨b', e', _, _, ck, fk⟩ := owns_cell O0.out (wcs_get f hk)
    cases e'
    have hone : one m f ⟨ha, ac, (k : Int), hd, pt, ok⟩ = if hd = f k then some (putF f k pt) else none := by
      unfold one
      rw [if_pos hat]
      rfl
    rw [hone]
    clear hone hat
    by_cases hh : hd = f k
    · rw [if_pos hh]
      have hh2 : (hd != f k) = false := by simp [hh]
      clear hh
      go_enter Try.func39, Try.ntmps39
      go_upto_region 3 with (fail)
      go_quiet (fail)
      go_wp2
      go_ret
      exact ⟨⟨rfl, owns_put (w := W0.drewN nq) O0.out k pt⟩, (below_drewN HB.out nq).setCell HG.out _⟩
    · rw [if_neg hh]
      have hh2 : (hd != f k) = true := by simp [hh]
      go_enter Try.func39, Try.ntmps39
      go_upto_region 3 with (fail)
      go_quiet (fail)
      go_wp2
      go_ret
      exact ⟨rfl, below_drewN HB.out _⟩
  · have hone : one m f ⟨ha, ac, at', hd, pt, ok⟩ = if hd = 0 ∧ pt = 0 then some f else none := by
      unfold one
      rw [if_neg hat]
    rw [hone]
    clear hone
    by_cases hn : at' < 0
    · clear hat
      by_cases h0 : hd = 0
      · by_cases p0 : pt = 0
        · rw [if_pos ⟨h0, p0⟩]
          subst h0 p0
          go_enter Try.func39, Try.ntmps39
          go_wp2_with fail
          go_ret
          exact ⟨⟨rfl, O0.out⟩, HB.out⟩
        · rw [if_neg (fun h => p0 h.2)]
          have p1 : (pt == 0) = false := by simp [p0]
          subst h0
          go_enter Try.func39, Try.ntmps39
          go_wp2_with fail
          go_ret
          exact ⟨rfl, HB.out⟩
      · rw [if_neg (fun h => h0 h.1)]
        have h1 : (hd == 0) = false := by simp [h0]
        go_enter Try.func39, Try.ntmps39
        go_wp2_with fail
        go_ret
        exact ⟨rfl, HB.out⟩
    · have hge : (m : Int) ≤ at' := by omega
      clear hat
      by_cases h0 : hd = 0
      · by_cases p0 : pt = 0
        · rw [if_pos ⟨h0, p0⟩]
          subst h0 p0
          go_enter Try.func39, Try.ntmps39
          go_wp2_with fail
          go_ret
          exact ⟨⟨rfl, O0.out⟩, HB.out⟩
        · rw [if_neg (fun h => p0 h.2)]
          have p1 : (pt == 0) = false := by simp [p0]
          subst h0
          go_enter Try.func39, Try.ntmps39
          go_wp2_with fail
          go_ret
          exact ⟨rfl, HB.out⟩
      · rw [if_neg (fun h => h0 h.1)]
        have h1 : (hd == 0) = false := by simp [h0]
        go_enter Try.func39, Try.ntmps39
        go_wp2_with fail
        go_ret
        exact ⟨rfl, HB.out⟩
end Vw
end Go.Proofs.Ytnodkeoikamonaa
/-
  View: Replay of the package
-/
namespace Go.Proofs.Ytnodkeoikamonaa
open Go.RowKit
set_option linter.unusedVariables false
set_option linter.unusedSimpArgs false
set_option linter.unnecessarySimpa false
set_option maxRecDepth 20000
namespace Vw
open Shape
theorem slice_h {sa : Option Addr} {ns cs : Nat} (q : Nat) (hq : q ≤ cs) (hp : 0 < q → ∃ b off, sa = some ⟨b, off, none⟩) : ∃ p, (∀ w, (Instr.slice 42 (.slice sa ns cs) none (some (.int .i64 (q : Int))) none).run Try.prog w = .ok (.slice p q cs) w) ∧ (0 < q → p = sa) := by
  refine ⟨if cs = 0 then sa else sa.map (·.add 0), fun w => ?_, fun h => ?_⟩
  · have hs : (sizeOf (Try.prog.elem 42)).run Try.prog w = .ok 6 w := by kernel_rfl
    rw [run_slice_h w 42 sa ns cs (by kernel_rfl) .i64 _ (by omega) (by omega), hs]
    simp only [Result.andThen, sliced]
    simp
  · obtain ⟨b, off, rfl⟩ := hp h
    rw [if_neg (by omega)]
    simp [Go.WideShapes.add_plain]
def E1 (m ns : Nat) : Prop := 4096 < m ∨ 65536 < ns
theorem rd1 {m ns : Nat} {n : Int} {a : Nat → Sp} {f : Nat → Int} (h : 4096 < m ∨ 65536 < ns) : rd m ns n a f = (1, 0, f) := by unfold rd; rw [if_pos h]
theorem rd2 {m ns : Nat} {n : Int} {a : Nat → Sp} {f : Nat → Int} (h : ¬ (4096 < m ∨ 65536 < ns)) (h2 : n < 0 ∨ (ns : Int) < n) : rd m ns n a f = (2, 0, f) := by unfold rd; rw [if_neg h, if_pos h2]
theorem rd3 {m ns q : Nat} {a : Nat → Sp} {f : Nat → Int} (h : ¬ (4096 < m ∨ 65536 < ns)) (h2 : q ≤ ns) : rd m ns (q : Int) a f = rdm m f (rp m a f q) := by
  unfold rd
  rw [if_neg h, if_neg (by omega)]
  rfl
set_option maxHeartbeats 4000000 in
theorem replay_v {ao sa : Option Addr} {m cap ns cs : Nat} {n : Int} {f : Nat → Int} {a : Nat → Sp} {w : World} (hS : Sees w w.heap.size ao m f) (hP : SeesP w sa ns a) (hcs : ns ≤ cs) (hcs2 : cs ≤ 9223372036854775807) (hm9 : m ≤ 9223372036854775807) : Calls Try.prog 14 #[.slice ao m cap, .slice sa ns cs, .int .i64 n] w fun e w' => (∃ go gc, e = .returned (.tuple #[.slice go (rd m ns n a f).2.1 gc, .int .i64 (rd m ns n a f).1]) ∧ Hid (w'.ownsRow w.heap.size 30 1 (.slice go (rd m ns n a f).2.1 gc) (rd m ns n a f).2.1 (wcs (rd m ns n a f).2.1 (rd m ns n a f).2.2))) ∧ Below w.heap.size w w' := by
  by_cases h1 : 4096 < m ∨ 65536 < ns
  · rw [rd1 h1]
    by_cases h2 : 4096 < m
    · have h3 : (4096 : Int) < (m : Int) := by omega
      go_enter Try.func14, Try.ntmps14
      go_wp2_with fail
      go_ret2
      exact ⟨⟨none, 0, rfl, World.ownsRow_nil _ _ _ _⟩, Below.refl _ _⟩
    · have h3 : ¬ ((4096 : Int) < (m : Int)) := by omega
      have h4 : (65536 : Int) < (ns : Int) := by omega
      go_enter Try.func14, Try.ntmps14
      go_wp2_with fail
      go_ret2
      exact ⟨⟨none, 0, rfl, World.ownsRow_nil _ _ _ _⟩, Below.refl _ _⟩
  · have g1 : ¬ ((4096 : Int) < (m : Int)) := by omega
    have g2 : ¬ ((65536 : Int) < (ns : Int)) := by omega
    by_cases h2 : n < 0 ∨ (ns : Int) < n
    · rw [rd2 h1 h2]
      by_cases h3 : n < 0
      · go_enter Try.func14, Try.ntmps14
        go_wp2_with fail
        go_ret2
        exact ⟨⟨none, 0, rfl, World.ownsRow_nil _ _ _ _⟩, Below.refl _ _⟩
      · have h4 : (ns : Int) < n := by omega
        go_enter Try.func14, Try.ntmps14
        go_wp2_with fail
        go_ret2
        exact ⟨⟨none, 0, rfl, World.ownsRow_nil _ _ _ _⟩, Below.refl _ _⟩
    · obtain ⟨q, rfl⟩ : ∃ q : Nat, n = (q : Int) := ⟨n.toNat, by omega⟩
      have hq : q ≤ ns := by omega
      rw [rd3 h1 hq]
      obtain ⟨D, hD⟩ : ∃ D : Int × Nat × (Nat → Int), rdm m f (rp m a f q) = D := ⟨_, rfl⟩
      rw [hD]
      have HD := hide hD
      clear hD
      have hm : m ≤ 4096 := by omega
      have hns : ns ≤ 65536 := by omega
      have g3 : ¬ ((q : Int) < 0) := by omega
      have g4 : ¬ ((ns : Int) < (q : Int)) := by omega
      obtain ⟨ps, hsl, hps⟩ := slice_h (sa := sa) (ns := ns) (cs := cs) q (by omega) (fun h => by obtain ⟨b, off, e, _⟩ := hP 0 (by omega); exact ⟨b, off, e⟩)
      have HPS := hide hps
      have HP := hide hP
      have CV := hide (copied_v (cap := cap) hS (Nat.le_refl _) (by omega))
      clear hS hP hps h1 h2
      go_enter Try.func14, Try.ntmps14
      go_wp2_with (go_at_call 38; refine CV.out.mono ?_; rintro e w1 ⟨g0, rfl, HO1, hb1⟩; have HB1 := hide hb1; clear hb1)
      go_loopw [33] (fun i wr => ∃ (k : Nat) (f' : Nat → Int), k ≤ q ∧ i = .int .i64 k ∧ Hid (rp m a f k = some f') ∧ Hid (wr.ownsRow w.heap.size 30 1 (.slice (some ⟨g0, 0, none⟩) m m) m (wcs m f')) ∧ Hid (Below w.heap.size w wr)) (fun i _ => q - (intOf i).toNat)
      case atStart => exact ⟨0, f, Nat.zero_le _, rfl, show rp m a f 0 = some f from rfl, HO1.out, HB1.out⟩
      case round =>
        obtain ⟨k, f', hk, rfl, HRP, HO, HW⟩ := hrel
        by_cases hlt : k < q
        · have hkn : (k : Int) < (q : Int) := by omega
          obtain ⟨b, off, e0, hbl, o0, o1, o2, o3, o4, o5⟩ := (HP.out.on HW.out).cells (show k < ns by omega)
          obtain rfl := HPS.out (by omega)
          subst e0
          obtain ⟨x, hx⟩ : ∃ x, a k = x := ⟨_, rfl⟩
          have HX := hide hx
          rw [hx] at o0 o1 o2 o3 o4 o5
          obtain ⟨ha, ac, at', hd, pt, ok⟩ := x
          simp only at o0 o1 o2 o3 o4 o5
          clear hx
          go_upto_region 9 with (fail)
          obtain ⟨W4, hW4, B4, R4⟩ := sbox wr ha ac at' hd pt ok
          have HB4 := hide (HW.out.trans (B4.mono HW.out.size))
          have p0 : W4.cell? ⟨wr.heap.size, 0, none⟩ = some (.int .i64 ha) := R4.cell (i := 0) (by decide)
          have p1 : W4.cell? ⟨wr.heap.size, 1, none⟩ = some (.int .i64 ac) := R4.cell (i := 1) (by decide)
          have p2 : W4.cell? ⟨wr.heap.size, 2, none⟩ = some (.int .i64 at') := R4.cell (i := 2) (by decide)
          have p3 : W4.cell? ⟨wr.heap.size, 3, none⟩ = some (.int .u64 hd) := R4.cell (i := 3) (by decide)
          have p4 : W4.cell? ⟨wr.heap.size, 4, none⟩ = some (.int .u64 pt) := R4.cell (i := 4) (by decide)
          have p5 : W4.cell? ⟨wr.heap.size, 5, none⟩ = some (.bool ok) := R4.cell (i := 5) (by decide)
          have ON := hide (one_ok (ha := ha) (ac := ac) (at' := at') (hd := hd) (pt := pt) (ok := ok) (owns_on HO.out B4) hm HB4.out.size)
          have NX := hide (show rp m a f (k + 1) = one m f' ⟨ha, ac, at', hd, pt, ok⟩ by simp only [rp]; rw [HRP.out, HX.out]; rfl)
          simp only [hW4]
          clear hW4 o0 o1 o2 o3 o4 o5 R4 B4
          cases hon : one m f' ⟨ha, ac, at', hd, pt, ok⟩ with
          | none =>
            rw [hon] at ON NX
            simp only at ON
            have NN := hide (show D = (130, 0, f) by rw [← HD.out, rp_none NX.out q (by omega)]; rfl)
            go_wp2_with (go_at_call 39; refine ON.out.mono ?_; rintro e w5 ⟨rfl, hb5⟩; have HB5 := hide hb5; clear hb5)
            go_ret2
            rw [NN.out]
            exact ⟨⟨none, 0, rfl, World.ownsRow_nil _ _ _ _⟩, HB4.out.trans HB5.out⟩
          | some f2 =>
            rw [hon] at ON NX
            simp only at ON
            go_wp2_with (go_at_call 39; refine ON.out.mono ?_; rintro e w5 ⟨⟨rfl, HO5⟩, hb5⟩; have HB5 := hide hb5; clear hb5)
            go_roundw
            case rel => exact ⟨k + 1, f2, by omega, by go_num, NX.out, HO5.out, HB4.out.trans HB5.out⟩
            case measure => simp [intOf]; omega
        · have hkn : ¬ (k : Int) < (q : Int) := by omega
          have hkq : k = q := by omega
          have RPQ := hide (show D = (0, m, f') by rw [← HD.out, ← hkq, HRP.out]; rfl)
          clear hkq
          go_wp2_with fail
          go_ret2
          rw [RPQ.out]
          exact ⟨⟨some ⟨g0, 0, none⟩, m, rfl, HO.out⟩, HW.out⟩
end Vw
end Go.Proofs.Ytnodkeoikamonaa
/-
  ShadeWords: a run's steps made again lead to its words; what Play tells, as it is seen.
-/
namespace Go.Proofs.Ytnodkeoikamonaa
open Go.RowKit
set_option linter.unusedVariables false
set_option linter.unusedSimpArgs false
set_option maxRecDepth 20000
namespace Shd
def u64m (x : Int) : Int := x % 18446744073709551616
def toSp (x : Stp) : Vw.Sp := ⟨x.hand, x.act, x.at_, x.had, x.put, x.ok⟩
theorem one_step (n : Nat) (f : Nat → Int) (q : Stp) : Vw.one n f (toSp (stepOf n f q)) = some (wordsOf n f q) := by
  by_cases h : 0 ≤ q.at_ ∧ q.at_ < n
  · have e : (stepOf n f q).at_ = q.at_ := by simp only [stepOf, if_pos h]
    have e2 : (stepOf n f q).had = f q.at_.toNat := by simp only [stepOf, if_pos h]
    simp only [Vw.one, toSp, e, e2, if_pos h, wordsOf]
    rfl
  · have e : stepOf n f q = ⟨q.hand, actOf q.act, q.at_, 0, 0, decide (actOf q.act ≠ 5)⟩ := by simp only [stepOf, if_neg h]
    rw [e]
    simp [Vw.one, toSp, wordsOf, if_neg h]
theorem rp_run {sh : Shp} {P : Par} {any : Bool} {f : Nat → Int} (hf : ∀ i, i < P.n → 0 ≤ f i ∧ f i ≤ 18446744073709551615) (hjw : ∀ h, h < P.nh → ∀ j, j < P.jn h → (P.jb h j).wf) (m : Nat) :
    ∀ i, i ≤ (runSt P (st0 (kShd any sh) P f) m).k → Vw.rp P.n (fun i => toSp ((runSt P (st0 (kShd any sh) P f) m).s i)) f i = some (runSt P (st0 (kShd any sh) P f) i).f := by
  intro i
  induction i with
  | zero => intro _; rfl
  | succ i ih =>
    intro hi
    obtain ⟨s, hw, e1, e2⟩ := run_step_ok (any := any) hf hjw m i (by omega) (sh := sh)
    simp only [Vw.rp, ih (by omega), Option.bind_some]
    rw [e1, one_step, e2]
theorem rd_run {sh : Shp} {P : Par} {any : Bool} {f : Nat → Int} (hf : ∀ i, i < P.n → 0 ≤ f i ∧ f i ≤ 18446744073709551615) (hjw : ∀ h, h < P.nh → ∀ j, j < P.jn h → (P.jb h j).wf) (m : Nat) (hn : P.n ≤ 4096) (hk : (runSt P (st0 (kShd any sh) P f) m).k ≤ 65536) :
    Vw.rd P.n (runSt P (st0 (kShd any sh) P f) m).k ((runSt P (st0 (kShd any sh) P f) m).k : Int) (fun i => toSp ((runSt P (st0 (kShd any sh) P f) m).s i)) f = (0, P.n, (runSt P (st0 (kShd any sh) P f) m).f) := by
  rw [Vw.rd3 (by omega) (Nat.le_refl _), rp_run hf hjw m _ (Nat.le_refl _), run_at_k P (st0 (kShd any sh) P f) rfl m]
  rfl
structure Asks (sh : Shp) (hd0 : Int) (x : Stp) : Prop where
  ways : x.had = x.put ∨ (¬ x.had = x.put ∧ x.at_ = 2 ∧ x.act = 5 ∧ bits .and .u64 (u64m (x.had / 4294967296 + 1)) 4294967295 = x.put / 4294967296) ∨
    (¬ x.had = x.put ∧ ¬ x.at_ = 2 ∧ ¬ x.at_ < hd0 ∧ (wrap64 (x.at_ - hd0)).tmod (wrap64 (3 + sh.b)) = 0 ∧ x.act = 5 ∧ bits .xor .u64 x.had x.put = 2) ∨
    (¬ x.had = x.put ∧ ¬ x.at_ = 2 ∧ ¬ x.at_ < hd0 ∧ (wrap64 (x.at_ - hd0)).tmod (wrap64 (3 + sh.b)) = 1 ∧ x.act = 2)
theorem xor_self2 {v : Int} (h : 0 ≤ v ∧ v ≤ 18446744073709551615) : bits .xor .u64 v (xr v) = 2 := by
  have h2 := xr_wf h
  rw [u64_xor v (xr v) h.1 (by omega) h2.1 (by omega)]
  unfold xr
  rw [u64_xor v 2 h.1 (by omega) (by omega) (by omega)]
  obtain ⟨n, rfl⟩ := Int.eq_ofNat_of_zero_le h.1
  have e : (n : Int).toNat ^^^ (((n : Int).toNat ^^^ (2 : Int).toNat : Nat) : Int).toNat = 2 := by
    show n ^^^ (n ^^^ 2) = 2
    rw [← Nat.xor_assoc, Nat.xor_self, Nat.zero_xor]
  rw [e]
  rfl
theorem asks_of {sh : Shp} (h5 : Shape.R5 sh.a sh.b sh.c sh.d sh.e) {x : Stp} (h : OkSt sh x) (hh : 0 ≤ x.had ∧ x.had ≤ 18446744073709551615) (hp : 0 ≤ x.put ∧ x.put ≤ 18446744073709551615) : Asks sh (8 + sh.c * (1 + sh.d) + sh.e) x := by
  constructor
  by_cases e : x.had = x.put
  · exact .inl e
  rcases h with h | ⟨h1, h2, h3⟩ | ⟨i, h1, h2, h3, h4⟩ | ⟨i, h1, h2, h3⟩
  · exact absurd h e
  · refine .inr (.inl ⟨e, h1, h2, ?_⟩)
    rw [h3]
    unfold u64m
    rw [and_low _ (by omega) (by omega)]
    omega
  all_goals
    obtain ⟨⟨a1, a2⟩, ⟨b1, b2⟩, ⟨c1, c2⟩, ⟨d1, d2⟩, f1, f2⟩ := h5
    have p1 : 0 ≤ sh.c * sh.d ∧ sh.c * sh.d ≤ 7 * 8 := ⟨Int.mul_nonneg (by omega) (by omega), Int.mul_le_mul c2 d2 (by omega) (by omega)⟩
    have p2 : 0 ≤ (i - 1) * (3 + sh.b) ∧ (i - 1) * (3 + sh.b) ≤ 64 * 7 := ⟨Int.mul_nonneg (by have := h1.1; omega) (by omega), Int.mul_le_mul (by have := h1.2; omega) (by omega) (by omega) (by omega)⟩
    have m1 : sh.c * (1 + sh.d) = sh.c + sh.c * sh.d := by rw [Int.mul_add, Int.mul_one]
    obtain ⟨p, hpe⟩ : ∃ p, sh.c * sh.d = p := ⟨_, rfl⟩
    obtain ⟨q, hqe⟩ : ∃ q, (i - 1) * (3 + sh.b) = q := ⟨_, rfl⟩
    have w3 : wrap64 (3 + sh.b) = 3 + sh.b := by unfold wrap64; omega
  · have at_ : x.at_ = 8 + sh.c * (1 + sh.d) + sh.e + q := by
      rw [h2, m1]; unfold headAt; rw [if_pos h1, hpe, hqe]; omega
    rw [hpe] at p1
    rw [hqe] at p2
    rw [m1, hpe] at at_ ⊢
    have w4 : wrap64 (x.at_ - (8 + (sh.c + p) + sh.e)) = q := by unfold wrap64; omega
    refine .inr (.inr (.inl ⟨e, by omega, by omega, ?_, h3, by rw [h4]; exact xor_self2 hh⟩))
    rw [w4, w3, ← hqe]
    exact Int.mul_tmod_left _ _
  · have at_ : x.at_ = 8 + sh.c * (1 + sh.d) + sh.e + (q + 1) := by
      rw [h2, m1]; unfold linkAt; rw [if_pos h1, hpe, hqe]; omega
    rw [hpe] at p1
    rw [hqe] at p2
    rw [m1, hpe] at at_ ⊢
    have w4 : wrap64 (x.at_ - (8 + (sh.c + p) + sh.e)) = q + 1 := by unfold wrap64; omega
    refine .inr (.inr (.inr ⟨e, by omega, by omega, ?_, h3⟩))
    rw [w4, w3, Int.tmod_eq_emod_of_nonneg (by omega), ← hqe, Int.add_comm, Int.add_mul_emod_self_right]
    exact Int.emod_eq_of_lt (by omega) (by omega)
end Shd
end Go.Proofs.Ytnodkeoikamonaa
/-
  Shape: the document's Size, Ack, Root, Weak, Object, Slot.
-/
namespace Go.Proofs.Ytnodkeoikamonaa
open Go.RowKit
set_option linter.unusedVariables false
set_option linter.unusedSimpArgs false
set_option linter.unnecessarySimpa false
set_option maxRecDepth 20000
namespace Shape
theorem rsize_bad {s0 s1 s2 s3 s4 s5 : Int} (H : ¬ R5 s0 s1 s2 s3 s4) (w : World) : Calls Try.prog 13 #[.agg #[.int .i64 s0, .int .i64 s1, .int .i64 s2, .int .i64 s3, .int .i64 s4, .int .i64 s5]] w fun e w' => e = .returned (.tuple #[.int .i64 0, .int .i64 120]) ∧ Below w.heap.size w w' := by
  have HH := hide H
  clear H
  obtain ⟨W0, hW0, B0, K⟩ := box w s0 s1 s2 s3 s4 s5
  have HB := hide B0
  obtain ⟨-, l0, x0, x1, x2, x3, x4, x5⟩ := K.out W0 (Below.refl _ _)
  clear B0
  go_enter Try.func13, Try.ntmps13
  go_wp2_with (go_at_call 24; refine (rcheck_bad HH.out _).mono ?_; rintro e w1 ⟨rfl, hb1⟩; have HB1 := hide hb1; clear hb1; obtain ⟨-, m1, y0, y1, y2, y3, y4, y5⟩ := K.out w1 HB1.out)
  go_ret2
  exact ⟨rfl, (K.out _ HB1.out).1⟩
theorem rsize_ok {o s h r k : Nat} {s5 : Int} (H : (⟨o, s, h, r, k⟩ : Sh).Ok) (w : World) : Calls Try.prog 13 #[.agg #[.int .i64 (o : Int), .int .i64 (s : Int), .int .i64 (h : Int), .int .i64 (r : Int), .int .i64 (k : Int), .int .i64 s5]] w fun e w' => e = .returned (.tuple #[.int .i64 ((size ⟨o, s, h, r, k⟩ : Nat) : Int), .int .i64 0]) ∧ Below w.heap.size w w' := by
  have HH := hide (r5 H)
  obtain ⟨b1, b2, b3, b4, b5, b6, b7, b8, b9, b10⟩ := bnds H
  obtain ⟨q, hq⟩ : ∃ q, o * (3 + s) = q := ⟨_, rfl⟩
  obtain ⟨p, hp⟩ : ∃ p, h * r = p := ⟨_, rfl⟩
  have ES := hide (show ((size ⟨o, s, h, r, k⟩ : Nat) : Int) = 8 + (h : Int) + (p : Int) + (k : Int) + (q : Int) from by simp only [size, bO, bK, bR, ow]; rw [hp, hq]; omega)
  rw [hp] at b6
  rw [hq] at b7
  have hp' : (h : Int) * (r : Int) = (p : Int) := by rw [← hp]; simp
  have hq' : (o : Int) * (3 + (s : Int)) = (q : Int) := by rw [← hq]; simp
  clear H hq hp
  obtain ⟨W0, hW0, B0, K⟩ := box w (o : Int) (s : Int) (h : Int) (r : Int) (k : Int) s5
  have HB := hide B0
  obtain ⟨-, l0, x0, x1, x2, x3, x4, x5⟩ := K.out W0 (Below.refl _ _)
  clear B0
  go_enter Try.func13, Try.ntmps13
  go_wp2_with (go_at_call 24; refine (rcheck_ok HH.out _).mono ?_; rintro e w1 ⟨rfl, hb1⟩; have HB1 := hide hb1; clear hb1; obtain ⟨-, m1, y0, y1, y2, y3, y4, y5⟩ := K.out w1 HB1.out)
  go_ret2
  exact ⟨by rw [ES.out]; rfl, (K.out _ HB1.out).1⟩
end Shape
end Go.Proofs.Ytnodkeoikamonaa
