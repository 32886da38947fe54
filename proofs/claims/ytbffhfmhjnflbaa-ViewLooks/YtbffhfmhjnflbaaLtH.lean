/-
  A region that draws its order, by a table of what each operation tells, with several slots whose values the invariant tells.
-/
import Derived.Test.YtbffhfmhjnflbaaLtR
import Derived.Maps.AppendAt
namespace Go.Proofs.Ytbffhfmhjnflbaa
open Go.RowKit
set_option linter.unusedVariables false
set_option linter.unusedSimpArgs false
namespace LtH
open Lt hiding In Does region
structure In (ks : List (Nat × Nat)) (vals : Nat → Value) (xs : List Nat) (WI : (Nat → Bool) → (Nat → Value) → World → Prop) (a0 : Act) (L : Nat → Bool) (a : Act) (w : World) : Prop where
  sz : a.tmps.size = a0.tmps.size
  df : a.defers = a0.defers
  fix : ∀ k, ¬ D ks k → xs.contains k = false → a.eval (.tmp k) = a0.eval (.tmp k)
  pure : ∀ i d v, pv ks vals i = some (d, v) → L i = true → a.eval (.tmp d) = v
  world : WI L (fun k => a.eval (.tmp k)) w

inductive Does (P : Program) (Q : Exit → Act → World → Prop) (ks : List (Nat × Nat)) (vals : Nat → Value) (xs : List Nat) (WI : (Nat → Bool) → (Nat → Value) → World → Prop) (a0 : Act) (i : Nat) (o : Oper) : Prop where
  | mk (dst : o.dst = Lt.look ks i) (wp : ∀ L a w (K : Act → World → Prop), In ks vals xs WI a0 L a w → L i = false → (∀ e ∈ o.after, Region.binds .any e = true → L e.on = true) → (∀ w' v, (∀ d, o.dst = some d → v = vals i) → WI (up L i) (fun k => a.eval (.tmp k)) w' → K (a.put o.dst v) w') → o.wp P a w K Q)
  | own (x : Nat) (dst : o.dst = some x) (hx : xs.contains x = true) (no : Lt.look ks i = none) (wp : ∀ L a w (K : Act → World → Prop), In ks vals xs WI a0 L a w → L i = false → (∀ e ∈ o.after, Region.binds .any e = true → L e.on = true) → (∀ w' v, WI (up L i) (fun k => if k = x then v else a.eval (.tmp k)) w' → K (a.put (some x) v) w') → o.wp P a w K Q)

theorem region2 {P : Program} {id : Nat} {ops : Array Oper} {Q : Exit → Act → World → Prop} {ks : List (Nat × Nat)} {vals : Nat → Value} {xs : List Nat} {WI : (Nat → Bool) → (Nat → Value) → World → Prop} {w0 : World} {a0 : Act}
    (hm : P.follows .mixedOrders = true) (hg : ∀ (i : Nat) (o : Oper), ops[i]? = some o → o.guard = none) (hback : ∀ (i : Nat) (o : Oper), ops[i]? = some o → ∀ e ∈ o.after, Region.binds .any e = true → e.on < i)
    (hgood : (ks.all fun p => (ks.all fun q => p.1 == q.1 || p.2 != q.2) && !xs.contains p.2) = true) (hD : ∀ k, D ks k → k < a0.tmps.size) (hX : ∀ k, xs.contains k = true → k < a0.tmps.size)
    (hloc : ∀ L s s' w, (∀ k, xs.contains k = true → s k = s' k) → WI L s w → WI L s' w) (hW0 : WI (fun _ => false) (fun k => a0.eval (.tmp k)) { w0 with drawn := w0.drawn + 1 })
    (does : ∀ (i : Nat) (o : Oper), ops[i]? = some o → Does P Q ks vals xs WI a0 i o)
    (fin : ∀ L a w, In ks vals xs WI a0 L a w → (∀ i, i < ops.size → L i = true) → Q .normal a w) :
    (Code.region id ops true).wp P Q a0 w0 := by
  simp only [List.all_eq_true, bne_iff_ne, Bool.or_eq_true, beq_iff_eq, Bool.and_eq_true, Bool.not_eq_true'] at hgood
  have pvm : ∀ {i d v}, pv ks vals i = some (d, v) → (i, d) ∈ ks := fun {i d v} h => by
    obtain ⟨d', h1, h2⟩ := Option.map_eq_some_iff.1 h
    cases h2; exact Lt.look_mem h1
  refine Lt.region_inv hm hback (fun L a w => In ks vals xs WI a0 L a w) ?step (fun L a w h hall => fin L a w h hall) ?start
  case start => exact ⟨rfl, rfl, fun _ _ _ => rfl, fun _ _ _ _ h => (by cases h), hW0⟩
  case step =>
    rintro L a w i o h ho hL hd
    have none_ok : ∀ {j d' v'}, Lt.look ks i = none → pv ks vals j = some (d', v') → up L i j = true → L j = true := fun {j d' v'} hlk hj hLj => by
      have hji : j ≠ i := fun e => by
        subst e
        obtain ⟨d'', h1, _⟩ := Option.map_eq_some_iff.1 hj
        rw [hlk] at h1; cases h1
      rwa [up_other _ hji] at hLj
    refine .inl ⟨by simp [Region.wanted, hg i o ho], ?_⟩
    rcases does i o ho with ⟨hdst, hwp⟩ | ⟨x, hdst, hx, hno, hwp⟩
    · refine hwp L a w _ h hL hd (fun w' v hv hW => ?_)
      cases hlk : Lt.look ks i with
      | none =>
        rw [hdst, hlk]
        exact ⟨h.sz, h.df, h.fix, fun j d' v' hj hLj => h.pure j d' v' hj (none_ok hlk hj hLj), hW⟩
      | some d =>
        have hv' := hv d (hdst.trans hlk)
        subst hv'
        rw [hdst, hlk]
        have hm' : (i, d) ∈ ks := Lt.look_mem hlk
        have hDd : D ks d := by simp only [D, List.any_eq_true, beq_iff_eq]; exact ⟨_, hm', rfl⟩
        have e : ∀ k : Nat, k ≠ d → (a.put (some d) (vals i)).eval (.tmp k) = a.eval (.tmp k) := fun k hk => Lt.put_other hk
        refine ⟨by rw [Lt.put_size]; exact h.sz, by rw [Lt.put_defs]; exact h.df, fun k hk hkx => ?_, fun j d' v' hj hLj => ?_, hloc _ _ _ _ (fun k hk => (e k (fun he => by subst he; rw [(hgood _ hm').2] at hk; cases hk)).symm) hW⟩
        · rw [e k (fun he => hk (he ▸ hDd))]; exact h.fix k hk hkx
        · by_cases hij : j = i
          · subst hij
            rw [pv, hlk] at hj
            cases hj
            exact Lt.put_eval (by rw [h.sz]; exact hD _ hDd)
          · rw [up_other _ hij] at hLj
            have : d' ≠ d := by
              rcases (hgood _ hm').1 _ (pvm hj) with e1 | e1
              · exact absurd e1.symm hij
              · exact Ne.symm e1
            rw [e d' this]
            exact h.pure j d' v' hj hLj
    · refine hwp L a w _ h hL hd (fun w' v hW => ?_)
      have e : ∀ k : Nat, k ≠ x → (a.put (some x) v).eval (.tmp k) = a.eval (.tmp k) := fun k hk => Lt.put_other hk
      have ex : (a.put (some x) v).eval (.tmp x) = v := Lt.put_eval (by rw [h.sz]; exact hX x hx)
      refine ⟨by rw [Lt.put_size]; exact h.sz, by rw [Lt.put_defs]; exact h.df, fun k hk hkx => by rw [e k (fun he => by subst he; rw [hx] at hkx; cases hkx)]; exact h.fix k hk hkx, fun j d' v' hj hLj => ?_, hloc _ _ _ _ (fun k hk => ?_) hW⟩
      · rw [e d' (fun he => by subst he; have := (hgood _ (pvm hj)).2; rw [hx] at this; cases this)]
        exact h.pure j d' v' hj (none_ok hno hj hLj)
      · by_cases he : k = x
        · subst he; simp [ex]
        · simp [he, e k he]

section
variable {P : Program} {Q : Exit → Act → World → Prop} {ks : List (Nat × Nat)} {vals : Nat → Value} {xs : List Nat} {WI : (Nat → Bool) → (Nat → Value) → World → Prop} {a0 : Act} {i : Nat} {o : Oper}
theorem Does.read (hd : o.dst = Lt.look ks i) (hW : ∀ L s w, WI L s w → WI (up L i) s w) (h : ∀ L a w, In ks vals xs WI a0 L a w → (∀ e ∈ o.after, Region.binds .any e = true → L e.on = true) → (execOp a.eval o).run P w = .ok (.value (vals i)) w) : Does P Q ks vals xs WI a0 i o :=
  .mk hd fun L a w K hI _ hdep hk => Lt.wp_value (h L a w hI hdep) (hk w _ (fun _ _ => rfl) (hW L _ w hI.world))
/-- A call whose answer the invariant tells. -/
theorem Does.call {x : Nat} {f : FuncId} {args : Array Value} (hd : o.dst = some x) (hx : xs.contains x = true) (hn : Lt.look ks i = none) (h : ∀ L a w, In ks vals xs WI a0 L a w → (∀ e ∈ o.after, Region.binds .any e = true → L e.on = true) → (execOp a.eval o).run P w = .ok (.enter f args) w)
    (hc : ∀ L s w, WI L s w → L i = false → Calls P f args w fun e w' => ∃ v, e = .returned v ∧ WI (up L i) (fun k => if k = x then v else s k) w') : Does P Q ks vals xs WI a0 i o :=
  .own x hd hx hn fun L a w K hI hL hdep hk => Lt.wp_call (h L a w hI hdep) ((hc L _ w hI.world hL).mono (by rintro e w' ⟨v, rfl, hw⟩; exact ⟨_, rfl, by rw [hd]; exact hk _ _ hw⟩))
/-- A slot of the invariant's, told anew in another. -/
theorem Does.copy {x y : Nat} (hd : o.dst = some x) (hx : xs.contains x = true) (hn : Lt.look ks i = none) (ho : o.op = .assign (.tmp y)) (hP : ∀ (ev : Operand → Value) (w : World), (execOp ev o).run P w = .ok (.value (ev (.tmp y))) w)
    (hw : ∀ L s w, WI L s w → L i = false → (∀ e ∈ o.after, Region.binds .any e = true → L e.on = true) → WI (up L i) (fun k => if k = x then s y else s k) w) : Does P Q ks vals xs WI a0 i o :=
  .own x hd hx hn fun L a w K hI hL hdep hk => Lt.wp_value (hP a.eval w) (by rw [hd]; exact hk _ _ (hw L _ w hI.world hL hdep))
end
/-- The frame behind it: the slots that were told, laid over those ahead of it. -/
def lay (a : Act) (l : List Nat) (b : Act) : Act := l.foldl (fun b k => b.put (some k) (a.eval (.tmp k))) b
theorem lay_size (a : Act) : ∀ (l : List Nat) (b : Act), (lay a l b).tmps.size = b.tmps.size ∧ (lay a l b).defers = b.defers
  | [], b => ⟨rfl, rfl⟩
  | k :: l, b => by
    have h := lay_size a l (b.put (some k) (a.eval (.tmp k)))
    simp only [lay, List.foldl] at h ⊢
    rw [h.1, h.2, Lt.put_size, Lt.put_defs]
    exact ⟨rfl, rfl⟩
theorem lay_eval (a : Act) : ∀ (l : List Nat) (b : Act) (k : Nat), (∀ x, x ∈ l → x < b.tmps.size) → (lay a l b).eval (.tmp k) = if k ∈ l then a.eval (.tmp k) else b.eval (.tmp k)
  | [], b, k, _ => by simp [lay]
  | x :: l, b, k, h => by
    have hx := h x (by simp)
    have ih := lay_eval a l (b.put (some x) (a.eval (.tmp x))) k (fun y hy => by rw [Lt.put_size]; exact h y (by simp [hy]))
    simp only [lay, List.foldl] at ih ⊢
    rw [ih]
    by_cases hl : k ∈ l
    · simp [hl]
    · simp only [hl, if_false]
      by_cases e : k = x
      · subst e; rw [Lt.put_eval hx]; simp
      · rw [Lt.put_other e]; simp [e, hl]
theorem act_ext {a b : Act} (hs : a.tmps.size = b.tmps.size) (hd : a.defers = b.defers) (h : ∀ k, a.eval (.tmp k) = b.eval (.tmp k)) : a = b := by
  obtain ⟨ta, da⟩ := a
  obtain ⟨tb, db⟩ := b
  simp only at hs hd
  subst hd
  congr 1
  apply Array.ext hs
  intro i h1 h2
  have := h i
  simpa [Act.eval, h1, h2] using this
theorem frame {ks : List (Nat × Nat)} {vals : Nat → Value} {xs : List Nat} {WI : (Nat → Bool) → (Nat → Value) → World → Prop} {a0 a : Act} {L : Nat → Bool} {w : World} (h : In ks vals xs WI a0 L a w) (l : List Nat) (hl : (ks.all fun p => l.contains p.2) = true) (hx : (xs.all fun k => l.contains k) = true) (hs : ∀ x, x ∈ l → x < a0.tmps.size) : a = lay a l a0 := by
  refine act_ext ?_ ?_ ?_
  · rw [(lay_size a l a0).1]; exact h.sz
  · rw [(lay_size a l a0).2]; exact h.df
  · intro k
    rw [lay_eval a l a0 k hs]
    by_cases hk : k ∈ l
    · simp [hk]
    · simp only [hk, if_false]
      refine h.fix k (fun hD => ?_) ?_
      · simp only [D, List.any_eq_true, beq_iff_eq] at hD
        obtain ⟨p, hp, e⟩ := hD
        simp only [List.all_eq_true] at hl
        have := hl p hp
        rw [e] at this
        simp [hk] at this
      · cases hc : xs.contains k with
        | false => rfl
        | true =>
          simp only [List.all_eq_true] at hx
          have := hx k (by simpa using hc)
          simp [hk] at this
end LtH
end Go.Proofs.Ytbffhfmhjnflbaa
