/-
  A region that draws its order, some of its operations in a chain: what each link of the chain leaves, in slots and world; the others only read.
-/
import Derived.Test.YtbffhfmhjnflbaaLtH
namespace Go.Proofs.Ytbffhfmhjnflbaa
open Go.RowKit
set_option linter.unusedVariables false
set_option linter.unusedSimpArgs false
namespace LtC
open Lt (up up_same up_other)

def WI (cs : List Nat) (ra rb : Nat) (S : Nat → (Nat → Value) → World → Prop) (L : Nat → Bool) (s : Nat → Value) (w : World) : Prop :=
  (∃ n, n ≤ cs.length ∧ (∀ m i, cs[m]? = some i → (L i = true ↔ m < n)) ∧ S n s w) ∧ (L ra = true → L rb = true)

variable {cs : List Nat} {ra rb : Nat} {S : Nat → (Nat → Value) → World → Prop} {L : Nat → Bool} {s : Nat → Value} {w : World}
theorem WI.start (h : S 0 s w) : WI cs ra rb S (fun _ => false) s w := ⟨⟨0, Nat.zero_le _, fun m i _ => by simp, h⟩, fun e => by cases e⟩
theorem up_keep {b : Bool} (h : L rb = true) (i : Nat) : up L i rb = true := by
  by_cases e : rb = i
  · subst e; exact up_same _ _
  · rw [up_other _ e]; exact h
theorem WI.pass {i : Nat} (hi : cs.contains i = false) (hra : cs.contains ra = true) (h : WI cs ra rb S L s w) : WI cs ra rb S (up L i) s w := by
  obtain ⟨⟨n, hn, hL, hS⟩, hr⟩ := h
  refine ⟨⟨n, hn, fun m j hj => ?_, hS⟩, fun e => ?_⟩
  · rw [up_other _ (fun e => ?_)]
    · exact hL m j hj
    · subst e
      have := List.mem_of_getElem? hj
      simp [this] at hi
  · rw [up_other _ (fun e => by subst e; rw [hi] at hra; cases hra)] at e
    exact up_keep (b := true) (hr e) i
theorem WI.early (h : WI cs ra rb S L s w) {m : Nat} (hm : cs[m]? = some ra) (hL : L rb = false) : ∃ n, n ≤ m ∧ S n s w := by
  obtain ⟨⟨n, hn, hLn, hS⟩, hr⟩ := h
  refine ⟨n, ?_, hS⟩
  rcases Nat.lt_or_ge m n with hlt | hge
  · have := hr ((hLn m ra hm).2 hlt)
    rw [hL] at this
    cases this
  · exact hge
theorem WI.any (h : WI cs ra rb S L s w) : ∃ n, S n s w := by
  obtain ⟨⟨n, hn, hLn, hS⟩, hr⟩ := h
  exact ⟨n, hS⟩
theorem WI.at {m i : Nat} (hnd : cs.Nodup) (hm : cs[m]? = some i) (h : WI cs ra rb S L s w) (hL : L i = false) (hr' : i = ra → L rb = true) (hp : ∀ m' j, m = m' + 1 → cs[m']? = some j → L j = true) : S m s w ∧ ∀ s' w', S (m + 1) s' w' → WI cs ra rb S (up L i) s' w' := by
  obtain ⟨⟨n, hn, hLn, hS⟩, hr⟩ := h
  have h1 : ¬ m < n := fun hlt => by have := (hLn m i hm).2 hlt; rw [hL] at this; cases this
  have hlen := (List.getElem?_eq_some_iff.1 hm).1
  have h2 : m ≤ n := by
    cases m with
    | zero => omega
    | succ m' =>
      obtain ⟨j, hj⟩ : ∃ j, cs[m']? = some j := ⟨cs[m']'(by omega), List.getElem?_eq_getElem _⟩
      have := (hLn m' j hj).1 (hp m' j rfl hj)
      omega
  have h3 : m = n := by omega
  subst h3
  refine ⟨hS, fun s' w' hS' => ⟨⟨m + 1, by omega, fun m2 j hj => ?_, hS'⟩, fun e => ?_⟩⟩
  rotate_left
  · refine up_keep (b := true) ?_ i
    by_cases he : i = ra
    · exact hr' he
    · rw [up_other _ (Ne.symm he)] at e
      exact hr e
  by_cases he : j = i
  · subst he
    have e : m2 = m := by
      have h5 := (List.getElem?_eq_some_iff.1 hj).1
      have h6 := List.pairwise_iff_getElem.1 hnd
      have e1 := (List.getElem?_eq_some_iff.1 hj).2
      have e2 := (List.getElem?_eq_some_iff.1 hm).2
      rcases Nat.lt_trichotomy m2 m with h7 | h7 | h7
      · exact absurd (e1.trans e2.symm) (h6 m2 m h5 hlen h7)
      · exact h7
      · exact absurd (e2.trans e1.symm) (h6 m m2 hlen h5 h7)
    subst e
    simp [up_same]
  · rw [up_other _ he, hLn m2 j hj]
    constructor
    · omega
    · intro h4
      have : ¬ m2 = m := fun e => by subst e; rw [hm] at hj; cases hj; exact he rfl
      omega
theorem WI.done (h : WI cs ra rb S L s w) (hall : ∀ i, i ∈ cs → L i = true) : S cs.length s w := by
  obtain ⟨⟨n, hn, hL, hS⟩, _⟩ := h
  have : n = cs.length := by
    rcases Nat.lt_or_ge n cs.length with hlt | hge
    · obtain ⟨j, hj⟩ : ∃ j, cs[n]? = some j := ⟨cs[n]'hlt, List.getElem?_eq_getElem _⟩
      have := (hL n j hj).1 (hall j (List.mem_of_getElem? hj))
      omega
    · omega
  subst this
  exact hS

variable {P : Program} {Q : Exit → Act → World → Prop} {ks : List (Nat × Nat)} {vals : Nat → Value} {xs : List Nat} {a0 : Act} {i m : Nat} {o : Oper}
/-- It only reads; what it needs of the world each link keeps. -/
theorem read (hd : o.dst = Lt.look ks i) (hi : cs.contains i = false) (hra : cs.contains ra = true) (h : ∀ L a w, LtH.In ks vals xs (WI cs ra rb S) a0 L a w → L i = false → (∀ e ∈ o.after, Region.binds .any e = true → L e.on = true) → (execOp a.eval o).run P w = .ok (.value (vals i)) w) : LtH.Does P Q ks vals xs (WI cs ra rb S) a0 i o :=
  .mk hd fun L a w K hI hL hdep hk => Lt.wp_value (h L a w hI hL hdep) (hk w _ (fun _ _ => rfl) (hI.world.pass hi hra))
/-- A call: a link of the chain. -/
theorem call {x : Nat} {f : FuncId} {args : (Nat → Value) → Array Value} (hnd : cs.Nodup) (hm : cs[m]? = some i) (hd : o.dst = some x) (hx : xs.contains x = true) (hn : Lt.look ks i = none) (hr : ∀ (L : Nat → Bool), (∀ e ∈ o.after, Region.binds .any e = true → L e.on = true) → i = ra → L rb = true) (hp : ∀ (L : Nat → Bool), (∀ e ∈ o.after, Region.binds .any e = true → L e.on = true) → ∀ m' j, m = m' + 1 → cs[m']? = some j → L j = true)
    (h : ∀ L a w, LtH.In ks vals xs (WI cs ra rb S) a0 L a w → (∀ e ∈ o.after, Region.binds .any e = true → L e.on = true) → S m (fun k => a.eval (.tmp k)) w → (execOp a.eval o).run P w = .ok (.enter f (args (fun k => a.eval (.tmp k)))) w)
    (hc : ∀ s w, S m s w → Calls P f (args s) w fun e w' => ∃ v, e = .returned v ∧ S (m + 1) (fun k => if k = x then v else s k) w') : LtH.Does P Q ks vals xs (WI cs ra rb S) a0 i o :=
  .own x hd hx hn fun L a w K hI hL hdep hk => by
    obtain ⟨h1, h2⟩ := hI.world.at hnd hm hL (hr L hdep) (hp L hdep)
    refine Lt.wp_call (h L a w hI hdep h1) ((hc _ w h1).mono ?_)
    rintro e w' ⟨v, rfl, hw⟩
    exact ⟨v, rfl, by rw [hd]; exact hk _ _ (h2 _ _ hw)⟩
/-- Another operation that tells a slot: a link of the chain. -/
theorem link {x : Nat} (hnd : cs.Nodup) (hm : cs[m]? = some i) (hd : o.dst = some x) (hx : xs.contains x = true) (hn : Lt.look ks i = none) (hr : ∀ (L : Nat → Bool), (∀ e ∈ o.after, Region.binds .any e = true → L e.on = true) → i = ra → L rb = true) (hp : ∀ (L : Nat → Bool), (∀ e ∈ o.after, Region.binds .any e = true → L e.on = true) → ∀ m' j, m = m' + 1 → cs[m']? = some j → L j = true)
    (h : ∀ L a w (K : Act → World → Prop), LtH.In ks vals xs (WI cs ra rb S) a0 L a w → (∀ e ∈ o.after, Region.binds .any e = true → L e.on = true) → S m (fun k => a.eval (.tmp k)) w → (∀ v w', S (m + 1) (fun k => if k = x then v else a.eval (.tmp k)) w' → K (a.put o.dst v) w') → o.wp P a w K Q) : LtH.Does P Q ks vals xs (WI cs ra rb S) a0 i o :=
  .own x hd hx hn fun L a w K hI hL hdep hk => by
    obtain ⟨h1, h2⟩ := hI.world.at hnd hm hL (hr L hdep) (hp L hdep)
    exact h L a w K hI hdep h1 (fun v w' hS => by rw [hd]; exact hk w' v (h2 _ _ hS))
/-- A store: a link of the chain. -/
theorem store (hnd : cs.Nodup) (hm : cs[m]? = some i) (hd : o.dst = none) (hn : Lt.look ks i = none) (hr : ∀ (L : Nat → Bool), (∀ e ∈ o.after, Region.binds .any e = true → L e.on = true) → i = ra → L rb = true) (hp : ∀ (L : Nat → Bool), (∀ e ∈ o.after, Region.binds .any e = true → L e.on = true) → ∀ m' j, m = m' + 1 → cs[m']? = some j → L j = true)
    (h : ∀ L a w (K : Act → World → Prop), LtH.In ks vals xs (WI cs ra rb S) a0 L a w → (∀ e ∈ o.after, Region.binds .any e = true → L e.on = true) → S m (fun k => a.eval (.tmp k)) w → (∀ v w', S (m + 1) (fun k => a.eval (.tmp k)) w' → K (a.put o.dst v) w') → o.wp P a w K Q) : LtH.Does P Q ks vals xs (WI cs ra rb S) a0 i o :=
  .mk (by rw [hd, hn]) fun L a w K hI hL hdep hk => by
    obtain ⟨h1, h2⟩ := hI.world.at hnd hm hL (hr L hdep) (hp L hdep)
    exact h L a w K hI hdep h1 (fun v w' hS => hk w' v (fun d e => by rw [hd] at e; cases e) (h2 _ _ hS))
end LtC
end Go.Proofs.Ytbffhfmhjnflbaa
