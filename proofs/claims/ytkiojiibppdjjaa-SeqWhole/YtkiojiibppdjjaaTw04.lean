/-
  Lemmas: RHB.
-/
import Derived.Test.YtkiojiibppdjjaaTp20
set_option linter.unusedVariables false
set_option linter.unusedSimpArgs false
namespace Go.Proofs.Ytkiojiibppdjjaa
open Go.RowKit

namespace RH
open RetN (pv D)

theorem region2 {P : Program} {id : Nat} {ops : Array Oper} {Q : Exit → Act → World → Prop} {ks : List (Nat × Nat)} {vals : Nat → Value} {xs : List Nat} {WI : (Nat → Bool) → (Nat → Value) → World → Prop} {w0 : World} {a0 : Act}
    (hm : P.follows .mixedOrders = true) (hg : ∀ (i : Nat) (o : Oper), ops[i]? = some o → o.guard = none) (hback : ∀ (i : Nat) (o : Oper), ops[i]? = some o → ∀ e ∈ o.after, Region.binds .any e = true → e.on < i)
    (hgood : (ks.all fun p => (ks.all fun q => p.1 == q.1 || p.2 != q.2) && !xs.contains p.2) = true) (hD : ∀ k, D ks k → k < a0.tmps.size) (hX : ∀ k, xs.contains k = true → k < a0.tmps.size)
    (hloc : ∀ L s s' w, (∀ k, xs.contains k = true → s k = s' k) → WI L s w → WI L s' w) (hW0 : WI (fun _ => false) (fun k => a0.eval (.tmp k)) { w0 with drawn := w0.drawn + 1 })
    (does : ∀ (i : Nat) (o : Oper), ops[i]? = some o → Does P Q ks vals xs WI a0 i o)
    (fin : ∀ L a w, In ks vals xs WI a0 L a w → (∀ i, i < ops.size → L i = true) → Q .normal a w) :
    (Code.region id ops true).wp P Q a0 w0 := by
  simp only [List.all_eq_true, bne_iff_ne, Bool.or_eq_true, beq_iff_eq, Bool.and_eq_true, Bool.not_eq_true'] at hgood
  have pvm : ∀ {i d v}, pv ks vals i = some (d, v) → (i, d) ∈ ks := fun {i d v} h => by
    obtain ⟨d', h1, h2⟩ := Option.map_eq_some_iff.1 h
    cases h2; exact Reg.look_mem h1
  refine region_inv hm hg hback (fun L a w => In ks vals xs WI a0 L a w) ?step (fun L a w h hall => fin L a w h hall) ?start
  case start => exact ⟨rfl, rfl, fun _ _ _ => rfl, fun _ _ _ _ h => (by cases h), hW0⟩
  case step =>
    rintro L a w i o h ho hL hd
    have none_ok : ∀ {j d' v'}, Reg.look ks i = none → pv ks vals j = some (d', v') → upd L i true j = true → L j = true := fun {j d' v'} hlk hj hLj => by
      have hji : j ≠ i := fun e => by
        subst e
        obtain ⟨d'', h1, _⟩ := Option.map_eq_some_iff.1 hj
        rw [hlk] at h1; cases h1
      rwa [upd_other _ _ hji] at hLj
    rcases does i o ho with ⟨hdst, hwp⟩ | ⟨x, hdst, hx, hno, hwp⟩
    · refine hwp L a w _ h hL hd (fun w' v hv hW => ?_)
      cases hlk : Reg.look ks i with
      | none =>
        rw [hdst, hlk]
        exact ⟨h.sz, h.df, h.fix, fun j d' v' hj hLj => h.pure j d' v' hj (none_ok hlk hj hLj), hW⟩
      | some d =>
        have hv' := hv d (hdst.trans hlk)
        subst hv'
        rw [hdst, hlk]
        have hm' : (i, d) ∈ ks := Reg.look_mem hlk
        have hDd : D ks d := by simp only [D, List.any_eq_true, beq_iff_eq]; exact ⟨_, hm', rfl⟩
        have e : ∀ k : Nat, k ≠ d → (a.put (some d) (vals i)).eval (.tmp k) = a.eval (.tmp k) := fun k hk => put_other hk
        refine ⟨by rw [put_size]; exact h.sz, by rw [put_defs]; exact h.df, fun k hk hkx => ?_, fun j d' v' hj hLj => ?_, hloc _ _ _ _ (fun k hk => (e k (fun he => by subst he; rw [(hgood _ hm').2] at hk; cases hk)).symm) hW⟩
        · rw [e k (fun he => hk (he ▸ hDd))]; exact h.fix k hk hkx
        · by_cases hij : j = i
          · subst hij
            rw [pv, hlk] at hj
            cases hj
            exact put_eval (by rw [h.sz]; exact hD _ hDd)
          · rw [upd_other _ _ hij] at hLj
            have : d' ≠ d := by
              rcases (hgood _ hm').1 _ (pvm hj) with e1 | e1
              · exact absurd e1.symm hij
              · exact Ne.symm e1
            rw [e d' this]
            exact h.pure j d' v' hj hLj
    · refine hwp L a w _ h hL hd (fun w' v hW => ?_)
      have e : ∀ k : Nat, k ≠ x → (a.put (some x) v).eval (.tmp k) = a.eval (.tmp k) := fun k hk => put_other hk
      have ex : (a.put (some x) v).eval (.tmp x) = v := put_eval (by rw [h.sz]; exact hX x hx)
      refine ⟨by rw [put_size]; exact h.sz, by rw [put_defs]; exact h.df, fun k hk hkx => by rw [e k (fun he => by subst he; rw [hx] at hkx; cases hkx)]; exact h.fix k hk hkx, fun j d' v' hj hLj => ?_, hloc _ _ _ _ (fun k hk => ?_) hW⟩
      · rw [e d' (fun he => by subst he; have := (hgood _ (pvm hj)).2; rw [hx] at this; cases this)]
        exact h.pure j d' v' hj (none_ok hno hj hLj)
      · by_cases he : k = x
        · subst he; simp [ex]
        · simp [he, e k he]

end RH
end Go.Proofs.Ytkiojiibppdjjaa
