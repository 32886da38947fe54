/-
  Lemmas: RRetM.
-/
import Derived.Test.YtgfbohmehhhbeaaTp18
/-
  A region that draws its order: it reads by a table, makes one call and writes two variables made ahead of it: one with what was read, one with what the call told.
-/
namespace Go.Proofs.Ytgfbohmehhhbeaa
open Go.RowKit
set_option linter.unusedVariables false
set_option linter.unusedSimpArgs false
set_option linter.unnecessarySimpa false

namespace RetM
open RetN (pv D)

structure In (ks : List (Nat × Nat)) (vals : Nat → Value) (kc sc : Nat) (vc : Value) (WI : Bool → World → Prop) (a0 : Act) (C iC : Nat) (lt : List Value) (E iE : Nat) (ls : List Value) (L : Nat → Bool) (a : Act) (w : World) : Prop where
  sz : a.tmps.size = a0.tmps.size
  df : a.defers = a0.defers
  fix : ∀ k, ¬ D ks k → k ≠ sc → a.eval (.tmp k) = a0.eval (.tmp k)
  pure : ∀ i d v, pv ks vals i = some (d, v) → L i = true → a.eval (.tmp d) = v
  call : L kc = true → a.eval (.tmp sc) = vc
  dep : L iE = true → L kc = true
  world : WI (L kc) w
  tC : w.there C 0 lt.length
  tE : w.there E 0 ls.length
  sC : L iC = true → w.rangeAt C 0 lt
  sE : L iE = true → w.rangeAt E 0 ls

theorem region {P : Program} {id : Nat} {ops : Array Oper} {Q : Exit → Act → World → Prop} {ks : List (Nat × Nat)} {vals : Nat → Value} {w0 : World} {a0 : Act} {kc sc : Nat} {vc : Value} {WI : Bool → World → Prop} {C iC E iE : Nat} {lt ls : List Value}
    (hm : P.follows .mixedOrders = true) (hg : ∀ (i : Nat) (o : Oper), ops[i]? = some o → o.guard = none) (hback : ∀ (i : Nat) (o : Oper), ops[i]? = some o → ∀ e ∈ o.after, Region.binds .any e = true → e.on < i)
    (hgood : (ks.all fun p => (ks.all fun q => p.1 == q.1 || p.2 != q.2) && (p.1 != kc && p.1 != iC && p.1 != iE && p.2 != sc)) = true) (hki : kc ≠ iE) (hkc : kc ≠ iC) (hi : iC ≠ iE) (hCE : C ≠ E) (hD : ∀ k, D ks k → k < a0.tmps.size) (hsc : sc < a0.tmps.size)
    (hl : ∀ u ∈ lt, u.oneCell' = true) (hs : ∀ u ∈ ls, u.oneCell' = true) (tC : w0.there C 0 lt.length) (tE : w0.there E 0 ls.length) (hW0 : WI false { w0 with drawn := w0.drawn + 1 }) (hWC : ∀ b w, WI b w → WI b (w.setCells C 0 lt)) (hWE : ∀ w, WI true w → WI true (w.setCells E 0 ls))
    (kinds : ∀ (i : Nat) (o : Oper), ops[i]? = some o →
      (∃ d v, pv ks vals i = some (d, v) ∧ o.dst = some d ∧ ∀ L a w, In ks vals kc sc vc WI a0 C iC lt E iE ls L a w → (∀ e ∈ o.after, Region.binds .any e = true → L e.on = true) → (execOp a.eval o).run P w = .ok (.value v) w) ∨
      (i = kc ∧ o.dst = some sc ∧ ∀ L a w (K : Act → World → Prop), In ks vals kc sc vc WI a0 C iC lt E iE ls L a w → L kc = false → (∀ e ∈ o.after, Region.binds .any e = true → L e.on = true) → (∀ w', WI true w' → w'.there C 0 lt.length → w'.there E 0 ls.length → (w.rangeAt C 0 lt → w'.rangeAt C 0 lt) → K (a.put (some sc) vc) w') → o.wp P a w K Q) ∨
      (i = iC ∧ o.dst = none ∧ ∃ ty x y, o.op = .store ty x y ∧ (P.info? ty).map (·.size) = some lt.length ∧ ∀ L a w, In ks vals kc sc vc WI a0 C iC lt E iE ls L a w → (∀ e ∈ o.after, Region.binds .any e = true → L e.on = true) → a.eval x = .pointer (some ⟨C, 0, none⟩) ∧ a.eval y = .agg lt.toArray) ∨
      (i = iE ∧ o.dst = none ∧ ∃ ty x y, o.op = .store ty x y ∧ (P.info? ty).map (·.size) = some ls.length ∧ ∀ L a w, In ks vals kc sc vc WI a0 C iC lt E iE ls L a w → (∀ e ∈ o.after, Region.binds .any e = true → L e.on = true) → a.eval x = .pointer (some ⟨E, 0, none⟩) ∧ a.eval y = .agg ls.toArray ∧ L kc = true))
    (fin : ∀ L a w, In ks vals kc sc vc WI a0 C iC lt E iE ls L a w → (∀ i, i < ops.size → L i = true) → Q .normal a w) :
    (Code.region id ops true).wp P Q a0 w0 := by
  simp only [Bool.and_eq_true, List.all_eq_true, bne_iff_ne, Bool.or_eq_true, beq_iff_eq] at hgood
  have pvm : ∀ {i d v}, pv ks vals i = some (d, v) → (i, d) ∈ ks := fun {i d v} h => by
    obtain ⟨d', h1, h2⟩ := Option.map_eq_some_iff.1 h
    cases h2; exact Reg.look_mem h1
  refine region_inv hm hg hback (fun L a w => In ks vals kc sc vc WI a0 C iC lt E iE ls L a w) ?step (fun L a w h hall => fin L a w h hall) ?start
  case start => exact ⟨rfl, rfl, fun _ _ _ => rfl, fun _ _ _ _ h => (by cases h), fun h => (by cases h), fun h => (by cases h), hW0, tC, tE, fun h => (by cases h), fun h => (by cases h)⟩
  case step =>
    rintro L a w i o h ho hL hd
    rcases kinds i o ho with ⟨d, v, hv, hdst, hrun⟩ | ⟨rfl, hdst, hcall⟩ | ⟨rfl, hdst, ty, x, y, hop, hsz, hev⟩ | ⟨rfl, hdst, ty, x, y, hop, hsz, hev⟩
    · refine wp_value (hrun L a w h hd) ?_
      rw [hdst]
      have hm' := pvm hv
      obtain ⟨hap, ⟨⟨hnK, hnC⟩, hnE⟩, hns⟩ := hgood _ hm'
      have hDd : D ks d := by simp only [D, List.any_eq_true, beq_iff_eq]; exact ⟨_, hm', rfl⟩
      have e : ∀ k : Nat, k ≠ d → (a.put (some d) v).eval (.tmp k) = a.eval (.tmp k) := fun k hk => put_other hk
      have uk : upd L i true kc = L kc := upd_other _ _ (Ne.symm hnK)
      have uc : upd L i true iC = L iC := upd_other _ _ (Ne.symm hnC)
      have uE : upd L i true iE = L iE := upd_other _ _ (Ne.symm hnE)
      refine ⟨by rw [put_size]; exact h.sz, by rw [put_defs]; exact h.df, fun k hk hk2 => ?_, fun j d' v' hj hLj => ?_, fun h1 => ?_, by rw [uk, uE]; exact h.dep, by rw [uk]; exact h.world, h.tC, h.tE, by rw [uc]; exact h.sC, by rw [uE]; exact h.sE⟩
      · rw [e k (fun he => hk (he ▸ hDd))]; exact h.fix k hk hk2
      · by_cases hij : j = i
        · subst hij
          rw [hv] at hj; cases hj
          exact put_eval (by rw [h.sz]; exact hD _ hDd)
        · rw [upd_other _ _ hij] at hLj
          have : d' ≠ d := by
            rcases hap _ (pvm hj) with e1 | e1
            · exact absurd e1.symm hij
            · exact Ne.symm e1
          rw [e d' this]
          exact h.pure j d' v' hj hLj
      · rw [uk] at h1
        rw [e sc (Ne.symm hns)]
        exact h.call h1
    · refine hcall L a w _ h hL hd (fun w' hW htC htE hr => ?_)
      have e : ∀ k : Nat, k ≠ sc → (a.put (some sc) vc).eval (.tmp k) = a.eval (.tmp k) := fun k hk => put_other hk
      have nE : L iE = false := by
        cases hE : L iE with
        | false => rfl
        | true => exact absurd (h.dep hE) (by rw [hL]; decide)
      refine ⟨by rw [put_size]; exact h.sz, by rw [put_defs]; exact h.df, fun k hk hk2 => by rw [e k hk2]; exact h.fix k hk hk2, fun j d' v' hj hLj => ?_, fun _ => put_eval (by rw [h.sz]; exact hsc), fun _ => upd_same _ _ _, by rw [upd_same]; exact hW, htC, htE, fun h1 => ?_, fun h1 => ?_⟩
      · obtain ⟨_, ⟨⟨hnK, hnC⟩, hnE⟩, hns⟩ := hgood _ (pvm hj)
        rw [upd_other _ _ hnK] at hLj
        rw [e d' hns]
        exact h.pure j d' v' hj hLj
      · rw [upd_other _ _ (Ne.symm hkc)] at h1
        exact hr (h.sC h1)
      · rw [upd_other _ _ (Ne.symm hki), nE] at h1
        cases h1
    · obtain ⟨px, py⟩ := hev L a w h hd
      refine wp_store_mid ty x y hop C 0 lt.toArray px py (by simpa using h.tC) (by simpa using hsz) (all_oneCell_toArray hl) ?_
      rw [hdst]
      have sm := World.rangeAt_setCells_same w C 0 lt h.tC
      have nk : ∀ {j d v}, pv ks vals j = some (d, v) → j ≠ i := fun {j d v} hj => (hgood _ (pvm hj)).2.1.1.2
      have uk : upd L i true kc = L kc := upd_other _ _ hkc
      have uE : upd L i true iE = L iE := upd_other _ _ (Ne.symm hi)
      exact ⟨h.sz, h.df, h.fix, fun j d' v' hj hLj => h.pure j d' v' hj (by rwa [upd_other _ _ (nk hj)] at hLj), by rw [uk]; exact h.call, by rw [uk, uE]; exact h.dep, by rw [uk]; exact hWC _ _ h.world, World.there_setCells h.tC _ _ _, World.there_setCells h.tE _ _ _, fun _ => sm, fun h1 => World.rangeAt_setCells_apart (h.sE (by rwa [uE] at h1)) _ _ _ (.inl (Ne.symm hCE))⟩
    · obtain ⟨px, py, hk⟩ := hev L a w h hd
      refine wp_store_mid ty x y hop E 0 ls.toArray px py (by simpa using h.tE) (by simpa using hsz) (all_oneCell_toArray hs) ?_
      rw [hdst]
      have sm := World.rangeAt_setCells_same w E 0 ls h.tE
      have nk : ∀ {j d v}, pv ks vals j = some (d, v) → j ≠ i := fun {j d v} hj => (hgood _ (pvm hj)).2.1.2
      have uc : upd L i true kc = L kc := upd_other _ _ hki
      have hw := h.world
      rw [hk] at hw
      exact ⟨h.sz, h.df, h.fix, fun j d' v' hj hLj => h.pure j d' v' hj (by rwa [upd_other _ _ (nk hj)] at hLj), fun _ => h.call hk, fun _ => by rw [uc]; exact hk, by rw [uc, hk]; exact hWE _ hw, World.there_setCells h.tC _ _ _, World.there_setCells h.tE _ _ _, fun h1 => World.rangeAt_setCells_apart (h.sC (by rwa [upd_other _ _ hi] at h1)) _ _ _ (.inl hCE), fun _ => sm⟩
end RetM
end Go.Proofs.Ytgfbohmehhhbeaa
