/-
  Lemmas: RRetC, RG, RGR, LayM, LayP, RAInv.
-/
import Derived.Test.YtchhkoalibapiaaTp19
import Derived.Test.YtchhkoalibapiaaTp05
import Derived.Test.YtchhkoalibapiaaTp07
import Derived.Test.YtchhkoalibapiaaTp18
import Derived.Deep.CutRange
/-
  A region that draws its order: it reads by a table, makes one call and writes one variable made ahead of it with what the call told.
-/
namespace Go.Proofs.Ytchhkoalibapiaa
open Go.RowKit
set_option linter.unusedVariables false
set_option linter.unusedSimpArgs false
set_option linter.unnecessarySimpa false

namespace RetC
open RetN (pv D)

structure In (ks : List (Nat × Nat)) (vals : Nat → Value) (kc sc : Nat) (vc : Value) (WI : Bool → World → Prop) (a0 : Act) (E iE : Nat) (ls : List Value) (L : Nat → Bool) (a : Act) (w : World) : Prop where
  sz : a.tmps.size = a0.tmps.size
  df : a.defers = a0.defers
  fix : ∀ k, ¬ D ks k → k ≠ sc → a.eval (.tmp k) = a0.eval (.tmp k)
  pure : ∀ i d v, pv ks vals i = some (d, v) → L i = true → a.eval (.tmp d) = v
  call : L kc = true → a.eval (.tmp sc) = vc
  dep : L iE = true → L kc = true
  world : WI (L kc) w
  tE : w.there E 0 ls.length
  sE : L iE = true → w.rangeAt E 0 ls

theorem region {P : Program} {id : Nat} {ops : Array Oper} {Q : Exit → Act → World → Prop} {ks : List (Nat × Nat)} {vals : Nat → Value} {w0 : World} {a0 : Act} {kc sc : Nat} {vc : Value} {WI : Bool → World → Prop} {E iE : Nat} {ls : List Value}
    (hm : P.follows .mixedOrders = true) (hg : ∀ (i : Nat) (o : Oper), ops[i]? = some o → o.guard = none) (hback : ∀ (i : Nat) (o : Oper), ops[i]? = some o → ∀ e ∈ o.after, Region.binds .any e = true → e.on < i)
    (hgood : (ks.all fun p => (ks.all fun q => p.1 == q.1 || p.2 != q.2) && (p.1 != kc && p.1 != iE && p.2 != sc)) = true) (hki : kc ≠ iE) (hD : ∀ k, D ks k → k < a0.tmps.size) (hsc : sc < a0.tmps.size)
    (hs : ∀ u ∈ ls, u.oneCell' = true) (tE : w0.there E 0 ls.length) (hW0 : WI false { w0 with drawn := w0.drawn + 1 }) (hWE : ∀ w, WI true w → WI true (w.setCells E 0 ls))
    (kinds : ∀ (i : Nat) (o : Oper), ops[i]? = some o →
      (∃ d v, pv ks vals i = some (d, v) ∧ o.dst = some d ∧ ∀ L a w, In ks vals kc sc vc WI a0 E iE ls L a w → (∀ e ∈ o.after, Region.binds .any e = true → L e.on = true) → (execOp a.eval o).run P w = .ok (.value v) w) ∨
      (i = kc ∧ o.dst = some sc ∧ ∀ L a w (K : Act → World → Prop), In ks vals kc sc vc WI a0 E iE ls L a w → L kc = false → (∀ e ∈ o.after, Region.binds .any e = true → L e.on = true) → (∀ w', WI true w' → w'.there E 0 ls.length → K (a.put (some sc) vc) w') → o.wp P a w K Q) ∨
      (i = iE ∧ o.dst = none ∧ ∃ ty x y, o.op = .store ty x y ∧ (P.info? ty).map (·.size) = some ls.length ∧ ∀ L a w, In ks vals kc sc vc WI a0 E iE ls L a w → (∀ e ∈ o.after, Region.binds .any e = true → L e.on = true) → a.eval x = .pointer (some ⟨E, 0, none⟩) ∧ a.eval y = .agg ls.toArray ∧ L kc = true))
    (fin : ∀ L a w, In ks vals kc sc vc WI a0 E iE ls L a w → (∀ i, i < ops.size → L i = true) → Q .normal a w) :
    (Code.region id ops true).wp P Q a0 w0 := by
  simp only [Bool.and_eq_true, List.all_eq_true, bne_iff_ne, Bool.or_eq_true, beq_iff_eq] at hgood
  have pvm : ∀ {i d v}, pv ks vals i = some (d, v) → (i, d) ∈ ks := fun {i d v} h => by
    obtain ⟨d', h1, h2⟩ := Option.map_eq_some_iff.1 h
    cases h2; exact Reg.look_mem h1
  refine region_inv hm hg hback (fun L a w => In ks vals kc sc vc WI a0 E iE ls L a w) ?step (fun L a w h hall => fin L a w h hall) ?start
  case start => exact ⟨rfl, rfl, fun _ _ _ => rfl, fun _ _ _ _ h => (by cases h), fun h => (by cases h), fun h => (by cases h), hW0, tE, fun h => (by cases h)⟩
  case step =>
    rintro L a w i o h ho hL hd
    rcases kinds i o ho with ⟨d, v, hv, hdst, hrun⟩ | ⟨rfl, hdst, hcall⟩ | ⟨rfl, hdst, ty, x, y, hop, hsz, hev⟩
    · refine wp_value (hrun L a w h hd) ?_
      rw [hdst]
      have hm' := pvm hv
      obtain ⟨hap, ⟨hnC, hnE⟩, hns⟩ := hgood _ hm'
      have hDd : D ks d := by simp only [D, List.any_eq_true, beq_iff_eq]; exact ⟨_, hm', rfl⟩
      have e : ∀ k : Nat, k ≠ d → (a.put (some d) v).eval (.tmp k) = a.eval (.tmp k) := fun k hk => put_other hk
      have uc : upd L i true kc = L kc := upd_other _ _ (Ne.symm hnC)
      have uE : upd L i true iE = L iE := upd_other _ _ (Ne.symm hnE)
      refine ⟨by rw [put_size]; exact h.sz, by rw [put_defs]; exact h.df, fun k hk hk2 => ?_, fun j d' v' hj hLj => ?_, fun h1 => ?_, by rw [uc, uE]; exact h.dep, by rw [uc]; exact h.world, h.tE, by rw [uE]; exact h.sE⟩
      · rw [e k (fun he => hk (he ▸ hDd))]; exact h.fix k hk hk2
      · by_cases hij : j = i
        · subst hij
          rw [hv] at hj; cases hj
          exact put_eval (by rw [h.sz]; exact hD _ hDd)
        · rw [upd_other _ _ hij] at hLj
          have : d' ≠ d := by
            rcases hap _ (pvm hj) with e1 | e1
            · exact absurd e1.symm hij
            · exact Ne.symm e1
          rw [e d' this]
          exact h.pure j d' v' hj hLj
      · rw [uc] at h1
        rw [e sc (Ne.symm hns)]
        exact h.call h1
    · refine hcall L a w _ h hL hd (fun w' hW ht => ?_)
      have e : ∀ k : Nat, k ≠ sc → (a.put (some sc) vc).eval (.tmp k) = a.eval (.tmp k) := fun k hk => put_other hk
      have nE : L iE = false := by
        cases hE : L iE with
        | false => rfl
        | true => exact absurd (h.dep hE) (by rw [hL]; decide)
      refine ⟨by rw [put_size]; exact h.sz, by rw [put_defs]; exact h.df, fun k hk hk2 => by rw [e k hk2]; exact h.fix k hk hk2, fun j d' v' hj hLj => ?_, fun _ => put_eval (by rw [h.sz]; exact hsc), fun _ => upd_same _ _ _, by rw [upd_same]; exact hW, ht, fun h1 => ?_⟩
      · obtain ⟨_, ⟨hnC, hnE⟩, hns⟩ := hgood _ (pvm hj)
        rw [upd_other _ _ hnC] at hLj
        rw [e d' hns]
        exact h.pure j d' v' hj hLj
      · rw [upd_other _ _ (Ne.symm hki), nE] at h1
        cases h1
    · obtain ⟨px, py, hk⟩ := hev L a w h hd
      refine wp_store_mid ty x y hop E 0 ls.toArray px py (by simpa using h.tE) (by simpa using hsz) (all_oneCell_toArray hs) ?_
      rw [hdst]
      have sm := World.rangeAt_setCells_same w E 0 ls h.tE
      have nk : ∀ {j d v}, pv ks vals j = some (d, v) → j ≠ i := fun {j d v} hj => (hgood _ (pvm hj)).2.1.2
      have uc : upd L i true kc = L kc := upd_other _ _ hki
      have hw := h.world
      rw [hk] at hw
      exact ⟨h.sz, h.df, h.fix, fun j d' v' hj hLj => h.pure j d' v' hj (by rwa [upd_other _ _ (nk hj)] at hLj), fun _ => h.call hk, fun _ => by rw [uc]; exact hk, by rw [uc, hk]; exact hWE _ hw, World.there_setCells h.tE _ _ _, fun _ => sm⟩
end RetC

theorem call6 {ev : Operand → Value} {o : Oper} {w : World} {f : FuncId} {x0 x1 x2 x3 x4 x5 : Operand} {ts : Array TypeId} {v0 v1 v2 v3 v4 v5 : Value} (ho : o.op = Op.call { callee := Callee.value (Operand.func f), args := #[x0, x1, x2, x3, x4, x5], argTypes := ts }) (h0 : ev x0 = v0) (h1 : ev x1 = v1) (h2 : ev x2 = v2) (h3 : ev x3 = v3) (h4 : ev x4 = v4) (h5 : ev x5 = v5) (hf : ev (Operand.func f) = .func (.func f) #[] #[]) (hcf : (callFunc f #[v0, v1, v2, v3, v4, v5]).run Try.prog w = .ok (.enter f #[v0, v1, v2, v3, v4, v5]) w) :
    (execOp ev o).run Try.prog w = .ok (.enter f #[v0, v1, v2, v3, v4, v5]) w := by
  simp [execOp, ho, h0, h1, h2, h3, h4, h5, hf, resolve, invoke, go_sem, hcf]
theorem callDo (args : Array Value) (w : World) : (callFunc 85 args).run Try.prog w = .ok (.enter 85 args) w := by simp [go_sem]
theorem ex_nil {ev : Operand → Value} {o : Oper} {w : World} {x : Operand} {a : Addr} (ho : o.op = .nilCheck x) (hx : ev x = .pointer (some a)) : (execOp ev o).run Try.prog w = .ok (.value (.pointer (some a))) w := by
  simp [execOp, ho, hx, go_sem]
end Go.Proofs.Ytchhkoalibapiaa

/-
  A region that draws its order, by a table of what each operation tells: reads, calls and stores of any number, and one slot whose value is told by the invariant. The worlds between are said by an invariant over what has been done.
-/
namespace Go.Proofs.Ytchhkoalibapiaa
open Go.RowKit
set_option linter.unusedVariables false
set_option linter.unusedSimpArgs false

namespace RG
open RetN (pv D)

structure In (ks : List (Nat × Nat)) (vals : Nat → Value) (x : Nat) (WI : (Nat → Bool) → Value → World → Prop) (a0 : Act) (L : Nat → Bool) (a : Act) (w : World) : Prop where
  sz : a.tmps.size = a0.tmps.size
  df : a.defers = a0.defers
  fix : ∀ k, ¬ D ks k → k ≠ x → a.eval (.tmp k) = a0.eval (.tmp k)
  pure : ∀ i d v, pv ks vals i = some (d, v) → L i = true → a.eval (.tmp d) = v
  world : WI L (a.eval (.tmp x)) w

/-- What operation i does. -/
inductive Does (P : Program) (Q : Exit → Act → World → Prop) (ks : List (Nat × Nat)) (vals : Nat → Value) (x : Nat) (WI : (Nat → Bool) → Value → World → Prop) (a0 : Act) (i : Nat) (o : Oper) : Prop where
  | mk (dst : o.dst = Reg.look ks i) (wp : ∀ L a w (K : Act → World → Prop), In ks vals x WI a0 L a w → L i = false → (∀ e ∈ o.after, Region.binds .any e = true → L e.on = true) → (∀ w' v, (∀ d, o.dst = some d → v = vals i) → WI (upd L i true) (a.eval (.tmp x)) w' → K (a.put o.dst v) w') → o.wp P a w K Q)
  | own (dst : o.dst = some x) (no : Reg.look ks i = none) (wp : ∀ L a w (K : Act → World → Prop), In ks vals x WI a0 L a w → L i = false → (∀ e ∈ o.after, Region.binds .any e = true → L e.on = true) → (∀ w' v, WI (upd L i true) v w' → K (a.put (some x) v) w') → o.wp P a w K Q)

theorem region {P : Program} {id : Nat} {ops : Array Oper} {Q : Exit → Act → World → Prop} {ks : List (Nat × Nat)} {vals : Nat → Value} {x : Nat} {WI : (Nat → Bool) → Value → World → Prop} {w0 : World} {a0 : Act}
    (hm : P.follows .mixedOrders = true) (hg : ∀ (i : Nat) (o : Oper), ops[i]? = some o → o.guard = none) (hback : ∀ (i : Nat) (o : Oper), ops[i]? = some o → ∀ e ∈ o.after, Region.binds .any e = true → e.on < i)
    (hgood : (ks.all fun p => (ks.all fun q => p.1 == q.1 || p.2 != q.2) && p.2 != x) = true) (hD : ∀ k, D ks k → k < a0.tmps.size) (hx : x < a0.tmps.size) (hW0 : WI (fun _ => false) (a0.eval (.tmp x)) { w0 with drawn := w0.drawn + 1 })
    (does : ∀ (i : Nat) (o : Oper), ops[i]? = some o → Does P Q ks vals x WI a0 i o)
    (fin : ∀ L a w, In ks vals x WI a0 L a w → (∀ i, i < ops.size → L i = true) → Q .normal a w) :
    (Code.region id ops true).wp P Q a0 w0 := by
  simp only [List.all_eq_true, bne_iff_ne, Bool.or_eq_true, beq_iff_eq, Bool.and_eq_true] at hgood
  have pvm : ∀ {i d v}, pv ks vals i = some (d, v) → (i, d) ∈ ks := fun {i d v} h => by
    obtain ⟨d', h1, h2⟩ := Option.map_eq_some_iff.1 h
    cases h2; exact Reg.look_mem h1
  refine region_inv hm hg hback (fun L a w => In ks vals x WI a0 L a w) ?step (fun L a w h hall => fin L a w h hall) ?start
  case start => exact ⟨rfl, rfl, fun _ _ _ => rfl, fun _ _ _ _ h => (by cases h), hW0⟩
  case step =>
    rintro L a w i o h ho hL hd
    have none_ok : ∀ {j d' v'}, Reg.look ks i = none → pv ks vals j = some (d', v') → upd L i true j = true → L j = true := fun {j d' v'} hlk hj hLj => by
      have hji : j ≠ i := fun e => by
        subst e
        obtain ⟨d'', h1, _⟩ := Option.map_eq_some_iff.1 hj
        rw [hlk] at h1; cases h1
      rwa [upd_other _ _ hji] at hLj
    rcases does i o ho with ⟨hdst, hwp⟩ | ⟨hdst, hno, hwp⟩
    · refine hwp L a w _ h hL hd (fun w' v hv hW => ?_)
      cases hlk : Reg.look ks i with
      | none =>
        rw [hdst, hlk]
        exact ⟨h.sz, h.df, h.fix, fun j d' v' hj hLj => h.pure j d' v' hj (none_ok hlk hj hLj), hW⟩
      | some d =>
        have hv' := hv d (hdst.trans hlk)
        subst hv'
        rw [hdst, hlk]
        have hm' : (i, d) ∈ ks := Reg.look_mem hlk
        have hDd : D ks d := by simp only [D, List.any_eq_true, beq_iff_eq]; exact ⟨_, hm', rfl⟩
        have e : ∀ k : Nat, k ≠ d → (a.put (some d) (vals i)).eval (.tmp k) = a.eval (.tmp k) := fun k hk => put_other hk
        refine ⟨by rw [put_size]; exact h.sz, by rw [put_defs]; exact h.df, fun k hk hkx => ?_, fun j d' v' hj hLj => ?_, by rw [e x (Ne.symm (hgood _ hm').2)]; exact hW⟩
        · rw [e k (fun he => hk (he ▸ hDd))]; exact h.fix k hk hkx
        · by_cases hij : j = i
          · subst hij
            rw [pv, hlk] at hj
            cases hj
            exact put_eval (by rw [h.sz]; exact hD _ hDd)
          · rw [upd_other _ _ hij] at hLj
            have : d' ≠ d := by
              rcases (hgood _ hm').1 _ (pvm hj) with e1 | e1
              · exact absurd e1.symm hij
              · exact Ne.symm e1
            rw [e d' this]
            exact h.pure j d' v' hj hLj
    · refine hwp L a w _ h hL hd (fun w' v hW => ?_)
      have e : ∀ k : Nat, k ≠ x → (a.put (some x) v).eval (.tmp k) = a.eval (.tmp k) := fun k hk => put_other hk
      refine ⟨by rw [put_size]; exact h.sz, by rw [put_defs]; exact h.df, fun k hk hkx => by rw [e k hkx]; exact h.fix k hk hkx, fun j d' v' hj hLj => ?_, by rw [put_eval (by rw [h.sz]; exact hx)]; exact hW⟩
      rw [e d' (hgood _ (pvm hj)).2]
      exact h.pure j d' v' hj (none_ok hno hj hLj)

section
variable {P : Program} {Q : Exit → Act → World → Prop} {ks : List (Nat × Nat)} {vals : Nat → Value} {x : Nat} {WI : (Nat → Bool) → Value → World → Prop} {a0 : Act} {i : Nat} {o : Oper}

/-- It only reads. -/
theorem Does.read (hd : o.dst = Reg.look ks i) (hW : ∀ L v w, WI L v w → WI (upd L i true) v w) (h : ∀ L a w, In ks vals x WI a0 L a w → (∀ e ∈ o.after, Region.binds .any e = true → L e.on = true) → (execOp a.eval o).run P w = .ok (.value (vals i)) w) : Does P Q ks vals x WI a0 i o :=
  .mk hd fun L a w K hI _ hdep hk => wp_value (h L a w hI hdep) (hk w _ (fun _ _ => rfl) (hW L _ w hI.world))

/-- A call that leaves the world as it is. -/
theorem Does.ask {f : FuncId} {args : Array Value} (hd : o.dst = Reg.look ks i) (hW : ∀ L v w, WI L v w → WI (upd L i true) v w) (h : ∀ L a w, In ks vals x WI a0 L a w → (∀ e ∈ o.after, Region.binds .any e = true → L e.on = true) → (execOp a.eval o).run P w = .ok (.enter f args) w)
    (hc : ∀ w, Calls P f args w fun e w' => e = .returned (vals i) ∧ w' = w) : Does P Q ks vals x WI a0 i o :=
  .mk hd fun L a w K hI _ hdep hk => wp_call (h L a w hI hdep) ((hc w).mono (by rintro e w' ⟨rfl, rfl⟩; exact ⟨_, rfl, hk _ _ (fun _ _ => rfl) (hW L _ _ hI.world)⟩))

/-- A call that turns the world. -/
theorem Does.call {f : FuncId} {args : Array Value} (hd : o.dst = Reg.look ks i) (h : ∀ L a w, In ks vals x WI a0 L a w → (∀ e ∈ o.after, Region.binds .any e = true → L e.on = true) → (execOp a.eval o).run P w = .ok (.enter f args) w)
    (hc : ∀ L v w, WI L v w → L i = false → Calls P f args w fun e w' => e = .returned (vals i) ∧ WI (upd L i true) v w') : Does P Q ks vals x WI a0 i o :=
  .mk hd fun L a w K hI hL hdep hk => wp_call (h L a w hI hdep) ((hc L _ w hI.world hL).mono (by rintro e w' ⟨rfl, hw⟩; exact ⟨_, rfl, hk _ _ (fun _ _ => rfl) hw⟩))

/-- The slot of the invariant's is told. -/
theorem Does.make {u : World → Value} {g : World → World} (hd : o.dst = some x) (hn : Reg.look ks i = none) (h : ∀ (ev : Operand → Value) w, (execOp ev o).run P w = .ok (.value (u w)) (g w))
    (hw : ∀ L v w, WI L v w → L i = false → WI (upd L i true) (u w) (g w)) : Does P Q ks vals x WI a0 i o :=
  .own hd hn fun L a w K hI hL hdep hk => wp_value (h a.eval w) (by rw [hd]; exact hk _ _ (hw L _ w hI.world hL))

/-- A store of a row. -/
theorem Does.put {ty : TypeId} {y z : Operand} {ls : List Value} (hd : o.dst = none) (hn : Reg.look ks i = none) (hop : o.op = .store ty y z) (hsz : (P.info? ty).map (·.size) = some ls.length) (h1 : ∀ u ∈ ls, u.oneCell' = true)
    (h : ∀ L a w, In ks vals x WI a0 L a w → L i = false → (∀ e ∈ o.after, Region.binds .any e = true → L e.on = true) → a.eval z = .agg ls.toArray ∧ ∃ b off, a.eval y = .pointer (some ⟨b, off, none⟩) ∧ w.there b off ls.length ∧ WI (upd L i true) (a.eval (.tmp x)) (w.setCells b off ls)) : Does P Q ks vals x WI a0 i o :=
  .mk (hd.trans hn.symm) fun L a w K hI hL hdep hk => by
    obtain ⟨py, b, off, px, ht, hW⟩ := h L a w hI hL hdep
    refine wp_store_mid ty y z hop b off ls.toArray px py (by simpa using ht) (by simpa using hsz) (all_oneCell_toArray h1) ?_
    exact hk _ _ (fun d hd' => by rw [hd] at hd'; cases hd') hW

/-- A store of one cell. -/
theorem Does.put1 {p : Addr} {v : Value} (hd : o.dst = none) (hn : Reg.look ks i = none)
    (h : ∀ L a w (K : Act → World → Prop), In ks vals x WI a0 L a w → L i = false → (∀ e ∈ o.after, Region.binds .any e = true → L e.on = true) → K (a.put o.dst undef) (w.setCell p v) → o.wp P a w K Q)
    (hw : ∀ L u w, WI L u w → L i = false → (∀ e ∈ o.after, Region.binds .any e = true → L e.on = true) → WI (upd L i true) u (w.setCell p v)) : Does P Q ks vals x WI a0 i o :=
  .mk (hd.trans hn.symm) fun L a w K hI hL hdep hk => h L a w K hI hL hdep (hk _ _ (fun d hd' => by rw [hd] at hd'; cases hd') (hw L _ w hI.world hL hdep))
end

theorem wp_store_i {a : Act} {o : Oper} {w : World} {K : Act → World → Prop} {Q : Exit → Act → World → Prop} {x y : Operand} {g q : Nat} {v : Int} {u : Value} (ho : o.op = .store 3 x y) (hx : a.eval x = .pointer (some ⟨g, q, none⟩)) (hy : a.eval y = .int .i64 v) (hc : w.cell? ⟨g, q, none⟩ = some u) (hf : w.frozen? ⟨g, q, none⟩ = false)
    (h : K (a.put o.dst undef) (w.setCell ⟨g, q, none⟩ (.int .i64 v))) : o.wp Try.prog a w K Q := by
  simp only [Oper.wp, execOp, ho, hx, hy]
  simp [go_sem, hc, hf, Oper.upon]
  exact h
theorem wp_store_u {a : Act} {o : Oper} {w : World} {K : Act → World → Prop} {Q : Exit → Act → World → Prop} {x y : Operand} {g q : Nat} {v : Int} {u : Value} (ho : o.op = .store 55 x y) (hx : a.eval x = .pointer (some ⟨g, q, none⟩)) (hy : a.eval y = .int .u64 v) (hc : w.cell? ⟨g, q, none⟩ = some u) (hf : w.frozen? ⟨g, q, none⟩ = false)
    (h : K (a.put o.dst undef) (w.setCell ⟨g, q, none⟩ (.int .u64 v))) : o.wp Try.prog a w K Q := by
  simp only [Oper.wp, execOp, ho, hx, hy]
  simp [go_sem, hc, hf, Oper.upon]
  exact h

/-! ### A step's act: 's := m.Do(..)' -/

/-- The worlds of such a region: c: the act is done; al: the variable is made; st: it is written. -/
structure SW (b T nc : Nat) (C : Nat → Value) (bm bw n : Nat) (f f' : Nat → Int) (X : Stp) (r : Nat) (w0 : World) (c al st : Bool) (v : Value) (w : World) : Prop where
  row : w.rowIs b T nc C
  mem : IsMem w bm bw n (if c = true then f' else f)
  res : w.rowIs r 57 6 zcell
  tch : Touch w0 w (fun k => k = bw)
  lts : b < w0.heap.size ∧ bm < w0.heap.size ∧ bw < w0.heap.size ∧ r < w0.heap.size
  own : al = true → ∃ q, v = .pointer (some ⟨q, 0, none⟩) ∧ w0.heap.size ≤ q ∧ q < w.heap.size ∧ (st = false → w.rowIs q 57 6 zcell) ∧ (st = true → w.rangeAt q 0 X.cells)
  dep : st = true → c = true ∧ al = true

section
variable {b T nc : Nat} {C : Nat → Value} {bm bw n : Nat} {f f' : Nat → Int} {X : Stp} {r : Nat} {w0 w w' : World} {c al st : Bool} {v : Value}

theorem SW.start (h : w0.rowIs b T nc C) (hm : IsMem w0 bm bw n f) (hr : w0.rowIs r 57 6 zcell) : SW b T nc C bm bw n f f' X r w0 false false false v { w0 with drawn := w0.drawn + 1 } :=
  ⟨h.drew, hm.drew, hr.drew, (Touch.refl w0 _).drew, ⟨h.lt, hm.head.lt, hm.row.lt, hr.lt⟩, fun h => (by cases h), fun h => (by cases h)⟩

theorem SW.make (h : SW b T nc C bm bw n f f' X r w0 c al st v w) (hal : al = false) :
    SW b T nc C bm bw n f f' X r w0 c true st (.pointer (some ⟨w.heap.size, 0, none⟩)) (w.alloc (.cells [Value.int .i64 0, .int .i64 0, .int .i64 0, .int .u64 0, .int .u64 0, .bool false].toArray 57)) := by
  have hst : st = false := by
    cases hs : st with
    | false => rfl
    | true => have := (h.dep hs).2; rw [hal] at this; cases this
  subst hst
  exact ⟨h.row.alloc _, h.mem.alloc _, h.res.alloc _, h.tch.alloc _, h.lts, fun _ => ⟨_, rfl, h.tch.size, by simp, fun _ => row0 w, fun h => (by cases h)⟩, fun h => (by cases h)⟩

theorem SW.act (h : SW b T nc C bm bw n f f' X r w0 c al st v w) (hc : c = false) (hb : b ≠ bw) (hr : r ≠ bw) (hm : IsMem w' bm bw n f') (hg : w.grownBy w' (some bw)) :
    SW b T nc C bm bw n f f' X r w0 true al st v w' := by
  have hst : st = false := by
    cases hs : st with
    | false => rfl
    | true => have := (h.dep hs).1; rw [hc] at this; cases this
  subst hst
  refine ⟨h.row.of_block (hg.block b h.row.lt (by simpa using hb)), by simpa using hm, h.res.of_block (hg.block r h.res.lt (by simpa using hr)), h.tch.trans' (Touch.of_grown hg) (fun k _ e => by simpa using e), h.lts, fun ha => ?_, fun h => (by cases h)⟩
  obtain ⟨q, e, hq, hq2, hrow, _⟩ := h.own ha
  have hl := h.lts
  exact ⟨q, e, hq, Nat.lt_of_lt_of_le hq2 hg.size, fun _ => (hrow rfl).of_block (hg.block q hq2 (by simp; omega)), fun h => (by cases h)⟩

theorem SW.put (h : SW b T nc C bm bw n f f' X r w0 c al st v w) (hc : c = true) (ha : al = true) (hst : st = false) :
    ∃ q, v = .pointer (some ⟨q, 0, none⟩) ∧ w.there q 0 X.cells.length ∧ SW b T nc C bm bw n f f' X r w0 c al true v (w.setCells q 0 X.cells) := by
  obtain ⟨q, e, hq, hq2, hrow, _⟩ := h.own ha
  have hl := h.lts
  have ht : w.there q 0 X.cells.length := rowIs.there (hrow hst) (by simp [Stp.cells])
  have tt := touch_setCells q X.cells 0 w
  refine ⟨q, e, ht, h.row.of_block (tt.block _ h.row.lt (by omega)), ⟨h.mem.head.of_block (tt.block _ h.mem.head.lt (by omega)), h.mem.row.of_block (tt.block _ h.mem.row.lt (by omega)), h.mem.most, h.mem.word⟩, h.res.of_block (tt.block _ h.res.lt (by omega)), h.tch.trans' tt (fun k hk h => by omega), h.lts, fun _ => ⟨q, e, hq, Nat.lt_of_lt_of_le hq2 tt.size, fun h => (by cases h), fun _ => World.rangeAt_setCells_same w q 0 X.cells ht⟩, fun _ => ⟨hc, ha⟩⟩

theorem SW.skip {L : Nat → Bool} {i kc ia is : Nat} (h1 : kc ≠ i) (h2 : ia ≠ i) (h3 : is ≠ i) (h : SW b T nc C bm bw n f f' X r w0 (L kc) (L ia) (L is) v w) : SW b T nc C bm bw n f f' X r w0 (upd L i true kc) (upd L i true ia) (upd L i true is) v w := by
  rwa [upd_other _ _ h1, upd_other _ _ h2, upd_other _ _ h3]
theorem SW.skip2 {L : Nat → Bool} {i kc : Nat} (h1 : kc ≠ i) (h : SW b T nc C bm bw n f f' X r w0 (L kc) al st v w) : SW b T nc C bm bw n f f' X r w0 (upd L i true kc) al st v w := by
  rwa [upd_other _ _ h1]

theorem SW.calls {hand act at_ had put : Int} {ok : Bool} {kc ia is : Nat} (hx : stepOf n f ⟨hand, act, at_, had, put, ok⟩ = X) (hf : wordsOf n f ⟨hand, act, at_, had, put, ok⟩ = f') (hw : 0 ≤ put ∧ put ≤ 18446744073709551615) (hb : b ≠ bw) (hr : r ≠ bw) (n1 : ia ≠ kc) (n2 : is ≠ kc) :
    ∀ (L : Nat → Bool) v w, SW b T nc C bm bw n f f' X r w0 (L kc) (L ia) (L is) v w → L kc = false →
      Calls Try.prog 85 #[.pointer (some ⟨bm, 0, none⟩), .int .i64 hand, .int .i64 act, .int .i64 at_, .int .u64 had, .int .u64 put] w fun e w' => e = .returned X.val ∧ SW b T nc C bm bw n f f' X r w0 (upd L kc true kc) (upd L kc true ia) (upd L kc true is) v w' := by
  intro L v w h hL
  have hm := h.mem
  rw [hL, if_neg (by decide)] at hm
  refine (do_mem hm ⟨hand, act, at_, had, put, ok⟩ hw).mono ?_
  rintro e w' ⟨rfl, hm', hg⟩
  rw [hx, upd_same, upd_other _ _ n1, upd_other _ _ n2]
  rw [hf] at hm'
  exact ⟨rfl, h.act hL hb hr hm' hg⟩
end
end RG
theorem ex_convu {ev : Operand → Value} {o : Oper} {w : World} {x : Operand} {v : Int} (ho : o.op = .convert 3 55 x) (hx : ev x = .int .i64 v) (h0 : 0 ≤ v) (h1 : v ≤ 18446744073709551615) : (execOp ev o).run Try.prog w = .ok (.value (.int .u64 v)) w := by
  have : IntKind.u64.wrap v = v := by rw [IntKind.wrap_u64]; omega
  simp [execOp, ho, hx, go_sem, this]
theorem call1 {ev : Operand → Value} {o : Oper} {w : World} {f : FuncId} {x0 : Operand} {ts : Array TypeId} {v0 : Value} (ho : o.op = Op.call { callee := Callee.value (Operand.func f), args := #[x0], argTypes := ts }) (h0 : ev x0 = v0) (hf : ev (Operand.func f) = .func (.func f) #[] #[]) (hcf : (callFunc f #[v0]).run Try.prog w = .ok (.enter f #[v0]) w) :
    (execOp ev o).run Try.prog w = .ok (.enter f #[v0]) w := by
  simp [execOp, ho, h0, hf, resolve, invoke, go_sem, hcf]
end Go.Proofs.Ytchhkoalibapiaa

/-
  A region that draws its order: an act on the memory, told straight into a variable made ahead of it.
-/
namespace Go.Proofs.Ytchhkoalibapiaa
open Go.RowKit
set_option linter.unusedVariables false
set_option linter.unusedSimpArgs false
namespace RG

/-- c: the act is done; st: it is told. -/
structure SR (b T nc : Nat) (C : Nat → Value) (bm bw n : Nat) (f f' : Nat → Int) (X : Stp) (r : Nat) (w0 : World) (c st : Bool) (w : World) : Prop where
  row : w.rowIs b T nc C
  mem : IsMem w bm bw n (if c = true then f' else f)
  tch : Touch w0 w (fun k => k = bw ∨ k = r)
  lts : b < w0.heap.size ∧ bm < w0.heap.size ∧ bw < w0.heap.size ∧ r < w0.heap.size
  thr : w.there r 0 X.cells.length
  sto : st = true → w.rangeAt r 0 X.cells
  dep : st = true → c = true

section
variable {b T nc : Nat} {C : Nat → Value} {bm bw n : Nat} {f f' : Nat → Int} {X : Stp} {r : Nat} {w0 w w' : World} {c st : Bool}

theorem SR.start (h : w0.rowIs b T nc C) (hm : IsMem w0 bm bw n f) (hr : w0.rowIs r 57 6 zcell) : SR b T nc C bm bw n f f' X r w0 false false { w0 with drawn := w0.drawn + 1 } :=
  ⟨h.drew, hm.drew, (Touch.refl w0 _).drew, ⟨h.lt, hm.head.lt, hm.row.lt, hr.lt⟩, rowIs.there (hr.drew) (by simp [Stp.cells]), fun h => (by cases h), fun h => (by cases h)⟩

theorem SR.act (h : SR b T nc C bm bw n f f' X r w0 c st w) (hc : c = false) (hb : b ≠ bw) (hr : r ≠ bw) (hm : IsMem w' bm bw n f') (hg : w.grownBy w' (some bw)) : SR b T nc C bm bw n f f' X r w0 true st w' := by
  have hst : st = false := by
    cases hs : st with
    | false => rfl
    | true => have := h.dep hs; rw [hc] at this; cases this
  subst hst
  have hl := h.lts
  have hs := h.tch.size
  exact ⟨h.row.of_block (hg.block b h.row.lt (by simpa using hb)), by simpa using hm, h.tch.trans' (Touch.of_grown hg) (fun k _ e => .inl (by simpa using e)), h.lts, there_block h.thr (hg.block r (by omega) (by simpa using hr)), fun h => (by cases h), fun h => (by cases h)⟩

theorem SR.put (h : SR b T nc C bm bw n f f' X r w0 c st w) (hc : c = true) (hb : b ≠ r) (hm : bm ≠ r) (hw : bw ≠ r) : w.there r 0 X.cells.length ∧ SR b T nc C bm bw n f f' X r w0 c true (w.setCells r 0 X.cells) := by
  have tt := touch_setCells r X.cells 0 w
  exact ⟨h.thr, h.row.of_block (tt.block _ h.row.lt hb), ⟨h.mem.head.of_block (tt.block _ h.mem.head.lt hm), h.mem.row.of_block (tt.block _ h.mem.row.lt hw), h.mem.most, h.mem.word⟩, h.tch.trans' tt (fun k hk h => .inr h), h.lts, World.there_setCells h.thr _ _ _, fun _ => World.rangeAt_setCells_same w r 0 X.cells h.thr, fun _ => hc⟩

theorem SR.skip {L : Nat → Bool} {i kc is : Nat} (h1 : kc ≠ i) (h3 : is ≠ i) (h : SR b T nc C bm bw n f f' X r w0 (L kc) (L is) w) : SR b T nc C bm bw n f f' X r w0 (upd L i true kc) (upd L i true is) w := by
  rwa [upd_other _ _ h1, upd_other _ _ h3]

theorem SR.calls {hand act at_ had put : Int} {ok : Bool} {kc is : Nat} (hx : stepOf n f ⟨hand, act, at_, had, put, ok⟩ = X) (hf : wordsOf n f ⟨hand, act, at_, had, put, ok⟩ = f') (hw : 0 ≤ put ∧ put ≤ 18446744073709551615) (hb : b ≠ bw) (hr : r ≠ bw) (n2 : is ≠ kc) :
    ∀ (L : Nat → Bool) (v : Value) w, SR b T nc C bm bw n f f' X r w0 (L kc) (L is) w → L kc = false →
      Calls Try.prog 85 #[.pointer (some ⟨bm, 0, none⟩), .int .i64 hand, .int .i64 act, .int .i64 at_, .int .u64 had, .int .u64 put] w fun e w' => e = .returned X.val ∧ SR b T nc C bm bw n f f' X r w0 (upd L kc true kc) (upd L kc true is) w' := by
  intro L v w h hL
  have hm := h.mem
  rw [hL, if_neg (by decide)] at hm
  refine (do_mem hm ⟨hand, act, at_, had, put, ok⟩ hw).mono ?_
  rintro e w' ⟨rfl, hm', hg⟩
  rw [hx, upd_same, upd_other _ _ n2]
  rw [hf] at hm'
  exact ⟨rfl, h.act hL hb hr hm' hg⟩
end
end RG
end Go.Proofs.Ytchhkoalibapiaa

/-
  A layer's maker: the closure over its Task and a shape; what makeTask does with it.
-/
namespace Go.Proofs.Ytchhkoalibapiaa
open Go.RowKit
set_option linter.unusedVariables false
set_option linter.unusedSimpArgs false
set_option maxRecDepth 20000

/-- A layer's maker: the closure over its Task and a shape in boxes of their own. -/
def mkOf (tb sb : Nat) : Value := .func (.func 50) #[] #[.pointer (some ⟨tb, 0, none⟩), .pointer (some ⟨sb, 0, none⟩)]
theorem mkOf_nil (tb sb : Nat) (w : World) : (binOp .eql 97 (.func (.func 50) #[] #[.pointer (some ⟨tb, 0, none⟩), .pointer (some ⟨sb, 0, none⟩)]) .nilFunc).run Try.prog w = .ok (.bool false) w := by kernel_rfl

/-- The boxes of a maker. -/
structure Boxes (w : World) (tb sb : Nat) (fid : FuncId) (sh : Shp) : Prop where
  t : w.cell? ⟨tb, 0, none⟩ = some (.func (.func fid) #[] #[])
  a : w.cell? ⟨sb, 0, none⟩ = some (.int .i64 sh.a)
  b : w.cell? ⟨sb, 1, none⟩ = some (.int .i64 sh.b)
  c : w.cell? ⟨sb, 2, none⟩ = some (.int .i64 sh.c)
  d : w.cell? ⟨sb, 3, none⟩ = some (.int .i64 sh.d)
  e : w.cell? ⟨sb, 4, none⟩ = some (.int .i64 sh.e)
  f : w.cell? ⟨sb, 5, none⟩ = some (.int .i64 sh.f)
theorem Boxes.below {w w' : World} {tb sb : Nat} {fid : FuncId} {sh : Shp} {B : Nat} (h : Boxes w tb sb fid sh) (hb : Below B w w') (h1 : tb < B) (h2 : sb < B) : Boxes w' tb sb fid sh :=
  ⟨(hb.cell (p := ⟨tb, 0, none⟩) h1).trans h.t, (hb.cell (p := ⟨sb, 0, none⟩) h2).trans h.a, (hb.cell (p := ⟨sb, 1, none⟩) h2).trans h.b, (hb.cell (p := ⟨sb, 2, none⟩) h2).trans h.c, (hb.cell (p := ⟨sb, 3, none⟩) h2).trans h.d, (hb.cell (p := ⟨sb, 4, none⟩) h2).trans h.e, (hb.cell (p := ⟨sb, 5, none⟩) h2).trans h.f⟩

variable {w : World} {tb sb : Nat} {fid : FuncId} {sh : Shp} {hand : Int} {j : Jb} {vt : Value} {er : Int} {Q : World → World → Value → Prop}

set_option maxHeartbeats 4000000 in
theorem closure_any (hcf : ∀ (args : Array Value) (w : World), (callFunc fid args).run Try.prog w = .ok (.enter fid args) w) (H : Boxes w tb sb fid sh) {R : Value → World → Prop}
    (hT : Calls Try.prog fid #[sh.val, .int .i64 hand, j.val] (w.alloc (.cells #[.int .i64 j.kind, .int .i64 j.a, .int .i64 j.b, .int .i64 j.c, .int .u64 j.h] 61)) fun e w' => ∃ v er, e = .returned (.tuple #[v, .int .i64 er]) ∧ R (.tuple #[v, .int .i64 er]) w') :
    Calls Try.prog 50 #[.int .i64 hand, j.val, .pointer (some ⟨tb, 0, none⟩), .pointer (some ⟨sb, 0, none⟩)] w fun e w' => ∃ v er, e = .returned (.tuple #[v, .int .i64 er]) ∧ R (.tuple #[v, .int .i64 er]) w' := by
  obtain ⟨kind, a, b, c, hh⟩ := j
  obtain ⟨s0, s1, s2, s3, s4, s5⟩ := sh
  obtain ⟨ht, r0, r1, r2, r3, r4, r5⟩ := H
  simp only at r0 r1 r2 r3 r4 r5
  have lt := World.block_lt_of_cell? _ _ ht
  have ls := World.block_lt_of_cell? _ _ r0
  simp only at lt ls
  simp only [Shp.val, Jb.val] at hT ⊢
  have HT := hide hT
  clear hT
  go_enter Try.func50, Try.ntmps50
  go_wp2_with fail
  refine HT.out.mono ?_
  rintro e w1 ⟨v, er, rfl, hR⟩
  have HR := hide hR
  clear hR
  go_wp2_with fail
  go_ret2
  exact ⟨v, er, rfl, HR.out⟩

set_option maxHeartbeats 4000000 in
theorem maker_okB (hcf : ∀ (args : Array Value) (w : World), (callFunc fid args).run Try.prog w = .ok (.enter fid args) w) (H : Boxes w tb sb fid sh) {tid : TypeId} {t : TypeId} {n : Nat} {C : Nat → Nat → Value}
    (hT : ∀ w1 : World, Calls Try.prog fid #[sh.val, .int .i64 hand, j.val] w1 fun e w' => ∃ b, e = .returned (.tuple #[.iface tid (.pointer (some ⟨b, 0, none⟩)), .int .i64 0]) ∧ w'.rowIs b t n (C b) ∧ w1.heap.size ≤ b ∧ w1.grownBy w' none) :
    Calls Try.prog 53 #[mkOf tb sb, .int .i64 hand, j.val] w fun e w' => ∃ b, e = .returned (.tuple #[.iface tid (.pointer (some ⟨b, 0, none⟩)), .int .i64 0]) ∧ w'.rowIs b t n (C b) ∧ w.heap.size ≤ b ∧ w.grownBy w' none := by
  obtain ⟨kind, a, b, c, hh⟩ := j
  have lt := World.block_lt_of_cell? _ _ H.t
  have ls := World.block_lt_of_cell? _ _ H.a
  have hn := mkOf_nil tb sb
  have hi := iface_nil tid
  have H1 : Boxes (w.alloc (.cells #[.int .i64 kind, .int .i64 a, .int .i64 b, .int .i64 c, .int .u64 hh] 61)) tb sb fid sh := H.below ((Below.refl w.heap.size w).alloc (Nat.le_refl _) _) lt ls
  have CL := hide (closure_any (R := fun v w' => ∃ b, v = .tuple #[.iface tid (.pointer (some ⟨b, 0, none⟩)), .int .i64 0] ∧ w'.rowIs b t n (C b) ∧ w.heap.size ≤ b ∧ w.grownBy w' none) hcf H1 ((hT _).mono (by
    rintro e w' ⟨b, rfl, h1, h2, h3⟩
    simp only [World.size_alloc] at h2
    exact ⟨_, _, rfl, b, rfl, h1, by omega, grown_trans (grown_alloc (grown_alloc (grown_refl _ _) _) _) h3⟩)))
  unfold mkOf
  simp only [Jb.val] at CL ⊢
  clear H H1 hT
  go_enter Try.func53, Try.ntmps53
  go_wp2_with fail
  refine CL.out.mono ?_
  rintro e w1 ⟨v, er, rfl, bb, he, hr, hb, hg⟩
  obtain ⟨rfl, rfl⟩ : v = .iface tid (.pointer (some ⟨bb, 0, none⟩)) ∧ er = 0 := by simpa using he
  have HR := hide (And.intro hr (And.intro hb hg))
  clear he hr hb hg
  go_wp2_with fail
  go_ret2
  exact ⟨bb, rfl, HR.out.1, HR.out.2.1, HR.out.2.2⟩

theorem maker_ok (hcf : ∀ (args : Array Value) (w : World), (callFunc fid args).run Try.prog w = .ok (.enter fid args) w) (H : Boxes w tb sb fid sh) {tid : TypeId} {t : TypeId} {n : Nat} {C : Nat → Value}
    (hT : ∀ w1 : World, Calls Try.prog fid #[sh.val, .int .i64 hand, j.val] w1 fun e w' => ∃ b, e = .returned (.tuple #[.iface tid (.pointer (some ⟨b, 0, none⟩)), .int .i64 0]) ∧ w'.rowIs b t n C ∧ w1.heap.size ≤ b ∧ w1.grownBy w' none) :
    Calls Try.prog 53 #[mkOf tb sb, .int .i64 hand, j.val] w fun e w' => ∃ b, e = .returned (.tuple #[.iface tid (.pointer (some ⟨b, 0, none⟩)), .int .i64 0]) ∧ w'.rowIs b t n C ∧ w.heap.size ≤ b ∧ w.grownBy w' none :=
  maker_okB (C := fun _ => C) hcf H hT

set_option maxHeartbeats 4000000 in
theorem maker_err (hcf : ∀ (args : Array Value) (w : World), (callFunc fid args).run Try.prog w = .ok (.enter fid args) w) (H : Boxes w tb sb fid sh) (he : ¬ er = 0)
    (hT : ∀ w1 : World, Calls Try.prog fid #[sh.val, .int .i64 hand, j.val] w1 fun e w' => e = .returned (.tuple #[.nilIface, .int .i64 er]) ∧ w1.grownBy w' none) :
    Calls Try.prog 53 #[mkOf tb sb, .int .i64 hand, j.val] w fun e w' => e = .returned (.tuple #[.nilIface, .int .i64 er]) ∧ w.grownBy w' none := by
  obtain ⟨kind, a, b, c, hh⟩ := j
  have lt := World.block_lt_of_cell? _ _ H.t
  have ls := World.block_lt_of_cell? _ _ H.a
  have hn := mkOf_nil tb sb
  have H1 : Boxes (w.alloc (.cells #[.int .i64 kind, .int .i64 a, .int .i64 b, .int .i64 c, .int .u64 hh] 61)) tb sb fid sh := H.below ((Below.refl w.heap.size w).alloc (Nat.le_refl _) _) lt ls
  have CL := hide (closure_any (R := fun v w' => v = .tuple #[.nilIface, .int .i64 er] ∧ w.grownBy w' none) hcf H1 ((hT _).mono (by
    rintro e w' ⟨rfl, h3⟩
    exact ⟨_, _, rfl, rfl, grown_trans (grown_alloc (grown_alloc (grown_refl _ _) _) _) h3⟩)))
  unfold mkOf
  simp only [Jb.val] at CL ⊢
  clear H H1 hT
  go_enter Try.func53, Try.ntmps53
  go_wp2_with fail
  refine CL.out.mono ?_
  rintro e w1 ⟨v, er', rfl, hv, hg⟩
  obtain ⟨rfl, rfl⟩ : v = .nilIface ∧ er' = er := by simpa using hv
  have HR := hide hg
  clear hv hg
  go_wp2_with fail
  go_ret2
  exact ⟨rfl, HR.out⟩
set_option maxHeartbeats 2000000 in
theorem room_ok (w : World) (sh : Shp) (h1 : 1 ≤ sh.f) (h2 : sh.f ≤ 64) : Calls Try.prog 36 #[sh.val, .int .i64 64] w fun e w' => e = .returned (.int .i64 0) ∧ w.grownBy w' none := by
  obtain ⟨s0, s1, s2, s3, s4, s5⟩ := sh
  simp only [Shp.val] at h1 h2 ⊢
  have g1 : ¬ s5 < 1 := by omega
  have g2 : ¬ 64 < s5 := by omega
  go_enter Try.func36, Try.ntmps36
  go_wp2
  go_ret
  exact ⟨rfl, grown_alloc (grown_refl _ _) _⟩
set_option maxHeartbeats 2000000 in
theorem room_bad (w : World) (sh : Shp) (h : sh.f < 1 ∨ 64 < sh.f) : Calls Try.prog 36 #[sh.val, .int .i64 64] w fun e w' => e = .returned (.int .i64 120) ∧ w.grownBy w' none := by
  obtain ⟨s0, s1, s2, s3, s4, s5⟩ := sh
  simp only [Shp.val] at h ⊢
  by_cases g1 : s5 < 1
  · go_enter Try.func36, Try.ntmps36
    go_wp2
    go_ret
    exact ⟨rfl, grown_alloc (grown_refl _ _) _⟩
  · have g2 : 64 < s5 := by omega
    go_enter Try.func36, Try.ntmps36
    go_wp2
    go_ret
    exact ⟨rfl, grown_alloc (grown_refl _ _) _⟩

end Go.Proofs.Ytchhkoalibapiaa

/-
  layer.Play, whatever the layer: a wrong number of words, or turn's Play over the layer's maker.
-/
namespace Go.Proofs.Ytchhkoalibapiaa
open Go.RowKit
set_option linter.unusedVariables false
set_option linter.unusedSimpArgs false
set_option maxRecDepth 20000

/-- What a run answers, as a value. -/
def tv3 (sa : Option Addr) (k sc : Nat) (wa : Option Addr) (n wc : Nat) (en : Bool) (aa : Option Addr) (m ac : Nat) (er : Int) : Value :=
  .tuple #[.agg #[.slice sa k sc, .slice wa n wc, .bool en], .slice aa m ac, .int .i64 er]

/-- What a layer's Play tells, where the shape is taken: want words are wanted. -/
def LErr (K : Kd) (want : Nat) (P : Par) (most er : Int) : Prop := (P.n ≠ want ∧ er = 121) ∨ (P.n = want ∧ ErrOf K P most er)
def LAll (K : Kd) (want : Nat) (w : World) (P : Par) (f : Nat → Int) (most : Int) (e : Ending) (w' : World) : Prop :=
  Below w.heap.size w w' ∧ ((∃ er, LErr K want P most er ∧ e = .returned (errVal er)) ∨ (P.n = want ∧ Fine P most ∧ AllOk K P ∧ ∃ v, e = .returned v ∧ Told K P (runSt P (st0 K P f) most.toNat) w.heap.size v w'))

theorem told_touch {K : Kd} {P : Par} {st : St K} {base base' b : Nat} {v : Value} {w w' : World} (h : Told K P st base v w) (ht : Touch w w' (fun k => k = b)) (hb : b < base) (hbb : base' ≤ base) : Told K P st base' v w' := by
  obtain ⟨blk, c, g, sv, rfl, H, G, GS, R, hg, hne⟩ := h
  exact ⟨blk, c, g, sv, rfl, ((H.touch ht (fun r x e he => by have := H.new r x e; omega))).base_le hbb, G, GS, R.block (ht.block g R.lt (fun he => by omega)), by omega, hne⟩
theorem told_shape {K : Kd} {P : Par} {st : St K} {base : Nat} {v : Value} {w : World} (h : Told K P st base v w) : ∃ sa k sc wa n wc en aa m ac, v = tv3 sa k sc wa n wc en aa m ac 0 := by
  obtain ⟨blk, c, g, sv, rfl, H, G, GS, R, hg, hne⟩ := h
  obtain ⟨sa, sc, rfl⟩ := GS.isSlice
  exact ⟨_, _, _, _, _, _, _, _, _, _, rfl⟩

/-- The same run told out of a later world, with memory of the callers' own beneath it. -/
theorem LAll.up {K : Kd} {want : Nat} {w0 w w' w2 : World} {P : Par} {f : Nat → Int} {most : Int} {e : Ending} {b : Nat} (h : LAll K want w P f most e w') (h0 : Below w0.heap.size w0 w) (ht : Touch w' w2 (fun k => k = b)) (hb0 : w0.heap.size ≤ b) (hb : b < w.heap.size) : LAll K want w0 P f most e w2 := by
  obtain ⟨hB, hc⟩ := h
  refine ⟨(h0.trans (hB.mono h0.size)).trans (ht.below (fun k hk => by omega) (Nat.le_trans h0.size hB.size)), ?_⟩
  rcases hc with h | ⟨h1, h2, h3, v, he, hT⟩
  · exact .inl h
  · exact .inr ⟨h1, h2, h3, v, he, told_touch hT ht hb h0.size⟩
theorem LAll.shape {K : Kd} {want : Nat} {w w' : World} {P : Par} {f : Nat → Int} {most : Int} {e : Ending} (h : LAll K want w P f most e w') : ∃ sa k sc wa n wc en aa m ac er, e = .returned (tv3 sa k sc wa n wc en aa m ac er) := by
  rcases h.2 with ⟨er, _, rfl⟩ | ⟨_, _, _, v, rfl, hT⟩
  · exact ⟨none, 0, 0, none, 0, 0, false, none, 0, 0, er, rfl⟩
  · obtain ⟨sa, k, sc, wa, n, wc, en, aa, m, ac, rfl⟩ := told_shape hT
    exact ⟨_, _, _, _, _, _, _, _, _, _, _, rfl⟩

theorem makerOf_any (w : World) (ft : FuncId) (sh : Shp) : Calls Try.prog 35 #[.func (.func ft) #[] #[], sh.val] w fun e w' => e = .returned (mkOf w.heap.size (w.heap.size + 1)) ∧
    w' = (w.alloc (.cells #[.func (.func ft) #[] #[]] 94)).alloc (.cells #[.int .i64 sh.a, .int .i64 sh.b, .int .i64 sh.c, .int .i64 sh.d, .int .i64 sh.e, .int .i64 sh.f] 23) := by
  obtain ⟨s0, s1, s2, s3, s4, s5⟩ := sh
  simp only [Shp.val, mkOf]
  go_enter Try.func35, Try.ntmps35
  go_wp2
  go_ret
  exact ⟨rfl, rfl⟩

variable {K : Kd} {w : World} {ao aoh aos : Option Addr} {cap caph caps : Nat} {P : Par} {f : Nat → Int} {most : Int} {fsz ft : FuncId} {sh : Shp} {want : Nat}

theorem SeesH.up {w : World} {B C : Nat} {aoh : Option Addr} {nh : Nat} {jn : Nat → Nat} {jb : Nat → Nat → Jb} (h : SeesH w B aoh nh jn jb) (hl : B ≤ C) : SeesH w C aoh nh jn jb := fun i hi => by
  obtain ⟨b, off, ao', cap, e, hb, hc, hj⟩ := h i hi
  exact ⟨b, off, ao', cap, e, by omega, hc, fun q hq => by obtain ⟨b', off', e', hb', hc'⟩ := hj q hq; exact ⟨b', off', e', by omega, hc'⟩⟩
theorem SeesI.up {w : World} {B C : Nat} {ao : Option Addr} {n : Nat} {s : Nat → Int} (h : SeesI w B ao n s) (hl : B ≤ C) : SeesI w C ao n s := fun i hi => by
  obtain ⟨b, off, e, hb, hc⟩ := h i hi
  exact ⟨b, off, e, by omega, hc⟩

set_option maxHeartbeats 4000000 in
theorem lay_size_err {er : Int} (her : ¬ er = 0) (hcs : ∀ (args : Array Value) (w : World), (callFunc fsz args).run Try.prog w = .ok (.enter fsz args) w)
    (hS : ∀ w : World, Calls Try.prog fsz #[sh.val] w fun e w' => e = .returned (.tuple #[.int .i64 0, .int .i64 er]) ∧ w.grownBy w' none) :
    Calls Try.prog 20 #[.func (.func fsz) #[] #[], .func (.func ft) #[] #[], sh.val, .slice ao P.n cap, .slice aoh P.nh caph, .slice aos P.ns caps, .int .i64 most] w fun e w' => e = .returned (errVal er) ∧ Below w.heap.size w w' := by
  obtain ⟨s0, s1, s2, s3, s4, s5⟩ := sh
  simp only [Shp.val] at hS ⊢
  have HS := hide hS
  clear hS
  unfold errVal
  go_enter Try.func20, Try.ntmps20
  go_wp2_with fail
  refine (HS.out _).mono ?_
  rintro e w1 ⟨rfl, hg⟩
  have HB := hide ((((Below.refl w.heap.size w).alloc (Nat.le_refl _) (.cells #[.int .i64 s0, .int .i64 s1, .int .i64 s2, .int .i64 s3, .int .i64 s4, .int .i64 s5] 23)).alloc (by simp) (.cells #[.slice none 0 0, .slice none 0 0, .bool false] 32)).trans (below_of_grown_none hg w.heap.size (by simp; omega)))
  have hb := below_of_grown_none hg (w.heap.size + 2) (by simp)
  have z0 := hb.cell (p := ⟨w.heap.size + 1, 0, none⟩) (by simp)
  have z1 := hb.cell (p := ⟨w.heap.size + 1, 1, none⟩) (by simp)
  have z2 := hb.cell (p := ⟨w.heap.size + 1, 2, none⟩) (by simp)
  have y0 := hb.frozen (p := ⟨w.heap.size + 1, 0, none⟩) (by simp)
  have y1 := hb.frozen (p := ⟨w.heap.size + 1, 1, none⟩) (by simp)
  have y2 := hb.frozen (p := ⟨w.heap.size + 1, 2, none⟩) (by simp)
  simp at z0 z1 z2 y0 y1 y2
  clear hb hg
  go_wp2_with fail
  go_light
  refine bodyPost_ret (v := errVal er) ?_ rfl ⟨rfl, ((HB.out.setCell (by simp) _).setCell (by simp) _).setCell (by simp) _⟩
  simp [results, Try.results20, go_sem, errVal, *]

set_option maxHeartbeats 8000000 in
theorem lay_any (hcs : ∀ (args : Array Value) (w : World), (callFunc fsz args).run Try.prog w = .ok (.enter fsz args) w)
    (hS : ∀ w : World, Calls Try.prog fsz #[sh.val] w fun e w' => e = .returned (.tuple #[.int .i64 want, .int .i64 0]) ∧ w.grownBy w' none) (IK : IsKind K) (MK : ∀ w' tb sb, Boxes w' tb sb ft sh → MakesAt K (mkOf tb sb) w')
    (S : Sees w w.heap.size ao P.n f) (hf : ∀ i, i < P.n → 0 ≤ f i ∧ f i ≤ 18446744073709551615) (SH : SeesH w w.heap.size aoh P.nh P.jn P.jb) (hn63 : P.nh ≤ 9223372036854775807) (SI : SeesI w w.heap.size aos P.ns P.sched) (hjw : ∀ h, h < P.nh → ∀ j, j < P.jn h → (P.jb h j).wf) :
    Calls Try.prog 20 #[.func (.func fsz) #[] #[], .func (.func ft) #[] #[], sh.val, .slice ao P.n cap, .slice aoh P.nh caph, .slice aos P.ns caps, .int .i64 most] w (LAll K want w P f most) := by
  have MO := fun w' => makerOf_any w' ft sh
  obtain ⟨s0, s1, s2, s3, s4, s5⟩ := sh
  simp only [Shp.val] at hS MO ⊢
  have HS := hide hS
  have HMO := hide MO
  have HSW := hide S
  have HF := hide hf
  have HSH := hide SH
  have HSI := hide SI
  have HJW := hide hjw
  have HIK := hide IK
  have HMK := hide MK
  clear hS MO S hf SH SI hjw IK MK
  go_enter Try.func20, Try.ntmps20
  go_wp2_with fail
  refine (HS.out _).mono ?_
  rintro e w1 ⟨rfl, hg⟩
  have HB := hide ((((Below.refl w.heap.size w).alloc (Nat.le_refl _) (.cells #[.int .i64 s0, .int .i64 s1, .int .i64 s2, .int .i64 s3, .int .i64 s4, .int .i64 s5] 23)).alloc (by simp) (.cells #[.slice none 0 0, .slice none 0 0, .bool false] 32)).trans (below_of_grown_none hg w.heap.size (by simp; omega)))
  have hb := below_of_grown_none hg (w.heap.size + 2) (by simp)
  have sz1 := hg.size
  simp only [World.size_alloc] at sz1
  have c0 := hb.cell (p := ⟨w.heap.size, 0, none⟩) (by simp)
  have c1 := hb.cell (p := ⟨w.heap.size, 1, none⟩) (by simp)
  have c2 := hb.cell (p := ⟨w.heap.size, 2, none⟩) (by simp)
  have c3 := hb.cell (p := ⟨w.heap.size, 3, none⟩) (by simp)
  have c4 := hb.cell (p := ⟨w.heap.size, 4, none⟩) (by simp)
  have c5 := hb.cell (p := ⟨w.heap.size, 5, none⟩) (by simp)
  have z0 := hb.cell (p := ⟨w.heap.size + 1, 0, none⟩) (by simp)
  have z1 := hb.cell (p := ⟨w.heap.size + 1, 1, none⟩) (by simp)
  have z2 := hb.cell (p := ⟨w.heap.size + 1, 2, none⟩) (by simp)
  have y0 := hb.frozen (p := ⟨w.heap.size + 1, 0, none⟩) (by simp)
  have y1 := hb.frozen (p := ⟨w.heap.size + 1, 1, none⟩) (by simp)
  have y2 := hb.frozen (p := ⟨w.heap.size + 1, 2, none⟩) (by simp)
  simp at c0 c1 c2 c3 c4 c5 z0 z1 z2 y0 y1 y2
  clear hb hg
  by_cases hne : P.n = want
  · subst hne
    go_wp2_with fail
    refine (HMO.out _).mono ?_
    rintro e w2 ⟨rfl, hw2⟩
    have B2 : Below w1.heap.size w1 w2 := by rw [hw2]; exact ((Below.refl _ w1).alloc (Nat.le_refl _) _).alloc (by simp) _
    have BX : Boxes w2 w1.heap.size (w1.heap.size + 1) ft ⟨s0, s1, s2, s3, s4, s5⟩ := by rw [hw2]; constructor <;> simp
    have sz2 : w2.heap.size = w1.heap.size + 2 := by rw [hw2]; simp
    have BW2 := HB.out.trans (B2.mono (by omega))
    have HBX := hide BX
    have HBW2 := hide BW2
    have HB2 := hide B2
    clear hw2 B2 BX BW2
    go_wp2_with fail
    refine (OfAny.play_all ((HSW.out.below HBW2.out (Nat.le_refl _)).mono (by omega)) HF.out ((HSH.out.below HBW2.out (Nat.le_refl _)).up (by omega)) hn63 ((HSI.out.below HBW2.out (Nat.le_refl _)).up (by omega)) HJW.out HIK.out (fun w' hb => HMK.out w' _ _ (HBX.out.below hb (by omega) (by omega)))).mono ?_
    rintro e w3 ⟨hb3, hc3⟩
    have sz3 := hb3.size
    have LA : LAll K P.n w2 P f most e w3 := ⟨hb3, by
      rcases hc3 with ⟨er, h1, h2⟩ | ⟨h1, h2, v, h3, h4⟩
      · exact .inl ⟨er, .inr ⟨rfl, h1⟩, h2⟩
      · exact .inr ⟨rfl, h1, h2, v, h3, told_touch h4 ((Touch.refl w3 (fun k => k = 0))) (by omega) (by omega)⟩⟩
    obtain ⟨sa, k, sc, wa, n, wc, en, aa, m, ac, er, rfl⟩ := LA.shape
    have hb13 := HB2.out.trans (hb3.mono (by omega))
    have u0 := (hb13.cell (p := ⟨w.heap.size + 1, 0, none⟩) (by show w.heap.size + 1 < _; omega)).trans z0
    have u1 := (hb13.cell (p := ⟨w.heap.size + 1, 1, none⟩) (by show w.heap.size + 1 < _; omega)).trans z1
    have u2 := (hb13.cell (p := ⟨w.heap.size + 1, 2, none⟩) (by show w.heap.size + 1 < _; omega)).trans z2
    have v0 := (hb13.frozen (p := ⟨w.heap.size + 1, 0, none⟩) (by show w.heap.size + 1 < _; omega)).trans y0
    have v1 := (hb13.frozen (p := ⟨w.heap.size + 1, 1, none⟩) (by show w.heap.size + 1 < _; omega)).trans y1
    have v2 := (hb13.frozen (p := ⟨w.heap.size + 1, 2, none⟩) (by show w.heap.size + 1 < _; omega)).trans y2
    have FIN := hide (LA.up HBW2.out (touch3 w3 (w.heap.size + 1) (.slice sa k sc) (.slice wa n wc) (.bool en)) (by omega) (by omega))
    clear hb3 hc3 LA hb13 c0 c1 c2 c3 c4 c5 z0 z1 z2 y0 y1 y2
    unfold tv3
    go_wp2_with fail
    go_light
    refine bodyPost_ret (v := tv3 sa k sc wa n wc en aa m ac er) ?_ rfl FIN.out
    simp [results, Try.results20, go_sem, tv3, *]
  · have hne' : ¬ (P.n : Int) = (want : Int) := by omega
    go_wp2_with fail
    go_light
    refine bodyPost_ret (v := errVal 121) ?_ rfl ⟨((HB.out.setCell (by simp) _).setCell (by simp) _).setCell (by simp) _, .inl ⟨121, .inl ⟨hne, rfl⟩, rfl⟩⟩
    simp [results, Try.results20, go_sem, errVal, *]
end Go.Proofs.Ytchhkoalibapiaa

/-
  The reference's run between two steps.
-/
namespace Go.Proofs.Ytchhkoalibapiaa
open Go.RowKit
set_option linter.unusedVariables false
set_option linter.unusedSimpArgs false
set_option linter.unnecessarySimpa false
set_option maxRecDepth 20000
open Beg

/-- A reference's run as it is told. -/
def RTold (K : Kd) (rep : List Value → K.σ → Prop) (P : Par) (st : St K) (base : Nat) (v : Value) (w' : World) : Prop :=
  ∃ blk c un capw sv, v = .tuple #[.agg #[sv, .slice (some ⟨blk .words, 0, none⟩) P.n capw, .bool (decide (cnt (st.going P) P.nh = 0))], sl (blk .answers) P.nh, .int .i64 0] ∧ Has w' base blk c ∧ RGood K rep P blk c st un capw sv

theorem begin_good {P : Par} {blk : Rl → Nat} {c : Rl → Option Row} {capw : Nat} {F : Nat → Value} {f : Nat → Int} {K : Kd} {rep : List Value → K.σ → Prop}
    (h1 : ∀ r k d x, mkr P.nh r = some (k, d, x) → c r = some x) (h2 : c .steps = none ∧ ∀ h, c (.arow h) = none) (h3 : c .words = some ⟨55, capw, F⟩) (h4 : P.n ≤ capw) (h5 : capw ≤ maxLen) (h6 : ∀ i, i < P.n → F i = .int .u64 (f i))
    (hf : ∀ i, i < P.n → 0 ≤ f i ∧ f i ≤ 18446744073709551615) (hj : ∀ h, h < P.nh → P.jn h ≤ 256) (hn : P.nh ≤ 8) (hw : ∀ h, h < P.nh → ∀ j, j < P.jn h → (P.jb h j).wf) :
    RGood K rep P blk c (st0 K P f) (fun _ => false) capw (.slice none 0 0) := by
  have m1 : ∀ (v : Value) (i : Nat), #[v][i % #[v].size]! = v := fun v i => by rw [show i % #[v].size = 0 from Nat.mod_one i]; rfl
  refine ⟨⟨F, h3, h4, h5, h6⟩, hf, ⟨_, h1 .tasks _ _ _ rfl, fun h _ hu => (by cases hu)⟩, ⟨fun i => #[Value.bool false][i % #[Value.bool false].size]!, (h1 .going _ _ _ rfl).trans (by rw [Nat.mul_one]), fun h _ => m1 (.bool false) h⟩, ⟨fun i => #[Value.int .i64 0][i % #[Value.int .i64 0].size]!, (h1 .run _ _ _ rfl).trans (by rw [Nat.mul_one]), fun h _ => m1 (.int .i64 0) h⟩, ⟨_, h1 .mem _ _ _ rfl, fun i _ => ?_⟩, ⟨fun i => #[Value.slice none 0 0][i % #[Value.slice none 0 0].size]!, (h1 .answers _ _ _ rfl).trans (by rw [Nat.mul_one]), fun h _ => .inl ⟨rfl, m1 (.slice none 0 0) h, h2.2 h⟩⟩, .inl ⟨rfl, rfl, h2.1⟩, fun h _ => Nat.zero_le _, fun h _ hu => (by cases hu), fun h _ _ _ => rfl, hj, hn, hw, ?_⟩
  · have : i % zKept.size < 4 := Nat.mod_lt _ (by decide)
    generalize i % zKept.size = q at this
    match q, this with
    | 0, _ | 1, _ | 2, _ | 3, _ => rfl
  · simp only [st0]; omega

/-- The run's own variable, as a list. -/
def rvL (sh : Shp) (P : Par) (blk : Rl → Nat) (capw : Nat) (vh sv : Value) (la : Int) : List Value := runCells sh (.slice (some ⟨blk .words, 0, none⟩) P.n capw) vh (sl (blk .tasks) P.nh) (sl (blk .going) P.nh) (sl (blk .run) P.nh) (sl (blk .mem) P.nh) sv (sl (blk .answers) P.nh) la
theorem rvL_val (sh : Shp) (P : Par) (blk : Rl → Nat) (capw : Nat) (vh sv : Value) (la : Int) : rv sh P blk capw vh sv la = .agg (rvL sh P blk capw vh sv la).toArray := rfl
theorem rvL_len (sh : Shp) (P : Par) (blk : Rl → Nat) (capw : Nat) (vh sv : Value) (la : Int) : (rvL sh P blk capw vh sv la).length = 15 := rfl
theorem rvL_one {sh : Shp} {P : Par} {blk : Rl → Nat} {capw : Nat} {vh sv : Value} {la : Int} (h1 : vh.oneCell' = true) (h2 : sv.oneCell' = true) : ∀ v ∈ rvL sh P blk capw vh sv la, v.oneCell' = true := by
  simp [rvL, runCells, sl, Value.oneCell'] at *
  exact ⟨h1, h2⟩

/-- Between two steps of the reference's run. -/
structure AInv (sh : Shp) (K : Kd) (rep : List Value → K.σ → Prop) (w : World) (P : Par) (f : Nat → Int) (vh : Value) (bR capw j : Nat) (wr : World) (blk : Rl → Nat) (c : Rl → Option Row) (un : Nat → Bool) (sv : Value) : Prop where
  has : Has wr w.heap.size blk c
  good : RGood K rep P blk c (runSt P (st0 K P f) j) un capw sv
  k : (runSt P (st0 K P f) j).k = j
  ty : ∀ r x, c r = some x → x.t ≠ 78 ∧ x.t ≠ 32 ∧ x.t ≠ 23
  rrow : wr.rowIs bR 78 15 (lrow (rvL sh P blk capw vh sv (runSt P (st0 K P f) j).last))
  trow : wr.rowIs w.heap.size 32 3 (lrow [.slice none 0 0, .slice none 0 0, .bool false])
  bel : Below w.heap.size w wr
  ge : w.heap.size ≤ bR

theorem AInv.below {sh : Shp} {K : Kd} {rep : List Value → K.σ → Prop} {w : World} {P : Par} {f : Nat → Int} {vh : Value} {bR capw j : Nat} {wr w' : World} {blk : Rl → Nat} {c : Rl → Option Row} {un : Nat → Bool} {sv : Value} (I : AInv sh K rep w P f vh bR capw j wr blk c un sv) (hb : Below wr.heap.size wr w') : AInv sh K rep w P f vh bR capw j w' blk c un sv :=
  ⟨I.has.below hb, I.good, I.k, I.ty, I.rrow.of_block (hb.block _ I.rrow.lt), I.trow.of_block (hb.block _ I.trow.lt), I.bel.trans (hb.mono I.bel.size), I.ge⟩
/-- The run's own variable was written again. -/
theorem AInv.touchR {sh : Shp} {K : Kd} {rep : List Value → K.σ → Prop} {w : World} {P : Par} {f : Nat → Int} {vh : Value} {bR capw j : Nat} {wr w' : World} {blk : Rl → Nat} {c : Rl → Option Row} {un : Nat → Bool} {sv : Value} (I : AInv sh K rep w P f vh bR capw j wr blk c un sv) (ht : Touch wr w' (fun k => k = bR))
    (hr : w'.rowIs bR 78 15 (lrow (rvL sh P blk capw vh sv (runSt P (st0 K P f) j).last))) : AInv sh K rep w P f vh bR capw j w' blk c un sv :=
  ⟨I.has.touch ht (fun r x e => rowIs.ne (I.has.row r x e) I.rrow (I.ty r x e).1), I.good, I.k, I.ty, hr, I.trow.of_block (ht.block _ I.trow.lt (rowIs.ne I.trow I.rrow (by decide))), I.bel.trans (ht.below (fun k hk => by rw [hk]; exact I.ge) I.bel.size), I.ge⟩

/-- Behind a call that turned the run's own blocks alone. -/
theorem AInv.step6 {sh : Shp} {K : Kd} {rep : List Value → K.σ → Prop} {w : World} {P : Par} {f : Nat → Int} {vh : Value} {bR capw j : Nat} {wr w' : World} {blk : Rl → Nat} {c c' : Rl → Option Row} {un un' : Nat → Bool} {sv : Value} (I : AInv sh K rep w P f vh bR capw j wr blk c un sv) (H : Has w' w.heap.size blk c') (G : RGood K rep P blk c' (runSt P (st0 K P f) j) un' capw sv) (ht : Touch wr w' (Own blk c)) :
    AInv sh K rep w P f vh bR capw j w' blk (cln P.nh c') un' sv := by
  have h1 : ¬ Own blk c bR := fun ⟨r, x, e, he⟩ => rowIs.ne (I.has.row r x e) I.rrow (I.ty r x e).1 he
  have h2 : ¬ Own blk c w.heap.size := fun ⟨r, x, e, he⟩ => rowIs.ne (I.has.row r x e) I.trow (I.ty r x e).2.1 he
  exact ⟨H.clean P.nh, G.clean, I.k, G.types, I.rrow.of_block (ht.block _ I.rrow.lt h1), I.trow.of_block (ht.block _ I.trow.lt h2), I.bel.trans (ht.below (fun k ⟨r, x, e, he⟩ => by rw [← he]; exact I.has.new r x e) I.bel.size), I.ge⟩
/-- The run's own variable written over by itself. -/
theorem AInv.again {sh : Shp} {K : Kd} {rep : List Value → K.σ → Prop} {w : World} {P : Par} {f : Nat → Int} {vh : Value} {bR capw j : Nat} {wr : World} {blk : Rl → Nat} {c : Rl → Option Row} {un : Nat → Bool} {sv : Value} (I : AInv sh K rep w P f vh bR capw j wr blk c un sv) :
    AInv sh K rep w P f vh bR capw j (wr.setCells bR 0 (rvL sh P blk capw vh sv (runSt P (st0 K P f) j).last)) blk c un sv :=
  I.touchR (touch_setCells _ _ _ _) ((rowIs.setCells _ 0 _ _ I.rrow).congr (fun i hi => by rw [if_pos (by rw [rvL_len]; omega)]; rfl))

theorem RGood.withWords {K : Kd} {rep : List Value → K.σ → Prop} {P : Par} {blk : Rl → Nat} {c : Rl → Option Row} {st : St K} {un : Nat → Bool} {capw : Nat} {sv : Value} (G : RGood K rep P blk c st un capw sv) {F' : Nat → Value} {f' : Nat → Int} (hF : ∀ i, i < P.n → F' i = .int .u64 (f' i)) (hw : ∀ i, i < P.n → 0 ≤ f' i ∧ f' i ≤ 18446744073709551615) :
    RGood K rep P blk (upd c .words (some ⟨55, capw, F'⟩)) (st.with f') un capw sv := by
  obtain ⟨F, _, h1, h2, _⟩ := G.words
  refine ⟨⟨F', upd_same _ _ _, h1, h2, hF⟩, hw, ?_, ?_, ?_, ?_, ?_, ?_, G.doneLe, G.unLt, G.fresh, G.jobs, G.hands, G.jwf, G.lastOk⟩
  · rw [upd_other _ _ (by simp)]; exact G.tasks
  · rw [upd_other _ _ (by simp)]; exact G.under
  · rw [upd_other _ _ (by simp)]; exact G.begun
  · rw [upd_other _ _ (by simp)]; exact G.kept
  · obtain ⟨A, eA, hA⟩ := G.answers
    exact ⟨A, by rw [upd_other _ _ (by simp)]; exact eA, fun h hh => (hA h hh).upd' (by simp) _⟩
  · exact G.steps.upd' (by simp) _

/-- Behind a step, the run's own variable written anew. -/
theorem AInv.next {sh : Shp} {K : Kd} {rep : List Value → K.σ → Prop} {w : World} {P : Par} {f : Nat → Int} {vh : Value} {bR capw j : Nat} {wc wx w7 : World} {blk blk' : Rl → Nat} {c c' : Rl → Option Row} {un un' : Nat → Bool} {sv sv' : Value} {y : Row} {L : List Value} (I : AInv sh K rep w P f vh bR capw j wc blk c un sv)
    (eW : ∃ z, c .words = some z) (ttW : Touch wc wx (fun k => k = blk .words)) (rr : wx.rowIs bR 78 15 (lrow L)) (H7 : Has w7 w.heap.size blk' c') (G7 : RGood K rep P blk' c' (runSt P (st0 K P f) (j + 1)) un' capw sv') (tt7 : Touch wx w7 (Own blk (upd c .words (some y)))) (hk : (runSt P (st0 K P f) (j + 1)).k = j + 1) :
    AInv sh K rep w P f vh bR capw (j + 1) (w7.setCells bR 0 (rvL sh P blk' capw vh sv' (runSt P (st0 K P f) (j + 1)).last)) blk' (cln P.nh c') un' sv' := by
  obtain ⟨z, eW⟩ := eW
  have own : ∀ k, Own blk (upd c .words (some y)) k → Own blk c k := fun k ⟨r, x, e, he⟩ => by
    by_cases hr : r = .words
    · subst hr; exact ⟨_, _, eW, he⟩
    · rw [upd_other _ _ hr] at e; exact ⟨r, x, e, he⟩
  have nR : ¬ Own blk c bR := fun ⟨r, x, e, he⟩ => rowIs.ne (I.has.row r x e) I.rrow (I.ty r x e).1 he
  have nT : ¬ Own blk c w.heap.size := fun ⟨r, x, e, he⟩ => rowIs.ne (I.has.row r x e) I.trow (I.ty r x e).2.1 he
  have rr7 := rr.of_block (tt7.block _ rr.lt (fun h => nR (own _ h)))
  have tr := (I.trow.of_block (ttW.block _ I.trow.lt (fun h => nT ⟨_, _, eW, h.symm⟩)))
  have tr7 := tr.of_block (tt7.block _ tr.lt (fun h => nT (own _ h)))
  have ts := touch_setCells bR (rvL sh P blk' capw vh sv' (runSt P (st0 K P f) (j + 1)).last) 0 w7
  have b1 := I.bel.trans (ttW.below (fun k hk => by rw [hk]; exact I.has.new _ _ eW) I.bel.size)
  have b2 := b1.trans (tt7.below (fun k hk => by obtain ⟨r, x, e, he⟩ := own k hk; rw [← he]; exact I.has.new r x e) b1.size)
  refine ⟨(H7.clean P.nh).touch ts (fun r x e => rowIs.ne (H7.row r x (clean_sub e)) rr7 (G7.types r x e).1), G7.clean, hk, G7.types, (rowIs.setCells _ 0 _ _ rr7).congr (fun i hi => ?_), tr7.of_block (ts.block _ tr7.lt (rowIs.ne tr7 rr7 (by simp))), b2.trans (ts.below (fun k hk => by rw [hk]; exact I.ge) b2.size), I.ge⟩
  rw [if_pos (by rw [rvL_len]; omega)]; rfl

end Go.Proofs.Ytchhkoalibapiaa
