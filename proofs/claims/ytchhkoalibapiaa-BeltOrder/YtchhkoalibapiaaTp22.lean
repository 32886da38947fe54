/-
  Lemmas: RGS, RH, Lift.
-/
import Derived.Test.YtchhkoalibapiaaTp20
import Derived.Test.YtchhkoalibapiaaRows
import Derived.WalkKit
import Derived.ProofKit
import Derived.OpenShut
import Derived.ChangeOld
import Derived.Below
import Derived.JoinedCond
import Derived.Leaving
import Derived.Conc.LeavingOf
/-
  Regions that draw their order, with one call that turns the world: told into a variable that the region makes (SG), or into one of two variables made ahead (SM). What else stands in the world is any invariant.
-/
namespace Go.Proofs.Ytchhkoalibapiaa
open Go.RowKit
set_option linter.unusedVariables false
set_option linter.unusedSimpArgs false
namespace RG

/-- c: the call is done; al: the variable is made; st: it is written. -/
structure SG (I : Bool → World → Prop) (X : Stp) (w0 : World) (c al st : Bool) (v : Value) (w : World) : Prop where
  inv : I c w
  siz : w0.heap.size ≤ w.heap.size
  own : al = true → ∃ q, v = .pointer (some ⟨q, 0, none⟩) ∧ w0.heap.size ≤ q ∧ q < w.heap.size ∧ (st = false → w.rowIs q 57 6 zcell) ∧ (st = true → w.rangeAt q 0 X.cells)
  dep : st = true → c = true ∧ al = true

section
variable {I : Bool → World → Prop} {X : Stp} {w0 w w' : World} {c al st : Bool} {v : Value}
theorem SG.start (h : I false { w0 with drawn := w0.drawn + 1 }) : SG I X w0 false false false v { w0 with drawn := w0.drawn + 1 } :=
  ⟨h, Nat.le_refl _, fun h => (by cases h), fun h => (by cases h)⟩
theorem SG.make (hI : ∀ c w w', Below w0.heap.size w w' → w0.heap.size ≤ w.heap.size → I c w → I c w') (h : SG I X w0 c al st v w) (hal : al = false) :
    SG I X w0 c true st (.pointer (some ⟨w.heap.size, 0, none⟩)) (w.alloc (.cells [Value.int .i64 0, .int .i64 0, .int .i64 0, .int .u64 0, .int .u64 0, .bool false].toArray 57)) := by
  have hst : st = false := by
    cases hs : st with
    | false => rfl
    | true => have := (h.dep hs).2; rw [hal] at this; cases this
  subst hst
  exact ⟨hI _ _ _ ((Below.refl _ w).alloc h.siz _) h.siz h.inv, by simp; have := h.siz; omega, fun _ => ⟨_, rfl, h.siz, by simp, fun _ => row0 w, fun h => (by cases h)⟩, fun h => (by cases h)⟩
theorem SG.act {g : Nat} (h : SG I X w0 c al st v w) (hc : c = false) (hg0 : g < w0.heap.size) (hi : I true w') (hg : w.grownBy w' (some g)) : SG I X w0 true al st v w' := by
  have hst : st = false := by
    cases hs : st with
    | false => rfl
    | true => have := (h.dep hs).1; rw [hc] at this; cases this
  subst hst
  refine ⟨hi, Nat.le_trans h.siz hg.size, fun ha => ?_, fun h => (by cases h)⟩
  obtain ⟨q, e, hq, hq2, hrow, _⟩ := h.own ha
  exact ⟨q, e, hq, Nat.lt_of_lt_of_le hq2 hg.size, fun _ => (hrow rfl).of_block (hg.block q hq2 (by simp; omega)), fun h => (by cases h)⟩
theorem SG.put (hI : ∀ c w w', Below w0.heap.size w w' → w0.heap.size ≤ w.heap.size → I c w → I c w') (h : SG I X w0 c al st v w) (hc : c = true) (ha : al = true) (hst : st = false) :
    ∃ q, v = .pointer (some ⟨q, 0, none⟩) ∧ w.there q 0 X.cells.length ∧ SG I X w0 c al true v (w.setCells q 0 X.cells) := by
  obtain ⟨q, e, hq, hq2, hrow, _⟩ := h.own ha
  have ht : w.there q 0 X.cells.length := rowIs.there (hrow hst) (by simp [Stp.cells])
  have tt := touch_setCells q X.cells 0 w
  have hs := h.siz
  exact ⟨q, e, ht, hI _ _ _ ⟨tt.os, tt.tape, tt.output, tt.size, fun k hk => tt.block k (by omega) (by omega)⟩ h.siz h.inv, Nat.le_trans h.siz tt.size, fun _ => ⟨q, e, hq, Nat.lt_of_lt_of_le hq2 tt.size, fun h => (by cases h), fun _ => World.rangeAt_setCells_same w q 0 X.cells ht⟩, fun _ => ⟨hc, ha⟩⟩
theorem SG.skip {L : Nat → Bool} {i kc ia is : Nat} (h1 : kc ≠ i) (h2 : ia ≠ i) (h3 : is ≠ i) (h : SG I X w0 (L kc) (L ia) (L is) v w) : SG I X w0 (upd L i true kc) (upd L i true ia) (upd L i true is) v w := by
  rwa [upd_other _ _ h1, upd_other _ _ h2, upd_other _ _ h3]
theorem SG.calls {fd : FuncId} {args : Array Value} {g kc ia is : Nat} (hc : ∀ w, I false w → Calls Try.prog fd args w fun e w' => e = .returned X.val ∧ I true w' ∧ w.grownBy w' (some g)) (hg0 : g < w0.heap.size) (n1 : ia ≠ kc) (n2 : is ≠ kc) :
    ∀ (L : Nat → Bool) v w, SG I X w0 (L kc) (L ia) (L is) v w → L kc = false → Calls Try.prog fd args w fun e w' => e = .returned X.val ∧ SG I X w0 (upd L kc true kc) (upd L kc true ia) (upd L kc true is) v w' := by
  intro L v w h hL
  have hi := h.inv
  rw [hL] at hi
  refine (hc w hi).mono ?_
  rintro e w' ⟨rfl, hi', hg⟩
  rw [upd_same, upd_other _ _ n1, upd_other _ _ n2]
  exact ⟨rfl, h.act hL hg0 hi' hg⟩
end

/-- c: the call is done; sc, se: the two variables are written. -/
structure SM (I : Bool → World → Prop) (C E : Nat) (lt : List Value) (X : Stp) (c sc se : Bool) (w : World) : Prop where
  inv : I c w
  tC : w.there C 0 lt.length
  tE : w.there E 0 X.cells.length
  stoC : sc = true → w.rangeAt C 0 lt
  stoE : se = true → w.rangeAt E 0 X.cells
  dep : se = true → c = true
section
variable {I : Bool → World → Prop} {C E : Nat} {lt : List Value} {X : Stp} {w0 w w' : World} {c sc se : Bool}
theorem SM.start (h : I false w) (hC : w.there C 0 lt.length) (hE : w.there E 0 X.cells.length) : SM I C E lt X false false false w :=
  ⟨h, hC, hE, fun h => (by cases h), fun h => (by cases h), fun h => (by cases h)⟩
theorem SM.skip {L : Nat → Bool} {i kc iC iE : Nat} (h1 : kc ≠ i) (h2 : iC ≠ i) (h3 : iE ≠ i) (h : SM I C E lt X (L kc) (L iC) (L iE) w) : SM I C E lt X (upd L i true kc) (upd L i true iC) (upd L i true iE) w := by
  rwa [upd_other _ _ h1, upd_other _ _ h2, upd_other _ _ h3]
theorem SM.calls {fd : FuncId} {args : Array Value} {kc iC iE : Nat} (hc : ∀ w, I false w → Calls Try.prog fd args w fun e w' => e = .returned X.val ∧ I true w' ∧ w'.heap[C]? = w.heap[C]? ∧ w'.heap[E]? = w.heap[E]?) (n1 : iC ≠ kc) (n2 : iE ≠ kc) :
    ∀ (L : Nat → Bool) (v : Value) w, SM I C E lt X (L kc) (L iC) (L iE) w → L kc = false → Calls Try.prog fd args w fun e w' => e = .returned X.val ∧ SM I C E lt X (upd L kc true kc) (upd L kc true iC) (upd L kc true iE) w' := by
  intro L v w h hL
  have hi := h.inv
  rw [hL] at hi
  refine (hc w hi).mono ?_
  rintro e w' ⟨rfl, hi', hC, hE⟩
  rw [upd_same, upd_other _ _ n1, upd_other _ _ n2]
  exact ⟨rfl, hi', there_block h.tC hC, there_block h.tE hE, fun h1 => rangeAt_block (h.stoC h1) hC, fun h1 => rangeAt_block (h.stoE h1) hE, fun _ => rfl⟩
theorem SM.putC (hI : ∀ c w w', Touch w w' (fun k => k = C ∨ k = E) → I c w → I c w') (hne : C ≠ E) (h : SM I C E lt X c sc se w) : w.there C 0 lt.length ∧ SM I C E lt X c true se (w.setCells C 0 lt) := by
  have tt := touch_setCells C lt 0 w
  exact ⟨h.tC, hI _ _ _ (tt.mono (fun k _ h => .inl h)) h.inv, World.there_setCells h.tC _ _ _, World.there_setCells h.tE _ _ _, fun _ => World.rangeAt_setCells_same w C 0 lt h.tC, fun h1 => World.rangeAt_setCells_apart (h.stoE h1) _ _ _ (.inl (Ne.symm hne)), h.dep⟩
theorem SM.putE (hI : ∀ c w w', Touch w w' (fun k => k = C ∨ k = E) → I c w → I c w') (hne : C ≠ E) (h : SM I C E lt X c sc se w) (hc : c = true) : w.there E 0 X.cells.length ∧ SM I C E lt X c sc true (w.setCells E 0 X.cells) := by
  have tt := touch_setCells E X.cells 0 w
  exact ⟨h.tE, hI _ _ _ (tt.mono (fun k _ h => .inr h)) h.inv, World.there_setCells h.tC _ _ _, World.there_setCells h.tE _ _ _, fun h1 => World.rangeAt_setCells_apart (h.stoC h1) _ _ _ (.inl hne), fun _ => World.rangeAt_setCells_same w E 0 X.cells h.tE, fun _ => hc⟩
end
end RG

section
variable {ev : Operand → Value} {o : Oper} {w : World}
theorem ex_fieldo {x : Operand} {b k q q' : Nat} {ty : TypeId} (ho : o.op = .fieldAddr ty x k) (hx : ev x = .pointer (some ⟨b, q', none⟩)) (hf : (Instr.fieldAt ty (.pointer (some ⟨b, q', none⟩)) k).run Try.prog w = .ok (.pointer (some ⟨b, q, none⟩)) w) : (execOp ev o).run Try.prog w = .ok (.value (.pointer (some ⟨b, q, none⟩))) w := by
  simp [execOp, ho, hx, hf]
theorem ex_r0 {x y : Operand} {b : Nat} (ho : o.op = .indexAddr 81 x y) (hx : ev x = .pointer (some ⟨b, 13, none⟩)) (hy : ev y = .int .i64 0) : (execOp ev o).run Try.prog w = .ok (.value (.pointer (some ⟨b, 13, none⟩))) w := by
  simp [execOp, ho, hx, hy, go_sem]
theorem ex_r1 {x y : Operand} {b : Nat} (ho : o.op = .indexAddr 81 x y) (hx : ev x = .pointer (some ⟨b, 13, none⟩)) (hy : ev y = .int .i64 1) : (execOp ev o).run Try.prog w = .ok (.value (.pointer (some ⟨b, 14, none⟩))) w := by
  simp [execOp, ho, hx, hy, go_sem]
theorem ex_r2 {x y : Operand} {b : Nat} (ho : o.op = .indexAddr 81 x y) (hx : ev x = .pointer (some ⟨b, 13, none⟩)) (hy : ev y = .int .i64 2) : (execOp ev o).run Try.prog w = .ok (.value (.pointer (some ⟨b, 15, none⟩))) w := by
  simp [execOp, ho, hx, hy, go_sem]
theorem ex_r3 {x y : Operand} {b : Nat} (ho : o.op = .indexAddr 81 x y) (hx : ev x = .pointer (some ⟨b, 13, none⟩)) (hy : ev y = .int .i64 3) : (execOp ev o).run Try.prog w = .ok (.value (.pointer (some ⟨b, 16, none⟩))) w := by
  simp [execOp, ho, hx, hy, go_sem]
theorem fieldK1 (w : World) (b : Nat) : (Instr.fieldAt 84 (.pointer (some ⟨b, 0, none⟩)) 1).run Try.prog w = .ok (.pointer (some ⟨b, 6, none⟩)) w := by simp [go_sem]
theorem fieldK2 (w : World) (b : Nat) : (Instr.fieldAt 84 (.pointer (some ⟨b, 0, none⟩)) 2).run Try.prog w = .ok (.pointer (some ⟨b, 7, none⟩)) w := by simp [go_sem]
theorem fieldK3 (w : World) (b : Nat) : (Instr.fieldAt 84 (.pointer (some ⟨b, 0, none⟩)) 3).run Try.prog w = .ok (.pointer (some ⟨b, 12, none⟩)) w := by simp [go_sem]
theorem fieldK4 (w : World) (b : Nat) : (Instr.fieldAt 84 (.pointer (some ⟨b, 0, none⟩)) 4).run Try.prog w = .ok (.pointer (some ⟨b, 13, none⟩)) w := by simp [go_sem]
theorem fieldJ4 (w : World) (b : Nat) : (Instr.fieldAt 61 (.pointer (some ⟨b, 7, none⟩)) 4).run Try.prog w = .ok (.pointer (some ⟨b, 11, none⟩)) w := by simp [go_sem]
theorem fieldS5 (w : World) (b : Nat) : (Instr.fieldAt 57 (.pointer (some ⟨b, 0, none⟩)) 5).run Try.prog w = .ok (.pointer (some ⟨b, 5, none⟩)) w := by simp [go_sem]
theorem agg_i (w : World) : (isAgg 3).run Try.prog w = .ok false w := by simp [go_sem]
theorem agg_u64 (w : World) : (isAgg 55).run Try.prog w = .ok false w := by simp [go_sem]
theorem agg_b (w : World) : (isAgg 4).run Try.prog w = .ok false w := by simp [go_sem]
theorem callRDo' (args : Array Value) (w : World) : (callFunc 41 args).run Try.prog w = .ok (.enter 41 args) w := by simp [go_sem]
theorem ex_equ {x y : Operand} {a b : Int} (ho : o.op = .binOp .eql 55 x y 55) (hx : ev x = .int .u64 a) (hy : ev y = .int .u64 b) : (execOp ev o).run Try.prog w = .ok (.value (.bool (a == b))) w := by
  simp [execOp, ho, hx, hy, go_sem]
end
end Go.Proofs.Ytchhkoalibapiaa

/-
  A region that draws its order, by a table of what each operation tells, with several slots whose values the invariant tells.
-/
namespace Go.Proofs.Ytchhkoalibapiaa
open Go.RowKit
set_option linter.unusedVariables false
set_option linter.unusedSimpArgs false

namespace RH
open RetN (pv D)

structure In (ks : List (Nat × Nat)) (vals : Nat → Value) (xs : List Nat) (WI : (Nat → Bool) → (Nat → Value) → World → Prop) (a0 : Act) (L : Nat → Bool) (a : Act) (w : World) : Prop where
  sz : a.tmps.size = a0.tmps.size
  df : a.defers = a0.defers
  fix : ∀ k, ¬ D ks k → xs.contains k = false → a.eval (.tmp k) = a0.eval (.tmp k)
  pure : ∀ i d v, pv ks vals i = some (d, v) → L i = true → a.eval (.tmp d) = v
  world : WI L (fun k => a.eval (.tmp k)) w

inductive Does (P : Program) (Q : Exit → Act → World → Prop) (ks : List (Nat × Nat)) (vals : Nat → Value) (xs : List Nat) (WI : (Nat → Bool) → (Nat → Value) → World → Prop) (a0 : Act) (i : Nat) (o : Oper) : Prop where
  | mk (dst : o.dst = Reg.look ks i) (wp : ∀ L a w (K : Act → World → Prop), In ks vals xs WI a0 L a w → L i = false → (∀ e ∈ o.after, Region.binds .any e = true → L e.on = true) → (∀ w' v, (∀ d, o.dst = some d → v = vals i) → WI (upd L i true) (fun k => a.eval (.tmp k)) w' → K (a.put o.dst v) w') → o.wp P a w K Q)
  | own (x : Nat) (dst : o.dst = some x) (hx : xs.contains x = true) (no : Reg.look ks i = none) (wp : ∀ L a w (K : Act → World → Prop), In ks vals xs WI a0 L a w → L i = false → (∀ e ∈ o.after, Region.binds .any e = true → L e.on = true) → (∀ w' v, WI (upd L i true) (fun k => if k = x then v else a.eval (.tmp k)) w' → K (a.put (some x) v) w') → o.wp P a w K Q)

theorem region {P : Program} {id : Nat} {ops : Array Oper} {Q : Exit → Act → World → Prop} {ks : List (Nat × Nat)} {vals : Nat → Value} {xs : List Nat} {WI : (Nat → Bool) → (Nat → Value) → World → Prop} {w0 : World} {a0 : Act}
    (hm : P.follows .mixedOrders = true) (hg : ∀ (i : Nat) (o : Oper), ops[i]? = some o → o.guard = none) (hback : ∀ (i : Nat) (o : Oper), ops[i]? = some o → ∀ e ∈ o.after, Region.binds .any e = true → e.on < i)
    (hgood : (ks.all fun p => (ks.all fun q => p.1 == q.1 || p.2 != q.2) && !xs.contains p.2) = true) (hD : ∀ k, D ks k → k < a0.tmps.size) (hX : ∀ k, xs.contains k = true → k < a0.tmps.size)
    (hloc : ∀ L s s' w, (∀ k, xs.contains k = true → s k = s' k) → WI L s w → WI L s' w) (hW0 : ∀ s, WI (fun _ => false) s { w0 with drawn := w0.drawn + 1 })
    (does : ∀ (i : Nat) (o : Oper), ops[i]? = some o → Does P Q ks vals xs WI a0 i o)
    (fin : ∀ L a w, In ks vals xs WI a0 L a w → (∀ i, i < ops.size → L i = true) → Q .normal a w) :
    (Code.region id ops true).wp P Q a0 w0 := by
  simp only [List.all_eq_true, bne_iff_ne, Bool.or_eq_true, beq_iff_eq, Bool.and_eq_true, Bool.not_eq_true'] at hgood
  have pvm : ∀ {i d v}, pv ks vals i = some (d, v) → (i, d) ∈ ks := fun {i d v} h => by
    obtain ⟨d', h1, h2⟩ := Option.map_eq_some_iff.1 h
    cases h2; exact Reg.look_mem h1
  refine region_inv hm hg hback (fun L a w => In ks vals xs WI a0 L a w) ?step (fun L a w h hall => fin L a w h hall) ?start
  case start => exact ⟨rfl, rfl, fun _ _ _ => rfl, fun _ _ _ _ h => (by cases h), hW0 _⟩
  case step =>
    rintro L a w i o h ho hL hd
    have none_ok : ∀ {j d' v'}, Reg.look ks i = none → pv ks vals j = some (d', v') → upd L i true j = true → L j = true := fun {j d' v'} hlk hj hLj => by
      have hji : j ≠ i := fun e => by
        subst e
        obtain ⟨d'', h1, _⟩ := Option.map_eq_some_iff.1 hj
        rw [hlk] at h1; cases h1
      rwa [upd_other _ _ hji] at hLj
    rcases does i o ho with ⟨hdst, hwp⟩ | ⟨x, hdst, hx, hno, hwp⟩
    · refine hwp L a w _ h hL hd (fun w' v hv hW => ?_)
      cases hlk : Reg.look ks i with
      | none =>
        rw [hdst, hlk]
        exact ⟨h.sz, h.df, h.fix, fun j d' v' hj hLj => h.pure j d' v' hj (none_ok hlk hj hLj), hW⟩
      | some d =>
        have hv' := hv d (hdst.trans hlk)
        subst hv'
        rw [hdst, hlk]
        have hm' : (i, d) ∈ ks := Reg.look_mem hlk
        have hDd : D ks d := by simp only [D, List.any_eq_true, beq_iff_eq]; exact ⟨_, hm', rfl⟩
        have e : ∀ k : Nat, k ≠ d → (a.put (some d) (vals i)).eval (.tmp k) = a.eval (.tmp k) := fun k hk => put_other hk
        refine ⟨by rw [put_size]; exact h.sz, by rw [put_defs]; exact h.df, fun k hk hkx => ?_, fun j d' v' hj hLj => ?_, hloc _ _ _ _ (fun k hk => (e k (fun he => by subst he; rw [(hgood _ hm').2] at hk; cases hk)).symm) hW⟩
        · rw [e k (fun he => hk (he ▸ hDd))]; exact h.fix k hk hkx
        · by_cases hij : j = i
          · subst hij
            rw [pv, hlk] at hj
            cases hj
            exact put_eval (by rw [h.sz]; exact hD _ hDd)
          · rw [upd_other _ _ hij] at hLj
            have : d' ≠ d := by
              rcases (hgood _ hm').1 _ (pvm hj) with e1 | e1
              · exact absurd e1.symm hij
              · exact Ne.symm e1
            rw [e d' this]
            exact h.pure j d' v' hj hLj
    · refine hwp L a w _ h hL hd (fun w' v hW => ?_)
      have e : ∀ k : Nat, k ≠ x → (a.put (some x) v).eval (.tmp k) = a.eval (.tmp k) := fun k hk => put_other hk
      have ex : (a.put (some x) v).eval (.tmp x) = v := put_eval (by rw [h.sz]; exact hX x hx)
      refine ⟨by rw [put_size]; exact h.sz, by rw [put_defs]; exact h.df, fun k hk hkx => by rw [e k (fun he => by subst he; rw [hx] at hkx; cases hkx)]; exact h.fix k hk hkx, fun j d' v' hj hLj => ?_, hloc _ _ _ _ (fun k hk => ?_) hW⟩
      · rw [e d' (fun he => by subst he; have := (hgood _ (pvm hj)).2; rw [hx] at this; cases this)]
        exact h.pure j d' v' hj (none_ok hno hj hLj)
      · by_cases he : k = x
        · subst he; simp [ex]
        · simp [he, e k he]

section
variable {P : Program} {Q : Exit → Act → World → Prop} {ks : List (Nat × Nat)} {vals : Nat → Value} {xs : List Nat} {WI : (Nat → Bool) → (Nat → Value) → World → Prop} {a0 : Act} {i : Nat} {o : Oper}
theorem Does.read (hd : o.dst = Reg.look ks i) (hW : ∀ L s w, WI L s w → WI (upd L i true) s w) (h : ∀ L a w, In ks vals xs WI a0 L a w → (∀ e ∈ o.after, Region.binds .any e = true → L e.on = true) → (execOp a.eval o).run P w = .ok (.value (vals i)) w) : Does P Q ks vals xs WI a0 i o :=
  .mk hd fun L a w K hI _ hdep hk => wp_value (h L a w hI hdep) (hk w _ (fun _ _ => rfl) (hW L _ w hI.world))
/-- A call whose answer the invariant tells. -/
theorem Does.call {x : Nat} {f : FuncId} {args : Array Value} (hd : o.dst = some x) (hx : xs.contains x = true) (hn : Reg.look ks i = none) (h : ∀ L a w, In ks vals xs WI a0 L a w → (∀ e ∈ o.after, Region.binds .any e = true → L e.on = true) → (execOp a.eval o).run P w = .ok (.enter f args) w)
    (hc : ∀ L s w, WI L s w → L i = false → Calls P f args w fun e w' => ∃ v, e = .returned v ∧ WI (upd L i true) (fun k => if k = x then v else s k) w') : Does P Q ks vals xs WI a0 i o :=
  .own x hd hx hn fun L a w K hI hL hdep hk => wp_call (h L a w hI hdep) ((hc L _ w hI.world hL).mono (by rintro e w' ⟨v, rfl, hw⟩; exact ⟨_, rfl, by rw [hd]; exact hk _ _ hw⟩))
/-- A slot of the invariant's, told anew in another. -/
theorem Does.copy {x y : Nat} (hd : o.dst = some x) (hx : xs.contains x = true) (hn : Reg.look ks i = none) (ho : o.op = .assign (.tmp y)) (hP : ∀ (ev : Operand → Value) (w : World), (execOp ev o).run P w = .ok (.value (ev (.tmp y))) w)
    (hw : ∀ L s w, WI L s w → L i = false → (∀ e ∈ o.after, Region.binds .any e = true → L e.on = true) → WI (upd L i true) (fun k => if k = x then s y else s k) w) : Does P Q ks vals xs WI a0 i o :=
  .own x hd hx hn fun L a w K hI hL hdep hk => wp_value (hP a.eval w) (by rw [hd]; exact hk _ _ (hw L _ w hI.world hL hdep))
end
end RH
end Go.Proofs.Ytchhkoalibapiaa

/-
  From a walk to a law's statement, whatever the law's arguments: where the call answers true and turns nothing below the heap's old size, the arguments read as they did, and the row's step holds.
-/
namespace Go.Proofs.Ytchhkoalibapiaa
namespace Lift
open Go.ChangeShapes Go.WideShapes Go.ChangeAt Go.RowKit
set_option linter.unusedVariables false

theorem own : ownKnob Try.prog.godebug = none := by kernel_rfl
theorem laidOut : laidOutB Try.prog = true := by kernel_rfl

/-- All arguments read behind the call as they read before it. -/
theorem trodAll_below {H : Type} {enc : TypeId × Value → H} {P : Program} (hl : laidOutB P = true) {W W' : World} (hb : Below W.heap.size W W') :
    ∀ (ts : List TypeId) (vs : List Value) (ds : List (DataW H)) (p : List MemPlace), (ts.all fun t => P.readableRec t && decide (t < P.types.size)) = true →
      DataW.TrodAll enc P W 0 (fun _ => true) true ts vs ds p → DataW.TrodAll enc P W' 0 (fun b => decide (b < W.heap.size)) true ts vs ds p := by
  intro ts
  induction ts with
  | nil =>
    intro vs ds p _ h
    obtain ⟨rfl, rfl, rfl⟩ := trodAll_nil h
    exact trodAll_mk0
  | cons t ts ih =>
    intro vs ds p hr h
    obtain ⟨v, vs', d, ds', p1, q1, rfl, rfl, rfl, h1, h2⟩ := trodAll_cons h
    simp only [List.all_cons, Bool.and_eq_true, decide_eq_true_eq] at hr
    have lt : ∀ x ∈ p1, x.block < W.heap.size := by obtain ⟨m, hm⟩ := h1; exact DataW.trod_lt m _ _ _ hm
    exact trodAll_cons_mk (Below.trod hl hr.1.1 hr.1.2 h1 hb lt) (ih vs' ds' q1 hr.2 h2)

/-- What a law's specification says: the answer is true, the arguments are as they were. -/
structure IsLaw (s : ChangeSpec) (n : Nat) : Prop where
  vars : s.vars = []
  fn : ∀ (H : Type) (ds : List (DataW H)), ds.length = n → s.fn H (ds ++ []) = { results := [.lit (.bool true)], args := ds }

theorem trodAll_length {H : Type} {enc : TypeId × Value → H} {P : Program} {w : World} {base : Nat} {spare : Nat → Bool} {held : Bool} :
    ∀ (ts : List TypeId) (vs : List Value) (ds : List (DataW H)) (p : List MemPlace), DataW.TrodAll enc P w base spare held ts vs ds p → ds.length = ts.length := by
  intro ts
  induction ts with
  | nil => intro vs ds p h; obtain ⟨rfl, rfl, rfl⟩ := trodAll_nil h; rfl
  | cons t ts ih =>
    intro vs ds p h
    obtain ⟨v, vs', d, ds', p1, q1, rfl, rfl, rfl, h1, h2⟩ := trodAll_cons h
    simp [ih vs' ds' q1 h2]

/-- The step from the walk to the row's 'post'. -/
theorem contract {H : Type} (enc : TypeId × Value → H) {f : FuncId} {fn : Func} {s : ChangeSpec} {tb : TypeId} (hs : IsLaw s fn.params.size)
    (hr : (fn.params.toList.all fun t => Try.prog.readableRec t && decide (t < Try.prog.types.size)) = true) (hres : fn.resultTypes = #[tb]) (htb : Try.prog.underlying tb = some .bool)
    (W : World) (args : Array Value) (ds gs : List (DataW H)) (before : List MemPlace)
    (hW : DataW.Whole enc Try.prog fn.params.toList s.vars false W args.toList ds gs before)
    (walk : ∀ p, DataW.TrodAll enc Try.prog W 0 (fun _ => true) true fn.params.toList args.toList ds p → Calls Try.prog f args W fun e W' => e = .returned (.bool true) ∧ Below W.heap.size W W') :
    Calls Try.prog f args W fun e W' => ∃ v, e = .returned v ∧ s.post enc Try.prog fn false true false false W args v W' := by
  have hW' := hW
  obtain ⟨p, q, hA, hV, rfl, hfz, hnd⟩ := hW
  have hn := trodAll_length _ _ _ _ hA
  rw [hs.vars] at hV
  obtain ⟨rfl, rfl⟩ := trodVars_none hV
  have he := hs.fn H ds (by simpa using hn)
  refine (walk p hA).mono fun e W' ⟨hee, bel⟩ => ?_
  subst hee
  refine ⟨_, rfl, ds, [], _, [], p, [], hW', ?_, ?_, ?_, bel.frame _, fun h => by cases h⟩
  · rw [he, hres]
    exact trodAll_mk1 (shut_bool htb _)
  · rw [he]
    exact trodAll_below laidOut bel _ _ _ _ hr hA
  · rw [he, hs.vars]
    rfl

/-- A call that starts nothing ends alone: so all the others, there being none, are only leaving. -/
theorem leaving {a : Assume} {C : Checked} {os : Os} {f : FuncId} {r : Reach} {Pre : World → Array Value → Prop} {Post : World → Array Value → Value → World → Prop} (h : ReturnsInHanded a C os f r Pre Post) : ReturnsInLeavingWide a C os f r Pre Post := fun enter => by
  obtain ⟨h1, h2, h3, h4, h5⟩ := h enter
  refine ⟨h1, h2, h3, h4, fun w tape i hf => ?_⟩
  obtain ⟨n, v, w', e1, e2, e3, e4, ⟨j, last, e5, e6, q, ho, eh⟩, e8⟩ := h5 w tape i hf
  exact ⟨n, v, w', e1, e2, e3, e4, ⟨j, last, e5, e6, ho, onlyLeaving_of_quiet q, eh⟩, e8⟩
end Lift
end Go.Proofs.Ytchhkoalibapiaa
