/-
  Lemmas: RG, RGR, RGX, Lb, ShapeN0.
-/
import Derived.Test.YtppgbndoijppnaaGreatTp21
import Derived.Test.YtppgbndoijppnaaGreatTp13
import Derived.Test.YtppgbndoijppnaaGreatRows
namespace Go.Proofs.YtppgbndoijppnaaGreat
set_option maxHeartbeats 8000000
open Go.RowKit
set_option linter.unusedVariables false
set_option linter.unusedSimpArgs false
set_option maxRecDepth 20000
section
namespace RG
open RetN (pv D)
structure In (ks : List (Nat × Nat)) (vals : Nat → Value) (x : Nat) (WI : (Nat → Bool) → Value → World → Prop) (a0 : Act) (L : Nat → Bool) (a : Act) (w : World) : Prop where
 sz : a.tmps.size = a0.tmps.size
 df : a.defers = a0.defers
 fix : ∀ k, ¬ D ks k → k ≠ x → a.eval (.tmp k) = a0.eval (.tmp k)
 pure : ∀ i d v, pv ks vals i = some (d, v) → L i = true → a.eval (.tmp d) = v
 world : WI L (a.eval (.tmp x)) w
inductive Does (P : Program) (Q : Exit → Act → World → Prop) (ks : List (Nat × Nat)) (vals : Nat → Value) (x : Nat) (WI : (Nat → Bool) → Value → World → Prop) (a0 : Act) (i : Nat) (o : Oper) : Prop where
 | mk (dst : o.dst = Reg.look ks i) (wp : ∀ L a w (K : Act → World → Prop), In ks vals x WI a0 L a w → L i = false → (∀ e ∈ o.after, Region.binds .any e = true → L e.on = true) → (∀ w' v, (∀ d, o.dst = some d → v = vals i) → WI (upd L i true) (a.eval (.tmp x)) w' → K (a.put o.dst v) w') → o.wp P a w K Q)
 | own (dst : o.dst = some x) (no : Reg.look ks i = none) (wp : ∀ L a w (K : Act → World → Prop), In ks vals x WI a0 L a w → L i = false → (∀ e ∈ o.after, Region.binds .any e = true → L e.on = true) → (∀ w' v, WI (upd L i true) v w' → K (a.put (some x) v) w') → o.wp P a w K Q)
theorem region {P : Program} {id : Nat} {ops : Array Oper} {Q : Exit → Act → World → Prop} {ks : List (Nat × Nat)} {vals : Nat → Value} {x : Nat} {WI : (Nat → Bool) → Value → World → Prop} {w0 : World} {a0 : Act}
  (hm : P.follows .mixedOrders = true) (hg : ∀ (i : Nat) (o : Oper), ops[i]? = some o → o.guard = none) (hback : ∀ (i : Nat) (o : Oper), ops[i]? = some o → ∀ e ∈ o.after, Region.binds .any e = true → e.on < i)
  (hgood : (ks.all fun p => (ks.all fun q => p.1 == q.1 || p.2 != q.2) && p.2 != x) = true) (hD : ∀ k, D ks k → k < a0.tmps.size) (hx : x < a0.tmps.size) (hW0 : WI (fun _ => false) (a0.eval (.tmp x)) { w0 with drawn := w0.drawn + 1 })
  (does : ∀ (i : Nat) (o : Oper), ops[i]? = some o → Does P Q ks vals x WI a0 i o)
  (fin : ∀ L a w, In ks vals x WI a0 L a w → (∀ i, i < ops.size → L i = true) → Q .normal a w) :
  (Code.region id ops true).wp P Q a0 w0 := by
 simp only [List.all_eq_true, bne_iff_ne, Bool.or_eq_true, beq_iff_eq, Bool.and_eq_true] at hgood
 have pvm : ∀ {i d v}, pv ks vals i = some (d, v) → (i, d) ∈ ks := fun {i d v} h => by
  obtain ⟨d', h1, h2⟩ := Option.map_eq_some_iff.1 h
  cases h2; exact Reg.look_mem h1
 refine region_inv hm hg hback (fun L a w => In ks vals x WI a0 L a w) ?step (fun L a w h hall => fin L a w h hall) ?start
 case start => exact ⟨rfl, rfl, fun _ _ _ => rfl, fun _ _ _ _ h => (by cases h), hW0⟩
 case step =>
  rintro L a w i o h ho hL hd
  have none_ok : ∀ {j d' v'}, Reg.look ks i = none → pv ks vals j = some (d', v') → upd L i true j = true → L j = true := fun {j d' v'} hlk hj hLj => by
   have hji : j ≠ i := fun e => by
    subst e
    obtain ⟨d'', h1, _⟩ := Option.map_eq_some_iff.1 hj
    rw [hlk] at h1; cases h1
   rwa [upd_other _ _ hji] at hLj
  rcases does i o ho with ⟨hdst, hwp⟩ | ⟨hdst, hno, hwp⟩
  ·refine hwp L a w _ h hL hd (fun w' v hv hW => ?_)
   cases hlk : Reg.look ks i with
   | none =>
    rw [hdst, hlk]
    exact ⟨h.sz, h.df, h.fix, fun j d' v' hj hLj => h.pure j d' v' hj (none_ok hlk hj hLj), hW⟩
   | some d =>
    have hv' := hv d (hdst.trans hlk)
    subst hv'
    rw [hdst, hlk]
    have hm' : (i, d) ∈ ks := Reg.look_mem hlk
    have hDd : D ks d := by simp only [D, List.any_eq_true, beq_iff_eq]; exact ⟨_, hm', rfl⟩
    have e : ∀ k : Nat, k ≠ d → (a.put (some d) (vals i)).eval (.tmp k) = a.eval (.tmp k) := fun k hk => put_other hk
    refine ⟨by rw [put_size]; exact h.sz, by rw [put_defs]; exact h.df, fun k hk hkx => ?_, fun j d' v' hj hLj => ?_, by rw [e x (Ne.symm (hgood _ hm').2)]; exact hW⟩
    ·rw [e k (fun he => hk (he ▸ hDd))]; exact h.fix k hk hkx
    ·by_cases hij : j = i
     ·subst hij
      rw [pv, hlk] at hj
      cases hj
      exact put_eval (by rw [h.sz]; exact hD _ hDd)
     ·rw [upd_other _ _ hij] at hLj
      have : d' ≠ d := by
       rcases (hgood _ hm').1 _ (pvm hj) with e1 | e1
       ·exact absurd e1.symm hij
       ·exact Ne.symm e1
      rw [e d' this]
      exact h.pure j d' v' hj hLj
  ·refine hwp L a w _ h hL hd (fun w' v hW => ?_)
   have e : ∀ k : Nat, k ≠ x → (a.put (some x) v).eval (.tmp k) = a.eval (.tmp k) := fun k hk => put_other hk
   refine ⟨by rw [put_size]; exact h.sz, by rw [put_defs]; exact h.df, fun k hk hkx => by rw [e k hkx]; exact h.fix k hk hkx, fun j d' v' hj hLj => ?_, by rw [put_eval (by rw [h.sz]; exact hx)]; exact hW⟩
   rw [e d' (hgood _ (pvm hj)).2]
   exact h.pure j d' v' hj (none_ok hno hj hLj)
section
variable {P : Program} {Q : Exit → Act → World → Prop} {ks : List (Nat × Nat)} {vals : Nat → Value} {x : Nat} {WI : (Nat → Bool) → Value → World → Prop} {a0 : Act} {i : Nat} {o : Oper}
theorem Does.read (hd : o.dst = Reg.look ks i) (hW : ∀ L v w, WI L v w → WI (upd L i true) v w) (h : ∀ L a w, In ks vals x WI a0 L a w → (∀ e ∈ o.after, Region.binds .any e = true → L e.on = true) → (execOp a.eval o).run P w = .ok (.value (vals i)) w) : Does P Q ks vals x WI a0 i o :=
 .mk hd fun L a w K hI _ hdep hk => wp_value (h L a w hI hdep) (hk w _ (fun _ _ => rfl) (hW L _ w hI.world))
theorem Does.ask {f : FuncId} {args : Array Value} (hd : o.dst = Reg.look ks i) (hW : ∀ L v w, WI L v w → WI (upd L i true) v w) (h : ∀ L a w, In ks vals x WI a0 L a w → (∀ e ∈ o.after, Region.binds .any e = true → L e.on = true) → (execOp a.eval o).run P w = .ok (.enter f args) w)
  (hc : ∀ w, Calls P f args w fun e w' => e = .returned (vals i) ∧ w' = w) : Does P Q ks vals x WI a0 i o :=
 .mk hd fun L a w K hI _ hdep hk => wp_call (h L a w hI hdep) ((hc w).mono (by rintro e w' ⟨rfl, rfl⟩; exact ⟨_, rfl, hk _ _ (fun _ _ => rfl) (hW L _ _ hI.world)⟩))
theorem Does.call {f : FuncId} {args : Array Value} (hd : o.dst = Reg.look ks i) (h : ∀ L a w, In ks vals x WI a0 L a w → (∀ e ∈ o.after, Region.binds .any e = true → L e.on = true) → (execOp a.eval o).run P w = .ok (.enter f args) w)
  (hc : ∀ L v w, WI L v w → L i = false → Calls P f args w fun e w' => e = .returned (vals i) ∧ WI (upd L i true) v w') : Does P Q ks vals x WI a0 i o :=
 .mk hd fun L a w K hI hL hdep hk => wp_call (h L a w hI hdep) ((hc L _ w hI.world hL).mono (by rintro e w' ⟨rfl, hw⟩; exact ⟨_, rfl, hk _ _ (fun _ _ => rfl) hw⟩))
theorem Does.make {u : World → Value} {g : World → World} (hd : o.dst = some x) (hn : Reg.look ks i = none) (h : ∀ (ev : Operand → Value) w, (execOp ev o).run P w = .ok (.value (u w)) (g w))
  (hw : ∀ L v w, WI L v w → L i = false → WI (upd L i true) (u w) (g w)) : Does P Q ks vals x WI a0 i o :=
 .own hd hn fun L a w K hI hL hdep hk => wp_value (h a.eval w) (by rw [hd]; exact hk _ _ (hw L _ w hI.world hL))
theorem Does.put {ty : TypeId} {y z : Operand} {ls : List Value} (hd : o.dst = none) (hn : Reg.look ks i = none) (hop : o.op = .store ty y z) (hsz : (P.info? ty).map (·.size) = some ls.length) (h1 : ∀ u ∈ ls, u.oneCell' = true)
  (h : ∀ L a w, In ks vals x WI a0 L a w → L i = false → (∀ e ∈ o.after, Region.binds .any e = true → L e.on = true) → a.eval z = .agg ls.toArray ∧ ∃ b off, a.eval y = .pointer (some ⟨b, off, none⟩) ∧ w.there b off ls.length ∧ WI (upd L i true) (a.eval (.tmp x)) (w.setCells b off ls)) : Does P Q ks vals x WI a0 i o :=
 .mk (hd.trans hn.symm) fun L a w K hI hL hdep hk => by
  obtain ⟨py, b, off, px, ht, hW⟩ := h L a w hI hL hdep
  refine wp_store_mid ty y z hop b off ls.toArray px py (by simpa using ht) (by simpa using hsz) (all_oneCell_toArray h1) ?_
  exact hk _ _ (fun d hd' => by rw [hd] at hd'; cases hd') hW
end
structure SW (b T nc : Nat) (C : Nat → Value) (bm bw n : Nat) (f f' : Nat → Int) (X : Stp) (r : Nat) (w0 : World) (c al st : Bool) (v : Value) (w : World) : Prop where
 row : w.rowIs b T nc C
 mem : IsMem w bm bw n (if c = true then f' else f)
 res : w.rowIs r 69 6 zcell
 tch : Touch w0 w (fun k => k = bw)
 lts : b < w0.heap.size ∧ bm < w0.heap.size ∧ bw < w0.heap.size ∧ r < w0.heap.size
 own : al = true → ∃ q, v = .pointer (some ⟨q, 0, none⟩) ∧ w0.heap.size ≤ q ∧ q < w.heap.size ∧ (st = false → w.rowIs q 69 6 zcell) ∧ (st = true → w.rangeAt q 0 X.cells)
 dep : st = true → c = true ∧ al = true
section
variable {b T nc : Nat} {C : Nat → Value} {bm bw n : Nat} {f f' : Nat → Int} {X : Stp} {r : Nat} {w0 w w' : World} {c al st : Bool} {v : Value}
theorem SW.start (h : w0.rowIs b T nc C) (hm : IsMem w0 bm bw n f) (hr : w0.rowIs r 69 6 zcell) : SW b T nc C bm bw n f f' X r w0 false false false v { w0 with drawn := w0.drawn + 1 } :=
 ⟨h.drew, hm.drew, hr.drew, (Touch.refl w0 _).drew, ⟨h.lt, hm.head.lt, hm.row.lt, hr.lt⟩, fun h => (by cases h), fun h => (by cases h)⟩
theorem SW.make (h : SW b T nc C bm bw n f f' X r w0 c al st v w) (hal : al = false) :
  SW b T nc C bm bw n f f' X r w0 c true st (.pointer (some ⟨w.heap.size, 0, none⟩)) (w.alloc (.cells [Value.int .i64 0, .int .i64 0, .int .i64 0, .int .u64 0, .int .u64 0, .bool false].toArray 69)) := by
 have hst : st = false := by
  cases hs : st with
  | false => rfl
  | true => have := (h.dep hs).2; rw [hal] at this; cases this
 subst hst
 exact ⟨h.row.alloc _, h.mem.alloc _, h.res.alloc _, h.tch.alloc _, h.lts, fun _ => ⟨_, rfl, h.tch.size, by simp, fun _ => row0 w, fun h => (by cases h)⟩, fun h => (by cases h)⟩
theorem SW.act (h : SW b T nc C bm bw n f f' X r w0 c al st v w) (hc : c = false) (hb : b ≠ bw) (hr : r ≠ bw) (hm : IsMem w' bm bw n f') (hg : w.grownBy w' (some bw)) :
  SW b T nc C bm bw n f f' X r w0 true al st v w' := by
 have hst : st = false := by
  cases hs : st with
  | false => rfl
  | true => have := (h.dep hs).1; rw [hc] at this; cases this
 subst hst
 refine ⟨h.row.of_block (hg.block b h.row.lt (by simpa using hb)), by simpa using hm, h.res.of_block (hg.block r h.res.lt (by simpa using hr)), h.tch.trans' (Touch.of_grown hg) (fun k _ e => by simpa using e), h.lts, fun ha => ?_, fun h => (by cases h)⟩
 obtain ⟨q, e, hq, hq2, hrow, _⟩ := h.own ha
 have hl := h.lts
 exact ⟨q, e, hq, Nat.lt_of_lt_of_le hq2 hg.size, fun _ => (hrow rfl).of_block (hg.block q hq2 (by simp; omega)), fun h => (by cases h)⟩
theorem SW.put (h : SW b T nc C bm bw n f f' X r w0 c al st v w) (hc : c = true) (ha : al = true) (hst : st = false) :
  ∃ q, v = .pointer (some ⟨q, 0, none⟩) ∧ w.there q 0 X.cells.length ∧ SW b T nc C bm bw n f f' X r w0 c al true v (w.setCells q 0 X.cells) := by
 obtain ⟨q, e, hq, hq2, hrow, _⟩ := h.own ha
 have hl := h.lts
 have ht : w.there q 0 X.cells.length := rowIs.there (hrow hst) (by simp [Stp.cells])
 have tt := touch_setCells q X.cells 0 w
 refine ⟨q, e, ht, h.row.of_block (tt.block _ h.row.lt (by omega)), ⟨h.mem.head.of_block (tt.block _ h.mem.head.lt (by omega)), h.mem.row.of_block (tt.block _ h.mem.row.lt (by omega)), h.mem.most, h.mem.word⟩, h.res.of_block (tt.block _ h.res.lt (by omega)), h.tch.trans' tt (fun k hk h => by omega), h.lts, fun _ => ⟨q, e, hq, Nat.lt_of_lt_of_le hq2 tt.size, fun h => (by cases h), fun _ => World.rangeAt_setCells_same w q 0 X.cells ht⟩, fun _ => ⟨hc, ha⟩⟩
theorem SW.skip {L : Nat → Bool} {i kc ia is : Nat} (h1 : kc ≠ i) (h2 : ia ≠ i) (h3 : is ≠ i) (h : SW b T nc C bm bw n f f' X r w0 (L kc) (L ia) (L is) v w) : SW b T nc C bm bw n f f' X r w0 (upd L i true kc) (upd L i true ia) (upd L i true is) v w := by
 rwa [upd_other _ _ h1, upd_other _ _ h2, upd_other _ _ h3]
theorem SW.skip2 {L : Nat → Bool} {i kc : Nat} (h1 : kc ≠ i) (h : SW b T nc C bm bw n f f' X r w0 (L kc) al st v w) : SW b T nc C bm bw n f f' X r w0 (upd L i true kc) al st v w := by
 rwa [upd_other _ _ h1]
end
end RG
theorem ex_convu {ev : Operand → Value} {o : Oper} {w : World} {x : Operand} {v : Int} (ho : o.op = .convert 3 50 x) (hx : ev x = .int .i64 v) (h0 : 0 ≤ v) (h1 : v ≤ 18446744073709551615) : (execOp ev o).run Tryz.prog w = .ok (.value (.int .u64 v)) w := by
 have : IntKind.u64.wrap v = v := by rw [IntKind.wrap_u64]; omega
 simp [execOp, ho, hx, go_sem, this]
theorem call1 {ev : Operand → Value} {o : Oper} {w : World} {f : FuncId} {x0 : Operand} {ts : Array TypeId} {v0 : Value} (ho : o.op = Op.call { callee := Callee.value (Operand.func f), args := #[x0], argTypes := ts }) (h0 : ev x0 = v0) (hf : ev (Operand.func f) = .func (.func f) #[] #[]) (hcf : (callFunc f #[v0]).run Tryz.prog w = .ok (.enter f #[v0]) w) :
  (execOp ev o).run Tryz.prog w = .ok (.enter f #[v0]) w := by
 simp [execOp, ho, h0, hf, resolve, invoke, go_sem, hcf]
end
section
namespace RG
structure SR (b T nc : Nat) (C : Nat → Value) (bm bw n : Nat) (f f' : Nat → Int) (X : Stp) (r : Nat) (w0 : World) (c st : Bool) (w : World) : Prop where
 row : w.rowIs b T nc C
 mem : IsMem w bm bw n (if c = true then f' else f)
 tch : Touch w0 w (fun k => k = bw ∨ k = r)
 lts : b < w0.heap.size ∧ bm < w0.heap.size ∧ bw < w0.heap.size ∧ r < w0.heap.size
 thr : w.there r 0 X.cells.length
 sto : st = true → w.rangeAt r 0 X.cells
 dep : st = true → c = true
section
variable {b T nc : Nat} {C : Nat → Value} {bm bw n : Nat} {f f' : Nat → Int} {X : Stp} {r : Nat} {w0 w w' : World} {c st : Bool}
theorem SR.put (h : SR b T nc C bm bw n f f' X r w0 c st w) (hc : c = true) (hb : b ≠ r) (hm : bm ≠ r) (hw : bw ≠ r) : w.there r 0 X.cells.length ∧ SR b T nc C bm bw n f f' X r w0 c true (w.setCells r 0 X.cells) := by
 have tt := touch_setCells r X.cells 0 w
 exact ⟨h.thr, h.row.of_block (tt.block _ h.row.lt hb), ⟨h.mem.head.of_block (tt.block _ h.mem.head.lt hm), h.mem.row.of_block (tt.block _ h.mem.row.lt hw), h.mem.most, h.mem.word⟩, h.tch.trans' tt (fun k hk h => .inr h), h.lts, World.there_setCells h.thr _ _ _, fun _ => World.rangeAt_setCells_same w r 0 X.cells h.thr, fun _ => hc⟩
theorem SR.skip {L : Nat → Bool} {i kc is : Nat} (h1 : kc ≠ i) (h3 : is ≠ i) (h : SR b T nc C bm bw n f f' X r w0 (L kc) (L is) w) : SR b T nc C bm bw n f f' X r w0 (upd L i true kc) (upd L i true is) w := by
 rwa [upd_other _ _ h1, upd_other _ _ h3]
end
end RG
end
section
namespace RG
structure SX (b T nc : Nat) (C : Bool → Bool → Nat → Value) (bm bw n : Nat) (f f' : Nat → Int) (X : Stp) (r : Nat) (q : Option Nat) (w0 : World) (c g st : Bool) (w : World) : Prop where
 row : w.rowIs b T nc (C c g)
 mem : IsMem w bm bw n (if c = true then f' else f)
 var : ∀ k, q = some k → w.rangeAt k 0 X.cells ∧ k < w0.heap.size ∧ k ≠ b ∧ k ≠ bw ∧ k ≠ r
 tch : Touch w0 w (fun k => k = b ∨ k = bw ∨ k = r)
 lts : b < w0.heap.size ∧ bm < w0.heap.size ∧ bw < w0.heap.size ∧ r < w0.heap.size
 ne : b ≠ bm ∧ b ≠ bw ∧ r ≠ b ∧ r ≠ bm ∧ r ≠ bw
 thr : w.there r 0 X.cells.length
 sto : st = true → w.rangeAt r 0 X.cells
 res : st = false → w.rowIs r 69 6 zcell
section
variable {b T nc : Nat} {C : Bool → Bool → Nat → Value} {bm bw n : Nat} {f f' : Nat → Int} {X : Stp} {r : Nat} {q : Option Nat} {w0 w w' : World} {c g st : Bool}
theorem SX.start {c g : Bool} (h : w0.rowIs b T nc (C c g)) (hm : IsMem w0 bm bw n (if c = true then f' else f)) (hr : w0.rowIs r 69 6 zcell) (hn : b ≠ bm ∧ b ≠ bw ∧ r ≠ b ∧ r ≠ bm ∧ r ≠ bw) (hq : ∀ k, q = some k → w0.rangeAt k 0 X.cells ∧ k < w0.heap.size ∧ k ≠ b ∧ k ≠ bw ∧ k ≠ r) :
  SX b T nc C bm bw n f f' X r q w0 c g false { w0 with drawn := w0.drawn + 1 } :=
 ⟨h.drew, hm.drew, fun k e => ⟨rangeAt_block (hq k e).1 rfl, (hq k e).2⟩, (Touch.refl w0 _).drew, ⟨h.lt, hm.head.lt, hm.row.lt, hr.lt⟩, hn, rowIs.there (hr.drew) (by simp [Stp.cells]), fun h => (by cases h), fun _ => hr.drew⟩
theorem SX.turn {c' g' : Bool} {S : Nat → Prop} (h : SX b T nc C bm bw n f f' X r q w0 c g st w) (hrow : w'.rowIs b T nc (C c' g')) (hm : IsMem w' bm bw n (if c' = true then f' else f)) (ht : Touch w w' S) (hS : ∀ k, S k → k = b ∨ k = bw) : SX b T nc C bm bw n f f' X r q w0 c' g' st w' := by
 have hl := h.lts
 have hn := h.ne
 have hs := h.tch.size
 have no : ∀ k, k ≠ b → k ≠ bw → ¬ S k := fun k h1 h2 h3 => by rcases hS k h3 with e | e; exact h1 e; exact h2 e
 exact ⟨hrow, hm, fun k e => by obtain ⟨a1, a2, a3, a4, a5⟩ := h.var k e; exact ⟨rangeAt_block a1 (ht.block k (by omega) (no k a3 a4)), a2, a3, a4, a5⟩, h.tch.trans' ht (fun k _ e => by rcases hS k e with e | e; exact .inl e; exact .inr (.inl e)), hl, hn, there_block h.thr (ht.block r (by omega) (no r hn.2.2.1 hn.2.2.2.2)), fun e => rangeAt_block (h.sto e) (ht.block r (by omega) (no r hn.2.2.1 hn.2.2.2.2)), fun e => (h.res e).of_block (ht.block r (by omega) (no r hn.2.2.1 hn.2.2.2.2))⟩
theorem SX.put (h : SX b T nc C bm bw n f f' X r q w0 c g st w) : w.there r 0 X.cells.length ∧ SX b T nc C bm bw n f f' X r q w0 c g true (w.setCells r 0 X.cells) := by
 have tt := touch_setCells r X.cells 0 w
 have hl := h.lts
 have hn := h.ne
 have hs := h.tch.size
 exact ⟨h.thr, h.row.of_block (tt.block _ h.row.lt (fun e => hn.2.2.1 e.symm)), ⟨h.mem.head.of_block (tt.block _ h.mem.head.lt (fun e => hn.2.2.2.1 e.symm)), h.mem.row.of_block (tt.block _ h.mem.row.lt (fun e => hn.2.2.2.2 e.symm)), h.mem.most, h.mem.word⟩, fun k e => by obtain ⟨a1, a2, a3, a4, a5⟩ := h.var k e; exact ⟨rangeAt_block a1 (tt.block k (by omega) a5), a2, a3, a4, a5⟩, h.tch.trans' tt (fun k hk h => .inr (.inr h)), hl, hn, World.there_setCells h.thr _ _ _, fun _ => World.rangeAt_setCells_same w r 0 X.cells h.thr, fun h => (by cases h)⟩
theorem SX.skip {L : Nat → Bool} {i kc kg is : Nat} (h1 : kc ≠ i) (h2 : kg ≠ i) (h3 : is ≠ i) (h : SX b T nc C bm bw n f f' X r q w0 (L kc) (L kg) (L is) w) : SX b T nc C bm bw n f f' X r q w0 (upd L i true kc) (upd L i true kg) (upd L i true is) w := by
 rwa [upd_other _ _ h1, upd_other _ _ h2, upd_other _ _ h3]
theorem SX.skip2 {L : Nat → Bool} {i kg is : Nat} (h2 : kg ≠ i) (h3 : is ≠ i) (h : SX b T nc C bm bw n f f' X r q w0 c (L kg) (L is) w) : SX b T nc C bm bw n f f' X r q w0 c (upd L i true kg) (upd L i true is) w := by
 rwa [upd_other _ _ h2, upd_other _ _ h3]
end
end RG
theorem ex_func {ev : Operand → Value} {o : Oper} {w : World} {F : FuncId} {x : Operand} {v : Value} (ho : o.op = .makeFunc (Fn.func F) #[x] #[]) (hx : ev x = v) : (execOp ev o).run Tryz.prog w = .ok (.value (.func (.func F) #[v] #[])) w := by
 simp [execOp, ho, hx, go_sem]
end
section
end
section
open Go
namespace Shape
structure Sh where
 o : Nat
 s : Nat
 h : Nat
 r : Nat
 k : Nat
structure Sh.Ok (x : Sh) : Prop where
 o1 : 1 ≤ x.o
 o2 : x.o ≤ 64
 s2 : x.s ≤ 4
 h1 : 1 ≤ x.h
 h2 : x.h ≤ 7
 r1 : 1 ≤ x.r
 r2 : x.r ≤ 8
 k2 : x.k ≤ 16
def bR (x : Sh) : Nat := 8 + x.h
def bK (x : Sh) : Nat := bR x + x.h * x.r
def bO (x : Sh) : Nat := bK x + x.k
def ow (x : Sh) : Nat := 3 + x.s
def size (x : Sh) : Nat := bO x + x.o * ow x
theorem sizes {x : Sh} (H : x.Ok) : x.h * x.r ≤ 56 ∧ x.o * ow x ≤ 448 ∧ 1 ≤ x.h * x.r ∧ 3 ≤ x.o * ow x ∧ size x ≤ 600 := by
 have a : x.h * x.r ≤ 7 * 8 := Nat.mul_le_mul H.h2 H.r2
 have b : x.o * ow x ≤ 64 * 7 := Nat.mul_le_mul H.o2 (by unfold ow; have := H.s2; omega)
 have c : 1 * 1 ≤ x.h * x.r := Nat.mul_le_mul H.h1 H.r1
 have d : 1 * 3 ≤ x.o * ow x := Nat.mul_le_mul H.o1 (by unfold ow; omega)
 have := H.h2
 have := H.k2
 unfold size bO bK bR
 omega
end Shape
end
end Go.Proofs.YtppgbndoijppnaaGreat
