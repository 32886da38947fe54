/-
  Lemmas: RGS, RGT, RSq, RSk, RKind, RViews.
-/
import Derived.Test.YtmikhglnomgbfaaGreatTp18
import Derived.Test.YtmikhglnomgbfaaGreatTp19
namespace Go.Proofs.YtmikhglnomgbfaaGreat
set_option maxHeartbeats 8000000
open Go.RowKit
set_option linter.unusedVariables false
set_option linter.unusedSimpArgs false
set_option linter.unnecessarySimpa false
set_option maxRecDepth 20000
section
namespace RG
structure SG (I : Bool → World → Prop) (X : Stp) (w0 : World) (c al st : Bool) (v : Value) (w : World) : Prop where
  inv : I c w
  siz : w0.heap.size ≤ w.heap.size
  own : al = true → ∃ q, v = .pointer (some ⟨q, 0, none⟩) ∧ w0.heap.size ≤ q ∧ q < w.heap.size ∧ (st = false → w.rowIs q 75 6 zcell) ∧ (st = true → w.rangeAt q 0 X.cells)
  dep : st = true → c = true ∧ al = true
section
variable {I : Bool → World → Prop} {X : Stp} {w0 w w' : World} {c al st : Bool} {v : Value}
theorem SG.start (h : I false { w0 with drawn := w0.drawn + 1 }) : SG I X w0 false false false v { w0 with drawn := w0.drawn + 1 } :=
  ⟨h, Nat.le_refl _, fun h => (by cases h), fun h => (by cases h)⟩
theorem SG.make (hI : ∀ c w w', Below w0.heap.size w w' → w0.heap.size ≤ w.heap.size → I c w → I c w') (h : SG I X w0 c al st v w) (hal : al = false) :
    SG I X w0 c true st (.pointer (some ⟨w.heap.size, 0, none⟩)) (w.alloc (.cells [Value.int .i64 0, .int .i64 0, .int .i64 0, .int .u64 0, .int .u64 0, .bool false].toArray 75)) := by
  have hst : st = false := by
    cases hs : st with
    | false => rfl
    | true => have := (h.dep hs).2; rw [hal] at this; cases this
  subst hst
  exact ⟨hI _ _ _ ((Below.refl _ w).alloc h.siz _) h.siz h.inv, by simp; have := h.siz; omega, fun _ => ⟨_, rfl, h.siz, by simp, fun _ => row0 w, fun h => (by cases h)⟩, fun h => (by cases h)⟩
theorem SG.act {g : Nat} (h : SG I X w0 c al st v w) (hc : c = false) (hg0 : g < w0.heap.size) (hi : I true w') (hg : w.grownBy w' (some g)) : SG I X w0 true al st v w' := by
  have hst : st = false := by
    cases hs : st with
    | false => rfl
    | true => have := (h.dep hs).1; rw [hc] at this; cases this
  subst hst
  refine ⟨hi, Nat.le_trans h.siz hg.size, fun ha => ?_, fun h => (by cases h)⟩
  obtain ⟨q, e, hq, hq2, hrow, _⟩ := h.own ha
  exact ⟨q, e, hq, Nat.lt_of_lt_of_le hq2 hg.size, fun _ => (hrow rfl).of_block (hg.block q hq2 (by simp; omega)), fun h => (by cases h)⟩
theorem SG.put (hI : ∀ c w w', Below w0.heap.size w w' → w0.heap.size ≤ w.heap.size → I c w → I c w') (h : SG I X w0 c al st v w) (hc : c = true) (ha : al = true) (hst : st = false) :
    ∃ q, v = .pointer (some ⟨q, 0, none⟩) ∧ w.there q 0 X.cells.length ∧ SG I X w0 c al true v (w.setCells q 0 X.cells) := by
  obtain ⟨q, e, hq, hq2, hrow, _⟩ := h.own ha
  have ht : w.there q 0 X.cells.length := rowIs.there (hrow hst) (by simp [Stp.cells])
  have tt := touch_setCells q X.cells 0 w
  have hs := h.siz
  exact ⟨q, e, ht, hI _ _ _ ⟨tt.os, tt.tape, tt.output, tt.size, fun k hk => tt.block k (by omega) (by omega)⟩ h.siz h.inv, Nat.le_trans h.siz tt.size, fun _ => ⟨q, e, hq, Nat.lt_of_lt_of_le hq2 tt.size, fun h => (by cases h), fun _ => World.rangeAt_setCells_same w q 0 X.cells ht⟩, fun _ => ⟨hc, ha⟩⟩
theorem SG.skip {L : Nat → Bool} {i kc ia is : Nat} (h1 : kc ≠ i) (h2 : ia ≠ i) (h3 : is ≠ i) (h : SG I X w0 (L kc) (L ia) (L is) v w) : SG I X w0 (upd L i true kc) (upd L i true ia) (upd L i true is) v w := by
  rwa [upd_other _ _ h1, upd_other _ _ h2, upd_other _ _ h3]
theorem SG.calls {fd : FuncId} {args : Array Value} {g kc ia is : Nat} (hc : ∀ w, I false w → Calls Tryz.prog fd args w fun e w' => e = .returned X.val ∧ I true w' ∧ w.grownBy w' (some g)) (hg0 : g < w0.heap.size) (n1 : ia ≠ kc) (n2 : is ≠ kc) :
    ∀ (L : Nat → Bool) v w, SG I X w0 (L kc) (L ia) (L is) v w → L kc = false → Calls Tryz.prog fd args w fun e w' => e = .returned X.val ∧ SG I X w0 (upd L kc true kc) (upd L kc true ia) (upd L kc true is) v w' := by
  intro L v w h hL
  have hi := h.inv
  rw [hL] at hi
  refine (hc w hi).mono ?_
  rintro e w' ⟨rfl, hi', hg⟩
  rw [upd_same, upd_other _ _ n1, upd_other _ _ n2]
  exact ⟨rfl, h.act hL hg0 hi' hg⟩
end
structure SM (I : Bool → World → Prop) (C E : Nat) (lt : List Value) (X : Stp) (c sc se : Bool) (w : World) : Prop where
  inv : I c w
  tC : w.there C 0 lt.length
  tE : w.there E 0 X.cells.length
  stoC : sc = true → w.rangeAt C 0 lt
  stoE : se = true → w.rangeAt E 0 X.cells
  dep : se = true → c = true
section
variable {I : Bool → World → Prop} {C E : Nat} {lt : List Value} {X : Stp} {w0 w w' : World} {c sc se : Bool}
theorem SM.start (h : I false w) (hC : w.there C 0 lt.length) (hE : w.there E 0 X.cells.length) : SM I C E lt X false false false w :=
  ⟨h, hC, hE, fun h => (by cases h), fun h => (by cases h), fun h => (by cases h)⟩
theorem SM.skip {L : Nat → Bool} {i kc iC iE : Nat} (h1 : kc ≠ i) (h2 : iC ≠ i) (h3 : iE ≠ i) (h : SM I C E lt X (L kc) (L iC) (L iE) w) : SM I C E lt X (upd L i true kc) (upd L i true iC) (upd L i true iE) w := by
  rwa [upd_other _ _ h1, upd_other _ _ h2, upd_other _ _ h3]
theorem SM.calls {fd : FuncId} {args : Array Value} {kc iC iE : Nat} (hc : ∀ w, I false w → Calls Tryz.prog fd args w fun e w' => e = .returned X.val ∧ I true w' ∧ w'.heap[C]? = w.heap[C]? ∧ w'.heap[E]? = w.heap[E]?) (n1 : iC ≠ kc) (n2 : iE ≠ kc) :
    ∀ (L : Nat → Bool) (v : Value) w, SM I C E lt X (L kc) (L iC) (L iE) w → L kc = false → Calls Tryz.prog fd args w fun e w' => e = .returned X.val ∧ SM I C E lt X (upd L kc true kc) (upd L kc true iC) (upd L kc true iE) w' := by
  intro L v w h hL
  have hi := h.inv
  rw [hL] at hi
  refine (hc w hi).mono ?_
  rintro e w' ⟨rfl, hi', hC, hE⟩
  rw [upd_same, upd_other _ _ n1, upd_other _ _ n2]
  exact ⟨rfl, hi', there_block h.tC hC, there_block h.tE hE, fun h1 => rangeAt_block (h.stoC h1) hC, fun h1 => rangeAt_block (h.stoE h1) hE, fun _ => rfl⟩
theorem SM.putC (hI : ∀ c w w', Touch w w' (fun k => k = C ∨ k = E) → I c w → I c w') (hne : C ≠ E) (h : SM I C E lt X c sc se w) : w.there C 0 lt.length ∧ SM I C E lt X c true se (w.setCells C 0 lt) := by
  have tt := touch_setCells C lt 0 w
  exact ⟨h.tC, hI _ _ _ (tt.mono (fun k _ h => .inl h)) h.inv, World.there_setCells h.tC _ _ _, World.there_setCells h.tE _ _ _, fun _ => World.rangeAt_setCells_same w C 0 lt h.tC, fun h1 => World.rangeAt_setCells_apart (h.stoE h1) _ _ _ (.inl (Ne.symm hne)), h.dep⟩
theorem SM.putE (hI : ∀ c w w', Touch w w' (fun k => k = C ∨ k = E) → I c w → I c w') (hne : C ≠ E) (h : SM I C E lt X c sc se w) (hc : c = true) : w.there E 0 X.cells.length ∧ SM I C E lt X c sc true (w.setCells E 0 X.cells) := by
  have tt := touch_setCells E X.cells 0 w
  exact ⟨h.tE, hI _ _ _ (tt.mono (fun k _ h => .inr h)) h.inv, World.there_setCells h.tC _ _ _, World.there_setCells h.tE _ _ _, fun h1 => World.rangeAt_setCells_apart (h.stoC h1) _ _ _ (.inl hne), fun _ => World.rangeAt_setCells_same w E 0 X.cells h.tE, fun _ => hc⟩
end
end RG
section
variable {ev : Operand → Value} {o : Oper} {w : World}
theorem ex_fieldo {x : Operand} {b k q q' : Nat} {ty : TypeId} (ho : o.op = .fieldAddr ty x k) (hx : ev x = .pointer (some ⟨b, q', none⟩)) (hf : (Instr.fieldAt ty (.pointer (some ⟨b, q', none⟩)) k).run Tryz.prog w = .ok (.pointer (some ⟨b, q, none⟩)) w) : (execOp ev o).run Tryz.prog w = .ok (.value (.pointer (some ⟨b, q, none⟩))) w := by
  simp [execOp, ho, hx, hf]
theorem ex_r0 {x y : Operand} {b : Nat} (ho : o.op = .indexAddr 53 x y) (hx : ev x = .pointer (some ⟨b, 13, none⟩)) (hy : ev y = .int .i64 0) : (execOp ev o).run Tryz.prog w = .ok (.value (.pointer (some ⟨b, 13, none⟩))) w := by
  simp [execOp, ho, hx, hy, go_sem]
theorem ex_r1 {x y : Operand} {b : Nat} (ho : o.op = .indexAddr 53 x y) (hx : ev x = .pointer (some ⟨b, 13, none⟩)) (hy : ev y = .int .i64 1) : (execOp ev o).run Tryz.prog w = .ok (.value (.pointer (some ⟨b, 14, none⟩))) w := by
  simp [execOp, ho, hx, hy, go_sem]
theorem ex_r2 {x y : Operand} {b : Nat} (ho : o.op = .indexAddr 53 x y) (hx : ev x = .pointer (some ⟨b, 13, none⟩)) (hy : ev y = .int .i64 2) : (execOp ev o).run Tryz.prog w = .ok (.value (.pointer (some ⟨b, 15, none⟩))) w := by
  simp [execOp, ho, hx, hy, go_sem]
theorem fieldS5 (w : World) (b : Nat) : (Instr.fieldAt 75 (.pointer (some ⟨b, 0, none⟩)) 5).run Tryz.prog w = .ok (.pointer (some ⟨b, 5, none⟩)) w := by simp [go_sem]
theorem agg_i (w : World) : (isAgg 3).run Tryz.prog w = .ok false w := by simp [go_sem]
theorem agg_u64 (w : World) : (isAgg 50).run Tryz.prog w = .ok false w := by simp [go_sem]
end
end
section
structure RT (w0 : World) (g n cap : Nat) (l : List Value) (f : Nat → Int) (w : World) : Prop where
  tk : w.rowIs w0.heap.size 59 28 (lrow l)
  rt : w.rowIs (w0.heap.size + 1) 59 28 (lrow tk0)
  rs : w.rowIs (w0.heap.size + 2) 75 6 zcell
  row : IsRow w g n cap f
  gro : w0.grownBy w (some g)
  lg : g < w0.heap.size
  len : l.length = 28
namespace RT
variable {w0 w w' : World} {g n cap : Nat} {l : List Value} {f f' : Nat → Int}
theorem size (h : RT w0 g n cap l f w) : w0.heap.size + 3 ≤ w.heap.size := by have := h.rs.lt; omega
theorem belowB {B : Nat} (h : RT w0 g n cap l f w) (hB : w0.heap.size + 3 ≤ B) (hb : Below B w w') (hs : B ≤ w.heap.size) : RT w0 g n cap l f w' := by
  have := h.lg
  have sz := h.size
  refine ⟨h.tk.of_block (hb.block _ (by omega)), h.rt.of_block (hb.block _ (by omega)), h.rs.of_block (hb.block _ (by omega)), h.row.block (hb.block _ (by omega)), ?_, h.lg, h.len⟩
  exact ⟨hb.os.trans h.gro.os, hb.tape.trans h.gro.tape, hb.output.trans h.gro.output, Nat.le_trans h.gro.size hb.size, fun k hk hn => (hb.block k (by omega)).trans (h.gro.block k hk hn)⟩
theorem below (h : RT w0 g n cap l f w) (hb : Below w.heap.size w w') : RT w0 g n cap l f w' := h.belowB h.size hb (Nat.le_refl _)
theorem act (h : RT w0 g n cap l f w) (hr : IsRow w' g n cap f') (hg : w.grownBy w' (some g)) : RT w0 g n cap l f' w' := by
  have := h.lg
  have sz := h.size
  exact ⟨h.tk.of_block (hg.block _ (by omega) (by simp; omega)), h.rt.of_block (hg.block _ (by omega) (by simp; omega)), h.rs.of_block (hg.block _ (by omega) (by simp; omega)), hr, grown_trans h.gro hg, h.lg, h.len⟩
theorem cell (h : RT w0 g n cap l f w) {i : Nat} {v : Value} (hv : l[i]? = some v) : w.cell? ⟨w0.heap.size, i, none⟩ = some v := by
  have hi := (List.getElem?_eq_some_iff.1 hv).1
  rw [h.tk.cell (i := i) (by have := h.len; omega), lrow_of hv]
theorem range (h : RT w0 g n cap l f w) : w.rangeAt w0.heap.size 0 l := rowIs.range h.tk h.len
theorem part (h : RT w0 g n cap l f w) {vs : List Value} (hv : ∀ (j : Nat) (v : Value), vs[j]? = some v → l[j]? = some v) : w.rangeAt w0.heap.size 0 vs := fun j v hj => by
  rw [Nat.zero_add]; exact h.cell (hv j v hj)
theorem frozen (h : RT w0 g n cap l f w) (i : Nat) : w.frozen? ⟨w0.heap.size, i, none⟩ = false := h.tk.frozen i
theorem set (h : RT w0 g n cap l f w) (i : Nat) (hi : i < 28) (v : Value) : RT w0 g n cap (l.set i v) f (w.setCell ⟨w0.heap.size, i, none⟩ v) := by
  have hl := h.lg
  refine ⟨rowIs.setL h.tk (by have := h.len; omega) v, h.rt.setOther (by simp) v, h.rs.setOther (by simp) v, h.row.setOther (by simp; omega) v, grown_setCell h.gro _ (.inr (Nat.le_refl _)) v, h.lg, by simp [h.len]⟩
theorem alloc (h : RT w0 g n cap l f w) (o : Obj) : RT w0 g n cap l f (w.alloc o) := h.below ((Below.refl _ w).alloc (Nat.le_refl _) o)
theorem start (hr : IsRow w0 g n cap f) (hl : l.length = 28) : RT w0 g n cap l f (((w0.alloc (.cells l.toArray 59)).alloc (.cells tk0.toArray 59)).alloc (.cells [Value.int .i64 0, .int .i64 0, .int .i64 0, .int .u64 0, .int .u64 0, .bool false].toArray 75)) := by
  refine ⟨((rowL_alloc w0 l _ hl).alloc _).alloc _, ?_, ?_, ((hr.alloc _).alloc _).alloc _, grown_alloc (grown_alloc (grown_alloc (grown_refl _ _) _) _) _, hr.lt, hl⟩
  · have := (rowL_alloc (w0.alloc (.cells l.toArray 59)) tk0 59 (n := 28) rfl).alloc (.cells [Value.int .i64 0, .int .i64 0, .int .i64 0, .int .u64 0, .int .u64 0, .bool false].toArray 75)
    rwa [World.size_alloc] at this
  · have := row0 ((w0.alloc (.cells l.toArray 59)).alloc (.cells tk0.toArray 59))
    rwa [World.size_alloc, World.size_alloc] at this
end RT
structure RD (w0 : World) (g n cap : Nat) (l : List Value) (f : Nat → Int) (q : Option Nat) (X : Stp) (w : World) : Prop where
  tk : w.rowIs w0.heap.size 59 28 (lrow l)
  row : IsRow w g n cap f
  gro : w0.grownBy w (some g)
  lg : g < w0.heap.size
  len : l.length = 28
  sz : w0.heap.size + 3 ≤ w.heap.size
  var : ∀ k, q = some k → w.rangeAt k 0 X.cells ∧ w0.heap.size + 3 ≤ k ∧ k < w.heap.size
namespace RD
variable {w0 w w' : World} {g n cap : Nat} {l : List Value} {f f' : Nat → Int} {q : Option Nat} {X : Stp}
theorem of (h : RT w0 g n cap l f w) (hq : ∀ k, q = some k → w.rangeAt k 0 X.cells ∧ w0.heap.size + 3 ≤ k ∧ k < w.heap.size) : RD w0 g n cap l f q X w := ⟨h.tk, h.row, h.gro, h.lg, h.len, h.size, hq⟩
theorem drew (h : RD w0 g n cap l f q X w) : RD w0 g n cap l f q X { w with drawn := w.drawn + 1 } :=
  ⟨h.tk.drew, h.row.block rfl, grown_drew h.gro, h.lg, h.len, h.sz, fun k e => ⟨rangeAt_block (h.var k e).1 rfl, (h.var k e).2⟩⟩
theorem touch (h : RD w0 g n cap l f q X w) (ht : Touch w w' (fun k => k = w0.heap.size + 1 ∨ k = w0.heap.size + 2)) : RD w0 g n cap l f q X w' := by
  have := h.lg
  have sz := h.sz
  refine ⟨h.tk.of_block (ht.block _ (by omega) (by omega)), h.row.block (ht.block _ (by omega) (by omega)), ?_, h.lg, h.len, Nat.le_trans h.sz ht.size, fun k e => ?_⟩
  · exact ⟨ht.os.trans h.gro.os, ht.tape.trans h.gro.tape, ht.output.trans h.gro.output, Nat.le_trans h.gro.size ht.size, fun k hk hn => (ht.block k (by omega) (by omega)).trans (h.gro.block k hk hn)⟩
  · obtain ⟨a1, a2, a3⟩ := h.var k e
    exact ⟨rangeAt_block a1 (ht.block k a3 (by omega)), a2, Nat.lt_of_lt_of_le a3 ht.size⟩
theorem below (h : RD w0 g n cap l f q X w) (hb : Below w.heap.size w w') : RD w0 g n cap l f q X w' :=
  h.touch ⟨hb.os, hb.tape, hb.output, hb.size, fun k hk _ => hb.block k hk⟩
theorem act (h : RD w0 g n cap l f q X w) (hr : IsRow w' g n cap f') (hg : w.grownBy w' (some g)) : RD w0 g n cap l f' q X w' := by
  have := h.lg
  have sz := h.sz
  refine ⟨h.tk.of_block (hg.block _ (by omega) (by simp; omega)), hr, grown_trans h.gro hg, h.lg, h.len, Nat.le_trans h.sz hg.size, fun k e => ?_⟩
  obtain ⟨a1, a2, a3⟩ := h.var k e
  exact ⟨rangeAt_block a1 (hg.block k a3 (by simp; omega)), a2, Nat.lt_of_lt_of_le a3 hg.size⟩
theorem cell (h : RD w0 g n cap l f q X w) {i : Nat} {v : Value} (hv : l[i]? = some v) : w.cell? ⟨w0.heap.size, i, none⟩ = some v := by
  have hi := (List.getElem?_eq_some_iff.1 hv).1
  rw [h.tk.cell (i := i) (by have := h.len; omega), lrow_of hv]
theorem range (h : RD w0 g n cap l f q X w) : w.rangeAt w0.heap.size 0 l := rowIs.range h.tk h.len
theorem part (h : RD w0 g n cap l f q X w) {vs : List Value} (hv : ∀ (j : Nat) (v : Value), vs[j]? = some v → l[j]? = some v) : w.rangeAt w0.heap.size 0 vs := fun j v hj => by
  rw [Nat.zero_add]; exact h.cell (hv j v hj)
theorem scell (h : RD w0 g n cap l f q X w) {k i : Nat} {v : Value} (e : q = some k) (hv : X.cells[i]? = some v) : w.cell? ⟨k, i, none⟩ = some v := by
  have := (h.var k e).1 i v hv
  simpa using this
end RD
namespace RG
section
variable {I : Bool → World → Prop} {X : Stp} {w0 w w' : World} {c al st : Bool} {v : Value}
theorem SG.quiet (hI : ∀ c w w', Below w0.heap.size w w' → w0.heap.size ≤ w.heap.size → I c w → I c w') (h : SG I X w0 c al st v w) (hb : Below w.heap.size w w') : SG I X w0 c al st v w' := by
  refine ⟨hI _ _ _ (hb.mono h.siz) h.siz h.inv, Nat.le_trans h.siz hb.size, fun ha => ?_, h.dep⟩
  obtain ⟨q, e, hq, hq2, h1, h2⟩ := h.own ha
  exact ⟨q, e, hq, Nat.lt_of_lt_of_le hq2 hb.size, fun hs => (h1 hs).of_block (hb.block q hq2), fun hs => rangeAt_block (h2 hs) (hb.block q hq2)⟩
end
section
variable {I : Bool → World → Prop} {C E : Nat} {lt : List Value} {X : Stp} {w0 w w' : World} {c sc se : Bool}
theorem SM.begin (h : I c w) (hC : w.there C 0 lt.length) (hE : w.there E 0 X.cells.length) : SM I C E lt X c false false w :=
  ⟨h, hC, hE, fun h => (by cases h), fun h => (by cases h), fun h => (by cases h)⟩
theorem SM.quiet (hI : I c w') (hC : C < w.heap.size) (hE : E < w.heap.size) (h : SM I C E lt X c sc se w) (hb : Below w.heap.size w w') : SM I C E lt X c sc se w' :=
  ⟨hI, there_block h.tC (hb.block C hC), there_block h.tE (hb.block E hE), fun h1 => rangeAt_block (h.stoC h1) (hb.block C hC), fun h1 => rangeAt_block (h.stoE h1) (hb.block E hE), h.dep⟩
theorem SM.skip2 {L : Nat → Bool} {i iC iE : Nat} (h2 : iC ≠ i) (h3 : iE ≠ i) (h : SM I C E lt X c (L iC) (L iE) w) : SM I C E lt X c (upd L i true iC) (upd L i true iE) w := by
  rwa [upd_other _ _ h2, upd_other _ _ h3]
end
end RG
end
section
namespace RSq
open RetN (pv D)
structure In (ks : List (Nat × Nat)) (vals : Nat → Value) (WI : World → Prop) (a0 : Act) (n : Nat) (a : Act) (w : World) : Prop where
  sz : a.tmps.size = a0.tmps.size
  df : a.defers = a0.defers
  fix : ∀ k, ¬ D ks k → a.eval (.tmp k) = a0.eval (.tmp k)
  pure : ∀ i d v, pv ks vals i = some (d, v) → i < n → a.eval (.tmp d) = v
  world : WI w
structure Does (P : Program) (Q : Exit → Act → World → Prop) (ops : Array Oper) (ks : List (Nat × Nat)) (vals : Nat → Value) (WI : World → Prop) (a0 : Act) (i : Nat) (o : Oper) : Prop where
  dst : o.dst = Reg.look ks i
  want : ∀ a w, In ks vals WI a0 i a w → Region.wanted o (yielded ops a.tmps) = true
  wp : ∀ a w (K : Act → World → Prop), In ks vals WI a0 i a w → (∀ w' v, (∀ d, o.dst = some d → v = vals i) → WI w' → K (a.put o.dst v) w') → o.wp P a w K Q
theorem region {P : Program} {id : Nat} {ops : Array Oper} {Q : Exit → Act → World → Prop} {ks : List (Nat × Nat)} {vals : Nat → Value} {WI : World → Prop} {w0 : World} {a0 : Act}
    (hgood : (ks.all fun p => (ks.all fun q => p.1 == q.1 || p.2 != q.2)) = true) (hD : ∀ k, D ks k → k < a0.tmps.size) (hW0 : WI w0)
    (does : ∀ (i : Nat) (o : Oper), ops[i]? = some o → Does P Q ops ks vals WI a0 i o)
    (fin : ∀ a w, In ks vals WI a0 ops.size a w → Q .normal a w) :
    (Code.region id ops false).wp P Q a0 w0 := by
  simp only [List.all_eq_true, bne_iff_ne, Bool.or_eq_true, beq_iff_eq] at hgood
  have pvm : ∀ {i d v}, pv ks vals i = some (d, v) → (i, d) ∈ ks := fun {i d v} h => by
    obtain ⟨d', h1, h2⟩ := Option.map_eq_some_iff.1 h
    cases h2; exact Reg.look_mem h1
  have go : ∀ (rest : List Oper) (i : Nat) (a : Act) (w : World), rest = ops.toList.drop i → In ks vals WI a0 i a w → wpList P ops Q rest a w := by
    intro rest
    induction rest with
    | nil =>
      intro i a w hr h
      have hi : ops.size ≤ i := by
        have := congrArg List.length hr
        simp at this
        omega
      exact fin a w ⟨h.sz, h.df, h.fix, fun j d v hj hlt => h.pure j d v hj (by omega), h.world⟩
    | cons o rest ih =>
      intro i a w hr h
      have hi : i < ops.size := by
        have := congrArg List.length hr
        simp at this
        omega
      have ho : ops[i]? = some o := by
        have := congrArg (fun l => l[0]?) hr
        simp at this
        exact this.symm
      have hrest : rest = ops.toList.drop (i + 1) := by
        have := congrArg List.tail hr
        simpa [List.tail_drop] using this
      obtain ⟨hdst, hwant, hwp⟩ := does i o ho
      refine wpList_step (fun K hK => ?_)
      rw [if_pos (hwant a w h)]
      refine hwp a w K h (fun w' v hv hW => hK _ _ (ih (i + 1) _ _ hrest ?_))
      cases hlk : Reg.look ks i with
      | none =>
        rw [hdst, hlk]
        exact ⟨h.sz, h.df, h.fix, fun j d' v' hj hLj => h.pure j d' v' hj (by
          have hji : j ≠ i := fun e => by
            subst e
            obtain ⟨d'', h1, _⟩ := Option.map_eq_some_iff.1 hj
            rw [hlk] at h1; cases h1
          omega), hW⟩
      | some d =>
        have hv' := hv d (hdst.trans hlk)
        subst hv'
        rw [hdst, hlk]
        have hm' : (i, d) ∈ ks := Reg.look_mem hlk
        have hDd : D ks d := by simp only [D, List.any_eq_true, beq_iff_eq]; exact ⟨_, hm', rfl⟩
        have e : ∀ k : Nat, k ≠ d → (a.put (some d) (vals i)).eval (.tmp k) = a.eval (.tmp k) := fun k hk => put_other hk
        refine ⟨by rw [put_size]; exact h.sz, by rw [put_defs]; exact h.df, fun k hk => ?_, fun j d' v' hj hLj => ?_, hW⟩
        · rw [e k (fun he => hk (he ▸ hDd))]; exact h.fix k hk
        · by_cases hij : j = i
          · subst hij
            rw [pv, hlk] at hj
            cases hj
            exact put_eval (by rw [h.sz]; exact hD _ hDd)
          · have : d' ≠ d := by
              rcases hgood _ hm' _ (pvm hj) with e1 | e1
              · exact absurd e1.symm hij
              · exact Ne.symm e1
            rw [e d' this]
            exact h.pure j d' v' hj (by omega)
  exact wp_region_list (go _ 0 a0 w0 (by simp) ⟨rfl, rfl, fun _ _ => rfl, fun _ _ _ _ h => absurd h (Nat.not_lt_zero _), hW0⟩)
section
variable {P : Program} {Q : Exit → Act → World → Prop} {ops : Array Oper} {ks : List (Nat × Nat)} {vals : Nat → Value} {WI : World → Prop} {a0 : Act} {i : Nat} {o : Oper}
theorem free (h : o.guard = none) : ∀ a w, In ks vals WI a0 i a w → Region.wanted o (yielded ops a.tmps) = true := fun a w _ => by simp [Region.wanted, h]
theorem held {j d : Nat} {b : Bool} (h : o.guard = some (j, b)) (hd : (ops[j]?).bind (·.dst) = some d) (hj : j < i) (hp : pv ks vals j = some (d, .bool b)) (hds : d < a0.tmps.size) : ∀ a w, In ks vals WI a0 i a w → Region.wanted o (yielded ops a.tmps) = true := fun a w hI => by
  have e := hI.pure j d _ hp hj
  have hs : d < a.tmps.size := by rw [hI.sz]; exact hds
  have e2 : a.tmps[d]? = some (.bool b) := by
    have : a.tmps.getD d undef = .bool b := e
    simpa [Array.getD, hs] using this
  simp [Region.wanted, h, yielded, hd, e2]
theorem Does.read (hd : o.dst = Reg.look ks i) (hw : ∀ a w, In ks vals WI a0 i a w → Region.wanted o (yielded ops a.tmps) = true) (h : ∀ a w, In ks vals WI a0 i a w → (execOp a.eval o).run P w = .ok (.value (vals i)) w) : Does P Q ops ks vals WI a0 i o :=
  ⟨hd, hw, fun a w K hI hk => wp_value (h a w hI) (hk w _ (fun _ _ => rfl) hI.world)⟩
theorem Does.call {f : FuncId} {args : Array Value} (hd : o.dst = Reg.look ks i) (hw : ∀ a w, In ks vals WI a0 i a w → Region.wanted o (yielded ops a.tmps) = true) (h : ∀ a w, In ks vals WI a0 i a w → (execOp a.eval o).run P w = .ok (.enter f args) w)
    (hc : ∀ w, WI w → Calls P f args w fun e w' => e = .returned (vals i) ∧ WI w') : Does P Q ops ks vals WI a0 i o :=
  ⟨hd, hw, fun a w K hI hk => wp_call (h a w hI) ((hc w hI.world).mono (by rintro e w' ⟨rfl, h2⟩; exact ⟨_, rfl, hk _ _ (fun _ _ => rfl) h2⟩))⟩
end
end RSq
section
variable {ev : Operand → Value} {o : Oper} {w : World}
end
end
section
theorem RSq.In.fx {ks : List (Nat × Nat)} {vals : Nat → Value} {WI : World → Prop} {a0 : Act} {n : Nat} {a : Act} {w : World} (hI : RSq.In ks vals WI a0 n a w) (k : Nat) (h : (ks.any fun p => p.2 == k) = false) : a.eval (.tmp k) = a0.eval (.tmp k) := hI.fix k (Reg.notD h)
namespace RSk
open RetN (pv D)
def Skip (ops : Array Oper) (ks : List (Nat × Nat)) (vals : Nat → Value) (WI : World → Prop) (a0 : Act) (i : Nat) (o : Oper) : Prop :=
  o.dst = Reg.look ks i ∧ vals i = undef ∧ ∀ a w, RSq.In ks vals WI a0 i a w → Region.wanted o (yielded ops a.tmps) = false
theorem region {P : Program} {id : Nat} {ops : Array Oper} {Q : Exit → Act → World → Prop} {ks : List (Nat × Nat)} {vals : Nat → Value} {WI : World → Prop} {w0 : World} {a0 : Act}
    (hgood : (ks.all fun p => (ks.all fun q => p.1 == q.1 || p.2 != q.2)) = true) (hD : ∀ k, D ks k → k < a0.tmps.size) (hW0 : WI w0)
    (does : ∀ (i : Nat) (o : Oper), ops[i]? = some o → RSq.Does P Q ops ks vals WI a0 i o ∨ Skip ops ks vals WI a0 i o)
    (fin : ∀ a w, RSq.In ks vals WI a0 ops.size a w → Q .normal a w) :
    (Code.region id ops false).wp P Q a0 w0 := by
  simp only [List.all_eq_true, bne_iff_ne, Bool.or_eq_true, beq_iff_eq] at hgood
  have pvm : ∀ {i d v}, pv ks vals i = some (d, v) → (i, d) ∈ ks := fun {i d v} h => by
    obtain ⟨d', h1, h2⟩ := Option.map_eq_some_iff.1 h
    cases h2; exact Reg.look_mem h1
  have go : ∀ (rest : List Oper) (i : Nat) (a : Act) (w : World), rest = ops.toList.drop i → RSq.In ks vals WI a0 i a w → wpList P ops Q rest a w := by
    intro rest
    induction rest with
    | nil =>
      intro i a w hr h
      have hi : ops.size ≤ i := by
        have := congrArg List.length hr
        simp at this
        omega
      exact fin a w ⟨h.sz, h.df, h.fix, fun j d v hj hlt => h.pure j d v hj (by omega), h.world⟩
    | cons o rest ih =>
      intro i a w hr h
      have hi : i < ops.size := by
        have := congrArg List.length hr
        simp at this
        omega
      have ho : ops[i]? = some o := by
        have := congrArg (fun l => l[0]?) hr
        simp at this
        exact this.symm
      have hrest : rest = ops.toList.drop (i + 1) := by
        have := congrArg List.tail hr
        simpa [List.tail_drop] using this
      have next : ∀ w' v, o.dst = Reg.look ks i → (∀ d, o.dst = some d → v = vals i) → WI w' → RSq.In ks vals WI a0 (i + 1) (a.put o.dst v) w' := by
        intro w' v hdst hv hW
        cases hlk : Reg.look ks i with
        | none =>
          rw [hdst, hlk]
          exact ⟨h.sz, h.df, h.fix, fun j d' v' hj hLj => h.pure j d' v' hj (by
            have hji : j ≠ i := fun e => by
              subst e
              obtain ⟨d'', h1, _⟩ := Option.map_eq_some_iff.1 hj
              rw [hlk] at h1; cases h1
            omega), hW⟩
        | some d =>
          have hv' := hv d (hdst.trans hlk)
          subst hv'
          rw [hdst, hlk]
          have hm' : (i, d) ∈ ks := Reg.look_mem hlk
          have hDd : D ks d := by simp only [D, List.any_eq_true, beq_iff_eq]; exact ⟨_, hm', rfl⟩
          have e : ∀ k : Nat, k ≠ d → (a.put (some d) (vals i)).eval (.tmp k) = a.eval (.tmp k) := fun k hk => put_other hk
          refine ⟨by rw [put_size]; exact h.sz, by rw [put_defs]; exact h.df, fun k hk => ?_, fun j d' v' hj hLj => ?_, hW⟩
          · rw [e k (fun he => hk (he ▸ hDd))]; exact h.fix k hk
          · by_cases hij : j = i
            · subst hij
              rw [pv, hlk] at hj
              cases hj
              exact put_eval (by rw [h.sz]; exact hD _ hDd)
            · have : d' ≠ d := by
                rcases hgood _ hm' _ (pvm hj) with e1 | e1
                · exact absurd e1.symm hij
                · exact Ne.symm e1
              rw [e d' this]
              exact h.pure j d' v' hj (by omega)
      rcases does i o ho with ⟨hdst, hwant, hwp⟩ | ⟨hdst, hun, hno⟩
      · refine wpList_step (fun K hK => ?_)
        rw [if_pos (hwant a w h)]
        exact hwp a w K h (fun w' v hv hW => hK _ _ (ih (i + 1) _ _ hrest (next w' v hdst hv hW)))
      · refine wpList_step (fun K hK => ?_)
        rw [if_neg (by rw [hno a w h]; decide)]
        exact hK _ _ (ih (i + 1) _ _ hrest (next w undef hdst (fun _ _ => hun.symm) h.world))
  exact wp_region_list (go _ 0 a0 w0 (by simp) ⟨rfl, rfl, fun _ _ => rfl, fun _ _ _ _ h => absurd h (Nat.not_lt_zero _), hW0⟩)
section
variable {P : Program} {Q : Exit → Act → World → Prop} {ops : Array Oper} {ks : List (Nat × Nat)} {vals : Nat → Value} {WI : World → Prop} {a0 : Act} {i : Nat} {o : Oper}
theorem other {j d : Nat} {b b' : Bool} (h : o.guard = some (j, b)) (hne : (b' == b) = false) (hl : o.dst = Reg.look ks i) (hu : vals i = undef) (hd : (ops[j]?).bind (·.dst) = some d) (hj : j < i) (hp : pv ks vals j = some (d, .bool b')) (hds : d < a0.tmps.size) : Skip ops ks vals WI a0 i o := ⟨hl, hu, fun a w hI => by
  have e := hI.pure j d _ hp hj
  have hs : d < a.tmps.size := by rw [hI.sz]; exact hds
  have e2 : a.tmps[d]? = some (.bool b') := by
    have : a.tmps.getD d undef = .bool b' := e
    simpa [Array.getD, hs] using this
  have hne' : ¬ b' = b := by simpa using hne
  simp [Region.wanted, h, yielded, hd, e2, hne']⟩
theorem gone {j d : Nat} {b : Bool} (h : o.guard = some (j, b)) (hl : o.dst = Reg.look ks i) (hu : vals i = undef) (hd : (ops[j]?).bind (·.dst) = some d) (hj : j < i) (hp : pv ks vals j = some (d, undef)) (hds : d < a0.tmps.size) : Skip ops ks vals WI a0 i o := ⟨hl, hu, fun a w hI => by
  have e := hI.pure j d _ hp hj
  have hs : d < a.tmps.size := by rw [hI.sz]; exact hds
  have e2 : a.tmps[d]? = some undef := by
    have : a.tmps.getD d undef = undef := e
    simpa [Array.getD, hs] using this
  simp [Region.wanted, h, yielded, hd, e2, undef]⟩
end
end RSk
section
variable {ev : Operand → Value} {o : Oper} {w : World}
theorem exk_lss {x y : Operand} {a b : Int} {r : Bool} (ho : o.op = .binOp .lss 3 x y 3) (hx : ev x = .int .i64 a) (hy : ev y = .int .i64 b) (h : decide (a < b) = r) : (execOp ev o).run Tryz.prog w = .ok (.value (.bool r)) w := by
  subst h
  simp [execOp, ho, hx, hy, go_sem]
theorem exk_gtr {x y : Operand} {a b : Int} {r : Bool} (ho : o.op = .binOp .gtr 3 x y 3) (hx : ev x = .int .i64 a) (hy : ev y = .int .i64 b) (h : decide (a > b) = r) : (execOp ev o).run Tryz.prog w = .ok (.value (.bool r)) w := by
  subst h
  simp [execOp, ho, hx, hy, go_sem]
theorem exk_eql {x y : Operand} {a b : Int} {r : Bool} (ho : o.op = .binOp .eql 3 x y 3) (hx : ev x = .int .i64 a) (hy : ev y = .int .i64 b) (h : (a == b) = r) : (execOp ev o).run Tryz.prog w = .ok (.value (.bool r)) w := by
  subst h
  simp [execOp, ho, hx, hy, go_sem]
theorem exk_pick {c x y : Operand} {b : Bool} {v : Value} (ho : o.op = .pick c x y) (hc : ev c = .bool b) (hv : (if b = true then ev x else ev y) = v) : (execOp ev o).run Tryz.prog w = .ok (.value v) w := by
  cases b <;> simp_all [execOp, go_sem]
end
end
section
structure RKind (K : Kd) (rep : List Value → K.σ → Prop) (sh : Shp) (fst fsp : FuncId) : Prop where
  start : ∀ (k : Int) (j : Jb), 0 ≤ k → k < 8 → j.wf → ∃ cs, IsTk cs ∧ (K.err k j = 0 → rep cs (K.init k j)) ∧ ∀ w : World, Calls Tryz.prog fst #[sh.val, .int .i64 k, j.val, kept0] w fun e w' => e = .returned (.tuple #[.agg cs.toArray, .int .i64 (K.err k j)]) ∧ Below w.heap.size w w'
  step : ∀ (cs : List Value) (s : K.σ), IsTk cs → rep cs s → ∀ (n : Nat) (f : Nat → Int), (∀ i, i < n → 0 ≤ f i ∧ f i ≤ 18446744073709551615) → ∃ cs', IsTk cs' ∧ (¬ K.ends s (stepOf n f (K.req s)) = true → rep cs' (K.next s (stepOf n f (K.req s)))) ∧
    (K.ends s (stepOf n f (K.req s)) = true → cs'[22]? = some (.bool (K.tell (K.next s (stepOf n f (K.req s)))).ok) ∧ cs'[23]? = some (.int .u64 (K.tell (K.next s (stepOf n f (K.req s)))).val)) ∧ (∀ q, q < 4 → cs'[24 + q]? = some (.int .u64 0)) ∧
    ∀ (w : World) (g cap : Nat), IsRow w g n cap f → Calls Tryz.prog fsp #[.agg cs.toArray, .slice (some ⟨g, 0, none⟩) n cap] w fun e w' => e = .returned (.tuple #[.agg cs'.toArray, (stepOf n f (K.req s)).val, .bool (K.ends s (stepOf n f (K.req s)))]) ∧ IsRow w' g n cap (wordsOf n f (K.req s)) ∧ w.grownBy w' (some g)
end
section
structure Vw where
  k : Nat
  s : Nat → Stp
  n : Nat
  f : Nat → Int
  en : Bool
  m : Nat
  dn : Nat → Nat
  an : Nat → Nat → Ans
  er : Int
def TV (w : World) (V : Vw) (v : Value) : Prop :=
  ∃ sa sc wa wc aa ac, v = .tuple #[.agg #[.slice sa V.k sc, .slice wa V.n wc, .bool V.en], .slice aa V.m ac, .int .i64 V.er] ∧ SeesS w w.heap.size sa V.k V.s ∧ Sees w w.heap.size wa V.n V.f ∧ SeesA w w.heap.size aa V.m V.dn V.an
def RAllR (K : Kd) (rep : List Value → K.σ → Prop) (w : World) (P : Par) (f : Nat → Int) (most : Int) (e : Ending) (w' : World) : Prop :=
  Below w.heap.size w w' ∧ ((∃ er, ErrOf K P most er ∧ e = .returned (errVal er)) ∨ (Fine P most ∧ AllOk K P ∧ ∃ v, e = .returned v ∧ RTold K rep P (runSt P (st0 K P f) most.toNat) (w.heap.size + 1) v w'))
end
end Go.Proofs.YtmikhglnomgbfaaGreat
