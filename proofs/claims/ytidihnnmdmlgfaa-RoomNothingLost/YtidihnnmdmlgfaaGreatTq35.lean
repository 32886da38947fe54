/-
  Lemmas: RAInv, RSame, Cells0, RSameG, RGS, RH.
-/
import Derived.Test.YtidihnnmdmlgfaaGreatTq21
import Derived.Test.YtidihnnmdmlgfaaGreatTq12
import Derived.Deep.CutRange
import Derived.Test.YtidihnnmdmlgfaaGreatTq22
namespace Go.Proofs.YtidihnnmdmlgfaaGreat
set_option maxHeartbeats 8000000
open Go.RowKit
set_option linter.unusedVariables false
set_option linter.unusedSimpArgs false
set_option linter.unnecessarySimpa false
set_option maxRecDepth 20000
section
open Beg
def rvL (sh : Shp) (P : Par) (blk : Rl → Nat) (capw : Nat) (vh sv : Value) (la : Int) : List Value := runCells sh (.slice (some ⟨blk .words, 0, none⟩) P.n capw) vh (sl (blk .tasks) P.nh) (sl (blk .going) P.nh) (sl (blk .run) P.nh) (sl (blk .mem) P.nh) sv (sl (blk .answers) P.nh) la
end
section
theorem ex_not {ev : Operand → Value} {o : Oper} {w : World} {x : Operand} (ho : o.op = .unOp .not 4 x) (hx : ev x = .bool true) : (execOp ev o).run Tryz.prog w = .ok (.value (.bool false)) w := by
  simp [execOp, ho, hx, go_sem]
end
section
theorem grows_cell {blk : Rl → Nat} {c : Rl → Option Row} {r : Rl} {e : TypeId} {sz k : Nat} {xs : List Value} {v : Value} {w : World} {base : Nat} (h : Grows blk c r e sz k xs v) (H : Has w base blk c) (hl : xs.length = k * sz) (hk : 0 < k) :
    ∃ b cap, v = .slice (some ⟨b, 0, none⟩) k cap ∧ b < w.heap.size ∧ base ≤ b ∧ ∀ i u, xs[i]? = some u → w.cell? ⟨b, i, none⟩ = some u := by
  rcases h with ⟨rfl, _⟩ | ⟨cap, F, rfl, hc, hkc, hcm, hp⟩
  · omega
  · refine ⟨blk r, cap, rfl, H.lt hc, H.new _ _ hc, fun i u hu => ?_⟩
    have hi : i < xs.length := by rcases Nat.lt_or_ge i xs.length with l | l; exact l; rw [List.getElem?_eq_none l] at hu; cases hu
    have hlt : i < cap * sz := by have := Nat.mul_le_mul_right sz hkc; omega
    rw [H.cell hc hlt]
    show some (F i) = _
    rw [hp i u hu]
theorem stepCells_get (s : Nat → Stp) (k j i : Nat) (hj : j < k) (hi : i < 6) : (stepCells s k)[j * 6 + i]? = some ((s j).cell i) := by
  induction k with
  | zero => omega
  | succ k ih =>
    simp only [stepCells]
    by_cases e : j = k
    · subst e
      rw [List.getElem?_append_right (by rw [stepCells_length]; omega), stepCells_length, show j * 6 + i - j * 6 = i by omega]
      match i, hi with
      | 0, _ | 1, _ | 2, _ | 3, _ | 4, _ | 5, _ => rfl
    · rw [List.getElem?_append_left (by rw [stepCells_length]; omega)]
      exact ih (by omega)
def Ans.cell (x : Ans) (i : Nat) : Value := match i with | 0 => .bool x.ok | _ => .int .u64 x.val
theorem ansCells_get (a : Nat → Ans) (k j i : Nat) (hj : j < k) (hi : i < 2) : (ansCells a k)[j * 2 + i]? = some (Ans.cell (a j) i) := by
  induction k with
  | zero => omega
  | succ k ih =>
    simp only [ansCells]
    by_cases e : j = k
    · subst e
      rw [List.getElem?_append_right (by rw [ansCells_length]; omega), ansCells_length, show j * 2 + i - j * 2 = i by omega]
      match i, hi with
      | 0, _ | 1, _ => rfl
    · rw [List.getElem?_append_left (by rw [ansCells_length]; omega)]
      exact ih (by omega)
theorem row_arr (w : World) (arr : Array Value) (t : TypeId) : (w.alloc (.cells arr t)).rowIs w.heap.size t arr.size (fun i => arr.getD i undef) :=
  World.rowIs_alloc w arr t _ (fun i hi => by simp [Array.getD, hi])
end
section
def SeesA (w : World) (B : Nat) (ao : Option Addr) (nh : Nat) (dn : Nat → Nat) (an : Nat → Nat → Ans) : Prop :=
  ∀ h, h < nh → ∃ b off av cap, ao = some ⟨b, off, none⟩ ∧ b < B ∧ w.cell? ⟨b, off + h, none⟩ = some (.slice av (dn h) cap) ∧ ∀ j, j < dn h → ∃ b' off', av = some ⟨b', off', none⟩ ∧ b' < B ∧ ∀ i, i < 2 → w.cell? ⟨b', off' + j * 2 + i, none⟩ = some (Ans.cell (an h j) i)
theorem SeesA.below {w w' : World} {B C : Nat} {ao : Option Addr} {nh : Nat} {dn : Nat → Nat} {an : Nat → Nat → Ans} (S : SeesA w B ao nh dn an) (hb : Below C w w') (hBC : B ≤ C) : SeesA w' B ao nh dn an := fun h hh => by
  obtain ⟨b, off, av, cap, e, hl, hc, hj⟩ := S h hh
  refine ⟨b, off, av, cap, e, hl, (hb.cell (p := ⟨b, off + h, none⟩) (by show b < C; omega)).trans hc, fun j hjj => ?_⟩
  obtain ⟨b', off', e', hl', hc'⟩ := hj j hjj
  exact ⟨b', off', e', hl', fun i hi => (hb.cell (p := ⟨b', off' + j * 2 + i, none⟩) (by show b' < C; omega)).trans (hc' i hi)⟩
theorem SeesA.mono {w : World} {B C : Nat} {ao : Option Addr} {nh : Nat} {dn : Nat → Nat} {an : Nat → Nat → Ans} (S : SeesA w B ao nh dn an) (hBC : B ≤ C) : SeesA w C ao nh dn an := fun h hh => by
  obtain ⟨b, off, av, cap, e, hl, hc, hj⟩ := S h hh
  exact ⟨b, off, av, cap, e, by omega, hc, fun j hjj => by obtain ⟨b', off', e', hl', hc'⟩ := hj j hjj; exact ⟨b', off', e', by omega, hc'⟩⟩
theorem Grows.seesS {blk : Rl → Nat} {c : Rl → Option Row} {k : Nat} {s : Nat → Stp} {w : World} {base : Nat} {sa : Option Addr} {sc : Nat} (h : Grows blk c .steps 122 6 k (stepCells s k) (.slice sa k sc)) (H : Has w base blk c) : SeesS w w.heap.size sa k s := fun j hj => by
  obtain ⟨b, cap, e, hl, _, hc⟩ := grows_cell h H (stepCells_length _ _) (by omega)
  injection e with e1 _ _
  refine ⟨b, 0, e1, hl, fun i hi => ?_⟩
  rw [Nat.zero_add]
  exact hc _ _ (stepCells_get s k j i hj hi)
theorem seesA_of {blk : Rl → Nat} {c : Rl → Option Row} {K : Kd} {st : St K} {P : Par} {w : World} {base : Nat} (h : ∃ A, c .answers = some ⟨37, P.nh, A⟩ ∧ ∀ h, h < P.nh → Grows blk c (.arow h) 40 2 (st.done h) (ansCells (st.ans h) (st.done h)) (A h)) (H : Has w base blk c) :
    SeesA w w.heap.size (some ⟨blk .answers, 0, none⟩) P.nh st.done st.ans := fun h' hh => by
  obtain ⟨A, eA, hA⟩ := h
  obtain ⟨av, cv, ev⟩ := (hA h' hh).isSlice
  refine ⟨_, 0, av, cv, rfl, H.lt eA, ?_, fun j hj => ?_⟩
  · rw [Nat.zero_add, ← ev]; exact H.cell eA (i := h') hh
  · obtain ⟨b, cap, e, hl, _, hc⟩ := grows_cell (hA h' hh) H (ansCells_length _ _) (by omega)
    rw [ev] at e
    injection e with e1 _ _
    refine ⟨b, 0, e1, hl, fun i hi => ?_⟩
    rw [Nat.zero_add]
    exact hc _ _ (ansCells_get (st.ans h') (st.done h') j i hj hi)
theorem first_not (p : Nat → Prop) : ∀ n, (∀ i, i < n → p i) ∨ ∃ i, i < n ∧ ¬ p i ∧ ∀ j, j < i → p j
  | 0 => .inl (fun i hi => absurd hi (Nat.not_lt_zero i))
  | n + 1 => by
    rcases first_not p n with h | ⟨i, hi, h1, h2⟩
    · by_cases hp : p n
      · exact .inl (fun i hi => by rcases Nat.lt_or_ge i n with l | l; exact h i l; obtain rfl : i = n := (by omega); exact hp)
      · exact .inr ⟨n, by omega, hp, h⟩
    · exact .inr ⟨i, by omega, h1, h2⟩
theorem ErrOf.one {K : Kd} {P : Par} {most e e' : Int} (h : ErrOf K P most e) (h' : ErrOf K P most e') : e = e' := by
  have neg : ¬ (LongHands P.nh P.jn ∨ 65536 < P.ns ∨ 65536 < most) ∨ (LongHands P.nh P.jn ∨ 65536 < P.ns ∨ 65536 < most) := (Classical.em _).symm
  rcases h with ⟨a1, rfl⟩ | ⟨a1, a2, rfl⟩ | ⟨a1, a2, a3, a4, rfl⟩ | ⟨⟨a1, a2, a3, a4, a5⟩, a6⟩ <;> rcases h' with ⟨b1, rfl⟩ | ⟨b1, b2, rfl⟩ | ⟨b1, b2, b3, b4, rfl⟩ | ⟨⟨b1, b2, b3, b4, b5⟩, b6⟩
  all_goals first
    | rfl
    | (exfalso; omega)
    | (exfalso; rcases a2 with a2 | a2 | a2; exact b2 a2; omega; omega)
    | (exfalso; rcases b2 with b2 | b2 | b2; exact a2 b2; omega; omega)
    | exact a6.one b6
theorem ErrOf.not {K : Kd} {P : Par} {most e : Int} (h : ErrOf K P most e) : ¬ (Fine P most ∧ AllOk K P) := by
  rintro ⟨⟨b1, b2, b3, b4, b5⟩, b6⟩
  rcases h with ⟨a1, _⟩ | ⟨a1, a2, _⟩ | ⟨a1, a2, a3, a4, _⟩ | ⟨_, a6⟩
  · omega
  · rcases a2 with a2 | a2 | a2
    · exact b2 a2
    · omega
    · omega
  · omega
  · exact a6.not b6
end
section
namespace RG
structure SG (I : Bool → World → Prop) (X : Stp) (w0 : World) (c al st : Bool) (v : Value) (w : World) : Prop where
  inv : I c w
  siz : w0.heap.size ≤ w.heap.size
  own : al = true → ∃ q, v = .pointer (some ⟨q, 0, none⟩) ∧ w0.heap.size ≤ q ∧ q < w.heap.size ∧ (st = false → w.rowIs q 122 6 zcell) ∧ (st = true → w.rangeAt q 0 X.cells)
  dep : st = true → c = true ∧ al = true
section
variable {I : Bool → World → Prop} {X : Stp} {w0 w w' : World} {c al st : Bool} {v : Value}
theorem SG.start (h : I false { w0 with drawn := w0.drawn + 1 }) : SG I X w0 false false false v { w0 with drawn := w0.drawn + 1 } :=
  ⟨h, Nat.le_refl _, fun h => (by cases h), fun h => (by cases h)⟩
theorem SG.make (hI : ∀ c w w', Below w0.heap.size w w' → w0.heap.size ≤ w.heap.size → I c w → I c w') (h : SG I X w0 c al st v w) (hal : al = false) :
    SG I X w0 c true st (.pointer (some ⟨w.heap.size, 0, none⟩)) (w.alloc (.cells [Value.int .i64 0, .int .i64 0, .int .i64 0, .int .u64 0, .int .u64 0, .bool false].toArray 122)) := by
  have hst : st = false := by
    cases hs : st with
    | false => rfl
    | true => have := (h.dep hs).2; rw [hal] at this; cases this
  subst hst
  exact ⟨hI _ _ _ ((Below.refl _ w).alloc h.siz _) h.siz h.inv, by simp; have := h.siz; omega, fun _ => ⟨_, rfl, h.siz, by simp, fun _ => row0 w, fun h => (by cases h)⟩, fun h => (by cases h)⟩
theorem SG.act {g : Nat} (h : SG I X w0 c al st v w) (hc : c = false) (hg0 : g < w0.heap.size) (hi : I true w') (hg : w.grownBy w' (some g)) : SG I X w0 true al st v w' := by
  have hst : st = false := by
    cases hs : st with
    | false => rfl
    | true => have := (h.dep hs).1; rw [hc] at this; cases this
  subst hst
  refine ⟨hi, Nat.le_trans h.siz hg.size, fun ha => ?_, fun h => (by cases h)⟩
  obtain ⟨q, e, hq, hq2, hrow, _⟩ := h.own ha
  exact ⟨q, e, hq, Nat.lt_of_lt_of_le hq2 hg.size, fun _ => (hrow rfl).of_block (hg.block q hq2 (by simp; omega)), fun h => (by cases h)⟩
theorem SG.put (hI : ∀ c w w', Below w0.heap.size w w' → w0.heap.size ≤ w.heap.size → I c w → I c w') (h : SG I X w0 c al st v w) (hc : c = true) (ha : al = true) (hst : st = false) :
    ∃ q, v = .pointer (some ⟨q, 0, none⟩) ∧ w.there q 0 X.cells.length ∧ SG I X w0 c al true v (w.setCells q 0 X.cells) := by
  obtain ⟨q, e, hq, hq2, hrow, _⟩ := h.own ha
  have ht : w.there q 0 X.cells.length := rowIs.there (hrow hst) (by simp [Stp.cells])
  have tt := touch_setCells q X.cells 0 w
  have hs := h.siz
  exact ⟨q, e, ht, hI _ _ _ ⟨tt.os, tt.tape, tt.output, tt.size, fun k hk => tt.block k (by omega) (by omega)⟩ h.siz h.inv, Nat.le_trans h.siz tt.size, fun _ => ⟨q, e, hq, Nat.lt_of_lt_of_le hq2 tt.size, fun h => (by cases h), fun _ => World.rangeAt_setCells_same w q 0 X.cells ht⟩, fun _ => ⟨hc, ha⟩⟩
theorem SG.skip {L : Nat → Bool} {i kc ia is : Nat} (h1 : kc ≠ i) (h2 : ia ≠ i) (h3 : is ≠ i) (h : SG I X w0 (L kc) (L ia) (L is) v w) : SG I X w0 (upd L i true kc) (upd L i true ia) (upd L i true is) v w := by
  rwa [upd_other _ _ h1, upd_other _ _ h2, upd_other _ _ h3]
theorem SG.calls {fd : FuncId} {args : Array Value} {g kc ia is : Nat} (hc : ∀ w, I false w → Calls Tryz.prog fd args w fun e w' => e = .returned X.val ∧ I true w' ∧ w.grownBy w' (some g)) (hg0 : g < w0.heap.size) (n1 : ia ≠ kc) (n2 : is ≠ kc) :
    ∀ (L : Nat → Bool) v w, SG I X w0 (L kc) (L ia) (L is) v w → L kc = false → Calls Tryz.prog fd args w fun e w' => e = .returned X.val ∧ SG I X w0 (upd L kc true kc) (upd L kc true ia) (upd L kc true is) v w' := by
  intro L v w h hL
  have hi := h.inv
  rw [hL] at hi
  refine (hc w hi).mono ?_
  rintro e w' ⟨rfl, hi', hg⟩
  rw [upd_same, upd_other _ _ n1, upd_other _ _ n2]
  exact ⟨rfl, h.act hL hg0 hi' hg⟩
end
structure SM (I : Bool → World → Prop) (C E : Nat) (lt : List Value) (X : Stp) (c sc se : Bool) (w : World) : Prop where
  inv : I c w
  tC : w.there C 0 lt.length
  tE : w.there E 0 X.cells.length
  stoC : sc = true → w.rangeAt C 0 lt
  stoE : se = true → w.rangeAt E 0 X.cells
  dep : se = true → c = true
section
variable {I : Bool → World → Prop} {C E : Nat} {lt : List Value} {X : Stp} {w0 w w' : World} {c sc se : Bool}
theorem SM.start (h : I false w) (hC : w.there C 0 lt.length) (hE : w.there E 0 X.cells.length) : SM I C E lt X false false false w :=
  ⟨h, hC, hE, fun h => (by cases h), fun h => (by cases h), fun h => (by cases h)⟩
theorem SM.skip {L : Nat → Bool} {i kc iC iE : Nat} (h1 : kc ≠ i) (h2 : iC ≠ i) (h3 : iE ≠ i) (h : SM I C E lt X (L kc) (L iC) (L iE) w) : SM I C E lt X (upd L i true kc) (upd L i true iC) (upd L i true iE) w := by
  rwa [upd_other _ _ h1, upd_other _ _ h2, upd_other _ _ h3]
theorem SM.calls {fd : FuncId} {args : Array Value} {kc iC iE : Nat} (hc : ∀ w, I false w → Calls Tryz.prog fd args w fun e w' => e = .returned X.val ∧ I true w' ∧ w'.heap[C]? = w.heap[C]? ∧ w'.heap[E]? = w.heap[E]?) (n1 : iC ≠ kc) (n2 : iE ≠ kc) :
    ∀ (L : Nat → Bool) (v : Value) w, SM I C E lt X (L kc) (L iC) (L iE) w → L kc = false → Calls Tryz.prog fd args w fun e w' => e = .returned X.val ∧ SM I C E lt X (upd L kc true kc) (upd L kc true iC) (upd L kc true iE) w' := by
  intro L v w h hL
  have hi := h.inv
  rw [hL] at hi
  refine (hc w hi).mono ?_
  rintro e w' ⟨rfl, hi', hC, hE⟩
  rw [upd_same, upd_other _ _ n1, upd_other _ _ n2]
  exact ⟨rfl, hi', there_block h.tC hC, there_block h.tE hE, fun h1 => rangeAt_block (h.stoC h1) hC, fun h1 => rangeAt_block (h.stoE h1) hE, fun _ => rfl⟩
end
end RG
section
variable {ev : Operand → Value} {o : Oper} {w : World}
theorem ex_fieldo {x : Operand} {b k q q' : Nat} {ty : TypeId} (ho : o.op = .fieldAddr ty x k) (hx : ev x = .pointer (some ⟨b, q', none⟩)) (hf : (Instr.fieldAt ty (.pointer (some ⟨b, q', none⟩)) k).run Tryz.prog w = .ok (.pointer (some ⟨b, q, none⟩)) w) : (execOp ev o).run Tryz.prog w = .ok (.value (.pointer (some ⟨b, q, none⟩))) w := by
  simp [execOp, ho, hx, hf]
theorem fieldS5 (w : World) (b : Nat) : (Instr.fieldAt 122 (.pointer (some ⟨b, 0, none⟩)) 5).run Tryz.prog w = .ok (.pointer (some ⟨b, 5, none⟩)) w := by simp [go_sem]
end
end
section
namespace RH
open RetN (pv D)
structure In (ks : List (Nat × Nat)) (vals : Nat → Value) (xs : List Nat) (WI : (Nat → Bool) → (Nat → Value) → World → Prop) (a0 : Act) (L : Nat → Bool) (a : Act) (w : World) : Prop where
  sz : a.tmps.size = a0.tmps.size
  df : a.defers = a0.defers
  fix : ∀ k, ¬ D ks k → xs.contains k = false → a.eval (.tmp k) = a0.eval (.tmp k)
  pure : ∀ i d v, pv ks vals i = some (d, v) → L i = true → a.eval (.tmp d) = v
  world : WI L (fun k => a.eval (.tmp k)) w
inductive Does (P : Program) (Q : Exit → Act → World → Prop) (ks : List (Nat × Nat)) (vals : Nat → Value) (xs : List Nat) (WI : (Nat → Bool) → (Nat → Value) → World → Prop) (a0 : Act) (i : Nat) (o : Oper) : Prop where
  | mk (dst : o.dst = Reg.look ks i) (wp : ∀ L a w (K : Act → World → Prop), In ks vals xs WI a0 L a w → L i = false → (∀ e ∈ o.after, Region.binds .any e = true → L e.on = true) → (∀ w' v, (∀ d, o.dst = some d → v = vals i) → WI (upd L i true) (fun k => a.eval (.tmp k)) w' → K (a.put o.dst v) w') → o.wp P a w K Q)
  | own (x : Nat) (dst : o.dst = some x) (hx : xs.contains x = true) (no : Reg.look ks i = none) (wp : ∀ L a w (K : Act → World → Prop), In ks vals xs WI a0 L a w → L i = false → (∀ e ∈ o.after, Region.binds .any e = true → L e.on = true) → (∀ w' v, WI (upd L i true) (fun k => if k = x then v else a.eval (.tmp k)) w' → K (a.put (some x) v) w') → o.wp P a w K Q)
theorem region {P : Program} {id : Nat} {ops : Array Oper} {Q : Exit → Act → World → Prop} {ks : List (Nat × Nat)} {vals : Nat → Value} {xs : List Nat} {WI : (Nat → Bool) → (Nat → Value) → World → Prop} {w0 : World} {a0 : Act}
    (hm : P.follows .mixedOrders = true) (hg : ∀ (i : Nat) (o : Oper), ops[i]? = some o → o.guard = none) (hback : ∀ (i : Nat) (o : Oper), ops[i]? = some o → ∀ e ∈ o.after, Region.binds .any e = true → e.on < i)
    (hgood : (ks.all fun p => (ks.all fun q => p.1 == q.1 || p.2 != q.2) && !xs.contains p.2) = true) (hD : ∀ k, D ks k → k < a0.tmps.size) (hX : ∀ k, xs.contains k = true → k < a0.tmps.size)
    (hloc : ∀ L s s' w, (∀ k, xs.contains k = true → s k = s' k) → WI L s w → WI L s' w) (hW0 : ∀ s, WI (fun _ => false) s { w0 with drawn := w0.drawn + 1 })
    (does : ∀ (i : Nat) (o : Oper), ops[i]? = some o → Does P Q ks vals xs WI a0 i o)
    (fin : ∀ L a w, In ks vals xs WI a0 L a w → (∀ i, i < ops.size → L i = true) → Q .normal a w) :
    (Code.region id ops true).wp P Q a0 w0 := by
  simp only [List.all_eq_true, bne_iff_ne, Bool.or_eq_true, beq_iff_eq, Bool.and_eq_true, Bool.not_eq_true'] at hgood
  have pvm : ∀ {i d v}, pv ks vals i = some (d, v) → (i, d) ∈ ks := fun {i d v} h => by
    obtain ⟨d', h1, h2⟩ := Option.map_eq_some_iff.1 h
    cases h2; exact Reg.look_mem h1
  refine region_inv hm hg hback (fun L a w => In ks vals xs WI a0 L a w) ?step (fun L a w h hall => fin L a w h hall) ?start
  case start => exact ⟨rfl, rfl, fun _ _ _ => rfl, fun _ _ _ _ h => (by cases h), hW0 _⟩
  case step =>
    rintro L a w i o h ho hL hd
    have none_ok : ∀ {j d' v'}, Reg.look ks i = none → pv ks vals j = some (d', v') → upd L i true j = true → L j = true := fun {j d' v'} hlk hj hLj => by
      have hji : j ≠ i := fun e => by
        subst e
        obtain ⟨d'', h1, _⟩ := Option.map_eq_some_iff.1 hj
        rw [hlk] at h1; cases h1
      rwa [upd_other _ _ hji] at hLj
    rcases does i o ho with ⟨hdst, hwp⟩ | ⟨x, hdst, hx, hno, hwp⟩
    · refine hwp L a w _ h hL hd (fun w' v hv hW => ?_)
      cases hlk : Reg.look ks i with
      | none =>
        rw [hdst, hlk]
        exact ⟨h.sz, h.df, h.fix, fun j d' v' hj hLj => h.pure j d' v' hj (none_ok hlk hj hLj), hW⟩
      | some d =>
        have hv' := hv d (hdst.trans hlk)
        subst hv'
        rw [hdst, hlk]
        have hm' : (i, d) ∈ ks := Reg.look_mem hlk
        have hDd : D ks d := by simp only [D, List.any_eq_true, beq_iff_eq]; exact ⟨_, hm', rfl⟩
        have e : ∀ k : Nat, k ≠ d → (a.put (some d) (vals i)).eval (.tmp k) = a.eval (.tmp k) := fun k hk => put_other hk
        refine ⟨by rw [put_size]; exact h.sz, by rw [put_defs]; exact h.df, fun k hk hkx => ?_, fun j d' v' hj hLj => ?_, hloc _ _ _ _ (fun k hk => (e k (fun he => by subst he; rw [(hgood _ hm').2] at hk; cases hk)).symm) hW⟩
        · rw [e k (fun he => hk (he ▸ hDd))]; exact h.fix k hk hkx
        · by_cases hij : j = i
          · subst hij
            rw [pv, hlk] at hj
            cases hj
            exact put_eval (by rw [h.sz]; exact hD _ hDd)
          · rw [upd_other _ _ hij] at hLj
            have : d' ≠ d := by
              rcases (hgood _ hm').1 _ (pvm hj) with e1 | e1
              · exact absurd e1.symm hij
              · exact Ne.symm e1
            rw [e d' this]
            exact h.pure j d' v' hj hLj
    · refine hwp L a w _ h hL hd (fun w' v hW => ?_)
      have e : ∀ k : Nat, k ≠ x → (a.put (some x) v).eval (.tmp k) = a.eval (.tmp k) := fun k hk => put_other hk
      have ex : (a.put (some x) v).eval (.tmp x) = v := put_eval (by rw [h.sz]; exact hX x hx)
      refine ⟨by rw [put_size]; exact h.sz, by rw [put_defs]; exact h.df, fun k hk hkx => by rw [e k (fun he => by subst he; rw [hx] at hkx; cases hkx)]; exact h.fix k hk hkx, fun j d' v' hj hLj => ?_, hloc _ _ _ _ (fun k hk => ?_) hW⟩
      · rw [e d' (fun he => by subst he; have := (hgood _ (pvm hj)).2; rw [hx] at this; cases this)]
        exact h.pure j d' v' hj (none_ok hno hj hLj)
      · by_cases he : k = x
        · subst he; simp [ex]
        · simp [he, e k he]
section
variable {P : Program} {Q : Exit → Act → World → Prop} {ks : List (Nat × Nat)} {vals : Nat → Value} {xs : List Nat} {WI : (Nat → Bool) → (Nat → Value) → World → Prop} {a0 : Act} {i : Nat} {o : Oper}
theorem Does.read (hd : o.dst = Reg.look ks i) (hW : ∀ L s w, WI L s w → WI (upd L i true) s w) (h : ∀ L a w, In ks vals xs WI a0 L a w → (∀ e ∈ o.after, Region.binds .any e = true → L e.on = true) → (execOp a.eval o).run P w = .ok (.value (vals i)) w) : Does P Q ks vals xs WI a0 i o :=
  .mk hd fun L a w K hI _ hdep hk => wp_value (h L a w hI hdep) (hk w _ (fun _ _ => rfl) (hW L _ w hI.world))
theorem Does.call {x : Nat} {f : FuncId} {args : Array Value} (hd : o.dst = some x) (hx : xs.contains x = true) (hn : Reg.look ks i = none) (h : ∀ L a w, In ks vals xs WI a0 L a w → (∀ e ∈ o.after, Region.binds .any e = true → L e.on = true) → (execOp a.eval o).run P w = .ok (.enter f args) w)
    (hc : ∀ L s w, WI L s w → L i = false → Calls P f args w fun e w' => ∃ v, e = .returned v ∧ WI (upd L i true) (fun k => if k = x then v else s k) w') : Does P Q ks vals xs WI a0 i o :=
  .own x hd hx hn fun L a w K hI hL hdep hk => wp_call (h L a w hI hdep) ((hc L _ w hI.world hL).mono (by rintro e w' ⟨v, rfl, hw⟩; exact ⟨_, rfl, by rw [hd]; exact hk _ _ hw⟩))
theorem Does.copy {x y : Nat} (hd : o.dst = some x) (hx : xs.contains x = true) (hn : Reg.look ks i = none) (ho : o.op = .assign (.tmp y)) (hP : ∀ (ev : Operand → Value) (w : World), (execOp ev o).run P w = .ok (.value (ev (.tmp y))) w)
    (hw : ∀ L s w, WI L s w → L i = false → (∀ e ∈ o.after, Region.binds .any e = true → L e.on = true) → WI (upd L i true) (fun k => if k = x then s y else s k) w) : Does P Q ks vals xs WI a0 i o :=
  .own x hd hx hn fun L a w K hI hL hdep hk => wp_value (hP a.eval w) (by rw [hd]; exact hk _ _ (hw L _ w hI.world hL hdep))
end
end RH
end
end Go.Proofs.YtidihnnmdmlgfaaGreat
