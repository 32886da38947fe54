/-
  Lemmas: RGT, RKind, RViews, LViews, RSq, RH.
-/
import Derived.Test.YtnodkeoikamonaaGreatTp19
/-
  A reference's Step, whatever the layer: its task in a variable, the two variables that it answers by, the words; and its regions that draw their order, with calls that make memory.
-/
namespace Go.Proofs.YtnodkeoikamonaaGreat
open Go.RowKit
set_option linter.unusedVariables false
set_option linter.unusedSimpArgs false
structure RT (w0 : World) (g n cap : Nat) (l : List Value) (f : Nat → Int) (w : World) : Prop where
  tk : w.rowIs w0.heap.size 85 28 (lrow l)
  rt : w.rowIs (w0.heap.size + 1) 85 28 (lrow tk0)
  rs : w.rowIs (w0.heap.size + 2) 71 6 zcell
  row : IsRow w g n cap f
  gro : w0.grownBy w (some g)
  lg : g < w0.heap.size
  len : l.length = 28
namespace RT
variable {w0 w w' : World} {g n cap : Nat} {l : List Value} {f f' : Nat → Int}
theorem size (h : RT w0 g n cap l f w) : w0.heap.size + 3 ≤ w.heap.size := by have := h.rs.lt; omega
theorem belowB {B : Nat} (h : RT w0 g n cap l f w) (hB : w0.heap.size + 3 ≤ B) (hb : Below B w w') (hs : B ≤ w.heap.size) : RT w0 g n cap l f w' := by
  have := h.lg
  have sz := h.size
  refine ⟨h.tk.of_block (hb.block _ (by omega)), h.rt.of_block (hb.block _ (by omega)), h.rs.of_block (hb.block _ (by omega)), h.row.block (hb.block _ (by omega)), ?_, h.lg, h.len⟩
  exact ⟨hb.os.trans h.gro.os, hb.tape.trans h.gro.tape, hb.output.trans h.gro.output, Nat.le_trans h.gro.size hb.size, fun k hk hn => (hb.block k (by omega)).trans (h.gro.block k hk hn)⟩
theorem below (h : RT w0 g n cap l f w) (hb : Below w.heap.size w w') : RT w0 g n cap l f w' := h.belowB h.size hb (Nat.le_refl _)
theorem act (h : RT w0 g n cap l f w) (hr : IsRow w' g n cap f') (hg : w.grownBy w' (some g)) : RT w0 g n cap l f' w' := by
  have := h.lg
  have sz := h.size
  exact ⟨h.tk.of_block (hg.block _ (by omega) (by simp; omega)), h.rt.of_block (hg.block _ (by omega) (by simp; omega)), h.rs.of_block (hg.block _ (by omega) (by simp; omega)), hr, grown_trans h.gro hg, h.lg, h.len⟩
theorem cell (h : RT w0 g n cap l f w) {i : Nat} {v : Value} (hv : l[i]? = some v) : w.cell? ⟨w0.heap.size, i, none⟩ = some v := by
  have hi := (List.getElem?_eq_some_iff.1 hv).1
  rw [h.tk.cell (i := i) (by have := h.len; omega), lrow_of hv]
theorem range (h : RT w0 g n cap l f w) : w.rangeAt w0.heap.size 0 l := rowIs.range h.tk h.len
theorem part (h : RT w0 g n cap l f w) {vs : List Value} (hv : ∀ (j : Nat) (v : Value), vs[j]? = some v → l[j]? = some v) : w.rangeAt w0.heap.size 0 vs := fun j v hj => by
  rw [Nat.zero_add]; exact h.cell (hv j v hj)
theorem frozen (h : RT w0 g n cap l f w) (i : Nat) : w.frozen? ⟨w0.heap.size, i, none⟩ = false := h.tk.frozen i
theorem set (h : RT w0 g n cap l f w) (i : Nat) (hi : i < 28) (v : Value) : RT w0 g n cap (l.set i v) f (w.setCell ⟨w0.heap.size, i, none⟩ v) := by
  have hl := h.lg
  refine ⟨rowIs.setL h.tk (by have := h.len; omega) v, h.rt.setOther (by simp) v, h.rs.setOther (by simp) v, h.row.setOther (by simp; omega) v, grown_setCell h.gro _ (.inr (Nat.le_refl _)) v, h.lg, by simp [h.len]⟩
theorem alloc (h : RT w0 g n cap l f w) (o : Obj) : RT w0 g n cap l f (w.alloc o) := h.below ((Below.refl _ w).alloc (Nat.le_refl _) o)
theorem start (hr : IsRow w0 g n cap f) (hl : l.length = 28) : RT w0 g n cap l f (((w0.alloc (.cells l.toArray 85)).alloc (.cells tk0.toArray 85)).alloc (.cells [Value.int .i64 0, .int .i64 0, .int .i64 0, .int .u64 0, .int .u64 0, .bool false].toArray 71)) := by
  refine ⟨((rowL_alloc w0 l _ hl).alloc _).alloc _, ?_, ?_, ((hr.alloc _).alloc _).alloc _, grown_alloc (grown_alloc (grown_alloc (grown_refl _ _) _) _) _, hr.lt, hl⟩
  · have := (rowL_alloc (w0.alloc (.cells l.toArray 85)) tk0 85 (n := 28) rfl).alloc (.cells [Value.int .i64 0, .int .i64 0, .int .i64 0, .int .u64 0, .int .u64 0, .bool false].toArray 71)
    rwa [World.size_alloc] at this
  · have := row0 ((w0.alloc (.cells l.toArray 85)).alloc (.cells tk0.toArray 85))
    rwa [World.size_alloc, World.size_alloc] at this
end RT
structure RD (w0 : World) (g n cap : Nat) (l : List Value) (f : Nat → Int) (q : Option Nat) (X : Stp) (w : World) : Prop where
  tk : w.rowIs w0.heap.size 85 28 (lrow l)
  row : IsRow w g n cap f
  gro : w0.grownBy w (some g)
  lg : g < w0.heap.size
  len : l.length = 28
  sz : w0.heap.size + 3 ≤ w.heap.size
  var : ∀ k, q = some k → w.rangeAt k 0 X.cells ∧ w0.heap.size + 3 ≤ k ∧ k < w.heap.size
namespace RD
variable {w0 w w' : World} {g n cap : Nat} {l : List Value} {f f' : Nat → Int} {q : Option Nat} {X : Stp}
theorem of (h : RT w0 g n cap l f w) (hq : ∀ k, q = some k → w.rangeAt k 0 X.cells ∧ w0.heap.size + 3 ≤ k ∧ k < w.heap.size) : RD w0 g n cap l f q X w := ⟨h.tk, h.row, h.gro, h.lg, h.len, h.size, hq⟩
theorem drew (h : RD w0 g n cap l f q X w) : RD w0 g n cap l f q X { w with drawn := w.drawn + 1 } :=
  ⟨h.tk.drew, h.row.block rfl, grown_drew h.gro, h.lg, h.len, h.sz, fun k e => ⟨rangeAt_block (h.var k e).1 rfl, (h.var k e).2⟩⟩
theorem touch (h : RD w0 g n cap l f q X w) (ht : Touch w w' (fun k => k = w0.heap.size + 1 ∨ k = w0.heap.size + 2)) : RD w0 g n cap l f q X w' := by
  have := h.lg
  have sz := h.sz
  refine ⟨h.tk.of_block (ht.block _ (by omega) (by omega)), h.row.block (ht.block _ (by omega) (by omega)), ?_, h.lg, h.len, Nat.le_trans h.sz ht.size, fun k e => ?_⟩
  · exact ⟨ht.os.trans h.gro.os, ht.tape.trans h.gro.tape, ht.output.trans h.gro.output, Nat.le_trans h.gro.size ht.size, fun k hk hn => (ht.block k (by omega) (by omega)).trans (h.gro.block k hk hn)⟩
  · obtain ⟨a1, a2, a3⟩ := h.var k e
    exact ⟨rangeAt_block a1 (ht.block k a3 (by omega)), a2, Nat.lt_of_lt_of_le a3 ht.size⟩
theorem below (h : RD w0 g n cap l f q X w) (hb : Below w.heap.size w w') : RD w0 g n cap l f q X w' :=
  h.touch ⟨hb.os, hb.tape, hb.output, hb.size, fun k hk _ => hb.block k hk⟩
theorem act (h : RD w0 g n cap l f q X w) (hr : IsRow w' g n cap f') (hg : w.grownBy w' (some g)) : RD w0 g n cap l f' q X w' := by
  have := h.lg
  have sz := h.sz
  refine ⟨h.tk.of_block (hg.block _ (by omega) (by simp; omega)), hr, grown_trans h.gro hg, h.lg, h.len, Nat.le_trans h.sz hg.size, fun k e => ?_⟩
  obtain ⟨a1, a2, a3⟩ := h.var k e
  exact ⟨rangeAt_block a1 (hg.block k a3 (by simp; omega)), a2, Nat.lt_of_lt_of_le a3 hg.size⟩
theorem cell (h : RD w0 g n cap l f q X w) {i : Nat} {v : Value} (hv : l[i]? = some v) : w.cell? ⟨w0.heap.size, i, none⟩ = some v := by
  have hi := (List.getElem?_eq_some_iff.1 hv).1
  rw [h.tk.cell (i := i) (by have := h.len; omega), lrow_of hv]
theorem range (h : RD w0 g n cap l f q X w) : w.rangeAt w0.heap.size 0 l := rowIs.range h.tk h.len
theorem part (h : RD w0 g n cap l f q X w) {vs : List Value} (hv : ∀ (j : Nat) (v : Value), vs[j]? = some v → l[j]? = some v) : w.rangeAt w0.heap.size 0 vs := fun j v hj => by
  rw [Nat.zero_add]; exact h.cell (hv j v hj)
theorem scell (h : RD w0 g n cap l f q X w) {k i : Nat} {v : Value} (e : q = some k) (hv : X.cells[i]? = some v) : w.cell? ⟨k, i, none⟩ = some v := by
  have := (h.var k e).1 i v hv
  simpa using this
end RD
namespace RG
section
variable {I : Bool → World → Prop} {X : Stp} {w0 w w' : World} {c al st : Bool} {v : Value}
theorem SG.quiet (hI : ∀ c w w', Below w0.heap.size w w' → w0.heap.size ≤ w.heap.size → I c w → I c w') (h : SG I X w0 c al st v w) (hb : Below w.heap.size w w') : SG I X w0 c al st v w' := by
  refine ⟨hI _ _ _ (hb.mono h.siz) h.siz h.inv, Nat.le_trans h.siz hb.size, fun ha => ?_, h.dep⟩
  obtain ⟨q, e, hq, hq2, h1, h2⟩ := h.own ha
  exact ⟨q, e, hq, Nat.lt_of_lt_of_le hq2 hb.size, fun hs => (h1 hs).of_block (hb.block q hq2), fun hs => rangeAt_block (h2 hs) (hb.block q hq2)⟩
end
section
variable {I : Bool → World → Prop} {C E : Nat} {lt : List Value} {X : Stp} {w0 w w' : World} {c sc se : Bool}
theorem SM.begin (h : I c w) (hC : w.there C 0 lt.length) (hE : w.there E 0 X.cells.length) : SM I C E lt X c false false w :=
  ⟨h, hC, hE, fun h => (by cases h), fun h => (by cases h), fun h => (by cases h)⟩
theorem SM.quiet (hI : I c w') (hC : C < w.heap.size) (hE : E < w.heap.size) (h : SM I C E lt X c sc se w) (hb : Below w.heap.size w w') : SM I C E lt X c sc se w' :=
  ⟨hI, there_block h.tC (hb.block C hC), there_block h.tE (hb.block E hE), fun h1 => rangeAt_block (h.stoC h1) (hb.block C hC), fun h1 => rangeAt_block (h.stoE h1) (hb.block E hE), h.dep⟩
theorem SM.skip2 {L : Nat → Bool} {i iC iE : Nat} (h2 : iC ≠ i) (h3 : iE ≠ i) (h : SM I C E lt X c (L iC) (L iE) w) : SM I C E lt X c (upd L i true iC) (upd L i true iE) w := by
  rwa [upd_other _ _ h2, upd_other _ _ h3]
end
end RG
end Go.Proofs.YtnodkeoikamonaaGreat
/-
  What a layer's reference does with its tasks.
-/
namespace Go.Proofs.YtnodkeoikamonaaGreat
open Go.RowKit
set_option linter.unusedVariables false
structure RKind (K : Kd) (rep : List Value → K.σ → Prop) (sh : Shp) (fst fsp : FuncId) : Prop where
  start : ∀ (k : Int) (j : Jb), 0 ≤ k → k < 8 → j.wf → ∃ cs, IsTk cs ∧ (K.err k j = 0 → rep cs (K.init k j)) ∧ ∀ w : World, Calls Tryz.prog fst #[sh.val, .int .i64 k, j.val, kept0] w fun e w' => e = .returned (.tuple #[.agg cs.toArray, .int .i64 (K.err k j)]) ∧ Below w.heap.size w w'
  step : ∀ (cs : List Value) (s : K.σ), IsTk cs → rep cs s → ∀ (n : Nat) (f : Nat → Int), (∀ i, i < n → 0 ≤ f i ∧ f i ≤ 18446744073709551615) → ∃ cs', IsTk cs' ∧ (¬ K.ends s (stepOf n f (K.req s)) = true → rep cs' (K.next s (stepOf n f (K.req s)))) ∧
    (K.ends s (stepOf n f (K.req s)) = true → cs'[22]? = some (.bool (K.tell (K.next s (stepOf n f (K.req s)))).ok) ∧ cs'[23]? = some (.int .u64 (K.tell (K.next s (stepOf n f (K.req s)))).val)) ∧ (∀ q, q < 4 → cs'[24 + q]? = some (.int .u64 0)) ∧
    ∀ (w : World) (g cap : Nat), IsRow w g n cap f → Calls Tryz.prog fsp #[.agg cs.toArray, .slice (some ⟨g, 0, none⟩) n cap] w fun e w' => e = .returned (.tuple #[.agg cs'.toArray, (stepOf n f (K.req s)).val, .bool (K.ends s (stepOf n f (K.req s)))]) ∧ IsRow w' g n cap (wordsOf n f (K.req s)) ∧ w.grownBy w' (some g)
end Go.Proofs.YtnodkeoikamonaaGreat
/-
  What both sides tell of a run.
-/
namespace Go.Proofs.YtnodkeoikamonaaGreat
open Go.RowKit
set_option linter.unusedVariables false
set_option linter.unusedSimpArgs false
set_option linter.unnecessarySimpa false
set_option maxRecDepth 20000
structure Vw where
  k : Nat
  s : Nat → Stp
  n : Nat
  f : Nat → Int
  en : Bool
  m : Nat
  dn : Nat → Nat
  an : Nat → Nat → Ans
  er : Int
def TV (w : World) (V : Vw) (v : Value) : Prop :=
  ∃ sa sc wa wc aa ac, v = .tuple #[.agg #[.slice sa V.k sc, .slice wa V.n wc, .bool V.en], .slice aa V.m ac, .int .i64 V.er] ∧ SeesS w w.heap.size sa V.k V.s ∧ Sees w w.heap.size wa V.n V.f ∧ SeesA w w.heap.size aa V.m V.dn V.an
def RAllR (K : Kd) (rep : List Value → K.σ → Prop) (w : World) (P : Par) (f : Nat → Int) (most : Int) (e : Ending) (w' : World) : Prop :=
  Below w.heap.size w w' ∧ ((∃ er, ErrOf K P most er ∧ e = .returned (errVal er)) ∨ (Fine P most ∧ AllOk K P ∧ ∃ v, e = .returned v ∧ RTold K rep P (runSt P (st0 K P f) most.toNat) (w.heap.size + 1) v w'))
end Go.Proofs.YtnodkeoikamonaaGreat
/-
  What both sides of a layer's run tell.
-/
namespace Go.Proofs.YtnodkeoikamonaaGreat
open Go.RowKit
set_option linter.unusedVariables false
set_option linter.unusedSimpArgs false
set_option linter.unnecessarySimpa false
set_option maxRecDepth 20000
def RLAll (K : Kd) (rep : List Value → K.σ → Prop) (want : Nat) (w : World) (P : Par) (f : Nat → Int) (most : Int) (e : Ending) (w' : World) : Prop :=
  Below w.heap.size w w' ∧ ((∃ er, LErr K want P most er ∧ e = .returned (errVal er)) ∨ (P.n = want ∧ Fine P most ∧ AllOk K P ∧ ∃ v, e = .returned v ∧ RTold K rep P (runSt P (st0 K P f) most.toNat) w.heap.size v w'))
theorem LErr.one {K : Kd} {want : Nat} {P : Par} {most e e' : Int} (h : LErr K want P most e) (h' : LErr K want P most e') : e = e' := by
  rcases h with ⟨a, rfl⟩ | ⟨a, h⟩
  · rcases h' with ⟨_, rfl⟩ | ⟨b, _⟩
    · rfl
    · exact absurd b a
  · rcases h' with ⟨b, _⟩ | ⟨_, h'⟩
    · exact absurd a b
    · exact h.one h'
theorem LErr.not {K : Kd} {want : Nat} {P : Par} {most e : Int} (h : LErr K want P most e) (h0 : P.n = want) : ¬ (Fine P most ∧ AllOk K P) := by
  rcases h with ⟨a, _⟩ | ⟨_, h⟩
  · exact absurd h0 a
  · exact h.not
theorem rtold_touch {K : Kd} {rep : List Value → K.σ → Prop} {P : Par} {st : St K} {base base' b : Nat} {v : Value} {w w' : World} (h : RTold K rep P st base v w) (ht : Touch w w' (fun k => k = b)) (hb : b < base) (hbb : base' ≤ base) : RTold K rep P st base' v w' := by
  obtain ⟨blk, c, un, capw, sv, rfl, H, G⟩ := h
  exact ⟨blk, c, un, capw, sv, rfl, ((H.touch ht (fun r x e he => by have := H.new r x e; omega))).base_le hbb, G⟩
theorem RLAll.up {K : Kd} {rep : List Value → K.σ → Prop} {want : Nat} {w0 w w' w2 : World} {P : Par} {f : Nat → Int} {most : Int} {e : Ending} {b : Nat} (h : RLAll K rep want w P f most e w') (h0 : Below w0.heap.size w0 w) (ht : Touch w' w2 (fun k => k = b)) (hb0 : w0.heap.size ≤ b) (hb : b < w.heap.size) : RLAll K rep want w0 P f most e w2 := by
  obtain ⟨hB, hc⟩ := h
  refine ⟨(h0.trans (hB.mono h0.size)).trans (ht.below (fun k hk => by omega) (Nat.le_trans h0.size hB.size)), ?_⟩
  rcases hc with h | ⟨h1, h2, h3, v, he, hT⟩
  · exact .inl h
  · exact .inr ⟨h1, h2, h3, v, he, rtold_touch hT ht hb h0.size⟩
theorem RLAll.shape {K : Kd} {rep : List Value → K.σ → Prop} {want : Nat} {w w' : World} {P : Par} {f : Nat → Int} {most : Int} {e : Ending} (h : RLAll K rep want w P f most e w') : ∃ sa k sc wa n wc en aa m ac er, e = .returned (tv3 sa k sc wa n wc en aa m ac er) := by
  rcases h.2 with ⟨er, _, rfl⟩ | ⟨_, _, _, v, rfl, blk, c, un, capw, sv, rfl, H, G⟩
  · exact ⟨none, 0, 0, none, 0, 0, false, none, 0, 0, er, rfl⟩
  · obtain ⟨sa, sc, rfl⟩ := G.steps.isSlice'
    exact ⟨_, _, _, _, _, _, _, _, _, _, _, rfl⟩
variable {K : Kd} {rep : List Value → K.σ → Prop} {sh : Shp} {want : Nat} {w : World} {ao aoh aos : Option Addr} {cap caph caps : Nat} {P : Par} {f : Nat → Int} {most : Int}
end Go.Proofs.YtnodkeoikamonaaGreat
/-
  A region in its order, by a table of what each operation tells; guarded operations among them.
-/
namespace Go.Proofs.YtnodkeoikamonaaGreat
open Go.RowKit
set_option linter.unusedVariables false
set_option linter.unusedSimpArgs false
namespace RSq
open RetN (pv D)
structure In (ks : List (Nat × Nat)) (vals : Nat → Value) (WI : World → Prop) (a0 : Act) (n : Nat) (a : Act) (w : World) : Prop where
  sz : a.tmps.size = a0.tmps.size
  df : a.defers = a0.defers
  fix : ∀ k, ¬ D ks k → a.eval (.tmp k) = a0.eval (.tmp k)
  pure : ∀ i d v, pv ks vals i = some (d, v) → i < n → a.eval (.tmp d) = v
  world : WI w
structure Does (P : Program) (Q : Exit → Act → World → Prop) (ops : Array Oper) (ks : List (Nat × Nat)) (vals : Nat → Value) (WI : World → Prop) (a0 : Act) (i : Nat) (o : Oper) : Prop where
  dst : o.dst = Reg.look ks i
  want : ∀ a w, In ks vals WI a0 i a w → Region.wanted o (yielded ops a.tmps) = true
  wp : ∀ a w (K : Act → World → Prop), In ks vals WI a0 i a w → (∀ w' v, (∀ d, o.dst = some d → v = vals i) → WI w' → K (a.put o.dst v) w') → o.wp P a w K Q
theorem region {P : Program} {id : Nat} {ops : Array Oper} {Q : Exit → Act → World → Prop} {ks : List (Nat × Nat)} {vals : Nat → Value} {WI : World → Prop} {w0 : World} {a0 : Act}
    (hgood : (ks.all fun p => (ks.all fun q => p.1 == q.1 || p.2 != q.2)) = true) (hD : ∀ k, D ks k → k < a0.tmps.size) (hW0 : WI w0)
    (does : ∀ (i : Nat) (o : Oper), ops[i]? = some o → Does P Q ops ks vals WI a0 i o)
    (fin : ∀ a w, In ks vals WI a0 ops.size a w → Q .normal a w) :
    (Code.region id ops false).wp P Q a0 w0 := by
  simp only [List.all_eq_true, bne_iff_ne, Bool.or_eq_true, beq_iff_eq] at hgood
  have pvm : ∀ {i d v}, pv ks vals i = some (d, v) → (i, d) ∈ ks := fun {i d v} h => by
    obtain ⟨d', h1, h2⟩ := Option.map_eq_some_iff.1 h
    cases h2; exact Reg.look_mem h1
  have go : ∀ (rest : List Oper) (i : Nat) (a : Act) (w : World), rest = ops.toList.drop i → In ks vals WI a0 i a w → wpList P ops Q rest a w := by
    intro rest
    induction rest with
    | nil =>
      intro i a w hr h
      have hi : ops.size ≤ i := by
        have := congrArg List.length hr
        simp at this
        omega
      exact fin a w ⟨h.sz, h.df, h.fix, fun j d v hj hlt => h.pure j d v hj (by omega), h.world⟩
    | cons o rest ih =>
      intro i a w hr h
      have hi : i < ops.size := by
        have := congrArg List.length hr
        simp at this
        omega
      have ho : ops[i]? = some o := by
        have := congrArg (fun l => l[0]?) hr
        simp at this
        exact this.symm
      have hrest : rest = ops.toList.drop (i + 1) := by
        have := congrArg List.tail hr
        simpa [List.tail_drop] using this
      obtain ⟨hdst, hwant, hwp⟩ := does i o ho
      refine wpList_step (fun K hK => ?_)
      rw [if_pos (hwant a w h)]
      refine hwp a w K h (fun w' v hv hW => hK _ _ (ih (i + 1) _ _ hrest ?_))
      cases hlk : Reg.look ks i with
      | none =>
        rw [hdst, hlk]
        exact ⟨h.sz, h.df, h.fix, fun j d' v' hj hLj => h.pure j d' v' hj (by
          have hji : j ≠ i := fun e => by
            subst e
            obtain ⟨d'', h1, _⟩ := Option.map_eq_some_iff.1 hj
            rw [hlk] at h1; cases h1
          omega), hW⟩
      | some d =>
        have hv' := hv d (hdst.trans hlk)
        subst hv'
        rw [hdst, hlk]
        have hm' : (i, d) ∈ ks := Reg.look_mem hlk
        have hDd : D ks d := by simp only [D, List.any_eq_true, beq_iff_eq]; exact ⟨_, hm', rfl⟩
        have e : ∀ k : Nat, k ≠ d → (a.put (some d) (vals i)).eval (.tmp k) = a.eval (.tmp k) := fun k hk => put_other hk
        refine ⟨by rw [put_size]; exact h.sz, by rw [put_defs]; exact h.df, fun k hk => ?_, fun j d' v' hj hLj => ?_, hW⟩
        · rw [e k (fun he => hk (he ▸ hDd))]; exact h.fix k hk
        · by_cases hij : j = i
          · subst hij
            rw [pv, hlk] at hj
            cases hj
            exact put_eval (by rw [h.sz]; exact hD _ hDd)
          · have : d' ≠ d := by
              rcases hgood _ hm' _ (pvm hj) with e1 | e1
              · exact absurd e1.symm hij
              · exact Ne.symm e1
            rw [e d' this]
            exact h.pure j d' v' hj (by omega)
  exact wp_region_list (go _ 0 a0 w0 (by simp) ⟨rfl, rfl, fun _ _ => rfl, fun _ _ _ _ h => absurd h (Nat.not_lt_zero _), hW0⟩)
section
variable {P : Program} {Q : Exit → Act → World → Prop} {ops : Array Oper} {ks : List (Nat × Nat)} {vals : Nat → Value} {WI : World → Prop} {a0 : Act} {i : Nat} {o : Oper}
theorem free (h : o.guard = none) : ∀ a w, In ks vals WI a0 i a w → Region.wanted o (yielded ops a.tmps) = true := fun a w _ => by simp [Region.wanted, h]
theorem held {j d : Nat} {b : Bool} (h : o.guard = some (j, b)) (hd : (ops[j]?).bind (·.dst) = some d) (hj : j < i) (hp : pv ks vals j = some (d, .bool b)) (hds : d < a0.tmps.size) : ∀ a w, In ks vals WI a0 i a w → Region.wanted o (yielded ops a.tmps) = true := fun a w hI => by
  have e := hI.pure j d _ hp hj
  have hs : d < a.tmps.size := by rw [hI.sz]; exact hds
  have e2 : a.tmps[d]? = some (.bool b) := by
    have : a.tmps.getD d undef = .bool b := e
    simpa [Array.getD, hs] using this
  simp [Region.wanted, h, yielded, hd, e2]
theorem Does.read (hd : o.dst = Reg.look ks i) (hw : ∀ a w, In ks vals WI a0 i a w → Region.wanted o (yielded ops a.tmps) = true) (h : ∀ a w, In ks vals WI a0 i a w → (execOp a.eval o).run P w = .ok (.value (vals i)) w) : Does P Q ops ks vals WI a0 i o :=
  ⟨hd, hw, fun a w K hI hk => wp_value (h a w hI) (hk w _ (fun _ _ => rfl) hI.world)⟩
theorem Does.call {f : FuncId} {args : Array Value} (hd : o.dst = Reg.look ks i) (hw : ∀ a w, In ks vals WI a0 i a w → Region.wanted o (yielded ops a.tmps) = true) (h : ∀ a w, In ks vals WI a0 i a w → (execOp a.eval o).run P w = .ok (.enter f args) w)
    (hc : ∀ w, WI w → Calls P f args w fun e w' => e = .returned (vals i) ∧ WI w') : Does P Q ops ks vals WI a0 i o :=
  ⟨hd, hw, fun a w K hI hk => wp_call (h a w hI) ((hc w hI.world).mono (by rintro e w' ⟨rfl, h2⟩; exact ⟨_, rfl, hk _ _ (fun _ _ => rfl) h2⟩))⟩
end
end RSq
section
variable {ev : Operand → Value} {o : Oper} {w : World}
theorem exq_lenW {x : Operand} {ao : Option Addr} {n cap : Nat} (ho : o.op = .call { callee := .builtin .len, args := #[x], argTypes := #[24] }) (hx : ev x = .slice ao n cap) : (execOp ev o).run Tryz.prog w = .ok (.value (.int .i64 n)) w := by
  simp [execOp, ho, hx, go_sem]
theorem exq_lenH {x : Operand} {ao : Option Addr} {n cap : Nat} (ho : o.op = .call { callee := .builtin .len, args := #[x], argTypes := #[25] }) (hx : ev x = .slice ao n cap) : (execOp ev o).run Tryz.prog w = .ok (.value (.int .i64 n)) w := by
  simp [execOp, ho, hx, go_sem]
theorem exq_lenI {x : Operand} {ao : Option Addr} {n cap : Nat} (ho : o.op = .call { callee := .builtin .len, args := #[x], argTypes := #[26] }) (hx : ev x = .slice ao n cap) : (execOp ev o).run Tryz.prog w = .ok (.value (.int .i64 n)) w := by
  simp [execOp, ho, hx, go_sem]
theorem exq_lenJ {x : Operand} {ao : Option Addr} {n cap : Nat} (ho : o.op = .call { callee := .builtin .len, args := #[x], argTypes := #[60] }) (hx : ev x = .slice ao n cap) : (execOp ev o).run Tryz.prog w = .ok (.value (.int .i64 n)) w := by
  simp [execOp, ho, hx, go_sem]
theorem exq_add1 {x y : Operand} {a b c : Int} (ho : o.op = .binOp .add 3 x y 3) (hx : ev x = .int .i64 a) (hy : ev y = .int .i64 b) (hc : wrap64 (a + b) = c) : (execOp ev o).run Tryz.prog w = .ok (.value (.int .i64 c)) w := by
  have : IntKind.i64.wrap (a + b) = c := by rw [IntKind.wrap_i64, ← hc]; unfold wrap64; omega
  simp [execOp, ho, hx, hy, go_sem, this]
theorem exq_cutW {x y : Operand} {b off n cap m : Nat} (ho : o.op = .slice 24 x none (some y) none) (hx : ev x = .slice (some ⟨b, off, none⟩) n cap) (hy : ev y = .int .i64 (m : Int)) (hm : m ≤ cap) : (execOp ev o).run Tryz.prog w = .ok (.value (.slice (some ⟨b, off, none⟩) m cap)) w := by
  have h1 : (0 : Int) ≤ m := by omega
  have h2 : (m : Int) ≤ cap := by omega
  simp [execOp, ho, hx, hy, go_sem, hm, h1, h2]
theorem exq_cutH {x y : Operand} {b off n cap m : Nat} (ho : o.op = .slice 25 x none (some y) none) (hx : ev x = .slice (some ⟨b, off, none⟩) n cap) (hy : ev y = .int .i64 (m : Int)) (hm : m ≤ cap) : (execOp ev o).run Tryz.prog w = .ok (.value (.slice (some ⟨b, off, none⟩) m cap)) w := by
  have h1 : (0 : Int) ≤ m := by omega
  have h2 : (m : Int) ≤ cap := by omega
  simp [execOp, ho, hx, hy, go_sem, hm, h1, h2]
theorem exq_cutI {x y : Operand} {b off n cap m : Nat} (ho : o.op = .slice 26 x none (some y) none) (hx : ev x = .slice (some ⟨b, off, none⟩) n cap) (hy : ev y = .int .i64 (m : Int)) (hm : m ≤ cap) : (execOp ev o).run Tryz.prog w = .ok (.value (.slice (some ⟨b, off, none⟩) m cap)) w := by
  have h1 : (0 : Int) ≤ m := by omega
  have h2 : (m : Int) ≤ cap := by omega
  simp [execOp, ho, hx, hy, go_sem, hm, h1, h2]
theorem exq_cutJ {x y : Operand} {b off n cap m : Nat} (ho : o.op = .slice 60 x none (some y) none) (hx : ev x = .slice (some ⟨b, off, none⟩) n cap) (hy : ev y = .int .i64 (m : Int)) (hm : m ≤ cap) : (execOp ev o).run Tryz.prog w = .ok (.value (.slice (some ⟨b, off, none⟩) m cap)) w := by
  have h1 : (0 : Int) ≤ m := by omega
  have h2 : (m : Int) ≤ cap := by omega
  simp [execOp, ho, hx, hy, go_sem, hm, h1, h2]
theorem exq_neu {x y : Operand} {a b : Int} (ho : o.op = .binOp .neq 50 x y 50) (hx : ev x = .int .u64 a) (hy : ev y = .int .u64 b) (h : a = b) : (execOp ev o).run Tryz.prog w = .ok (.value (.bool false)) w := by
  subst h
  simp [execOp, ho, hx, hy, go_sem]
theorem exq_nei {x y : Operand} {a b : Int} (ho : o.op = .binOp .neq 3 x y 3) (hx : ev x = .int .i64 a) (hy : ev y = .int .i64 b) (h : a = b) : (execOp ev o).run Tryz.prog w = .ok (.value (.bool false)) w := by
  subst h
  simp [execOp, ho, hx, hy, go_sem]
theorem exq_not {x : Operand} {b : Bool} (ho : o.op = .unOp .not 4 x) (hx : ev x = .bool b) : (execOp ev o).run Tryz.prog w = .ok (.value (.bool (!b))) w := by
  simp [execOp, ho, hx, go_sem]
theorem exq_pick {c x y : Operand} {v : Value} (ho : o.op = .pick c x y) (hc : ev c = .bool false) (hy : ev y = v) : (execOp ev o).run Tryz.prog w = .ok (.value v) w := by
  simp [execOp, ho, hc, hy, go_sem]
end
end Go.Proofs.YtnodkeoikamonaaGreat
/-
  A region that draws its order, by a table of what each operation tells, with several slots whose values the invariant tells.
-/
namespace Go.Proofs.YtnodkeoikamonaaGreat
open Go.RowKit
set_option linter.unusedVariables false
set_option linter.unusedSimpArgs false
namespace RH
open RetN (pv D)
structure In (ks : List (Nat × Nat)) (vals : Nat → Value) (xs : List Nat) (WI : (Nat → Bool) → (Nat → Value) → World → Prop) (a0 : Act) (L : Nat → Bool) (a : Act) (w : World) : Prop where
  sz : a.tmps.size = a0.tmps.size
  df : a.defers = a0.defers
  fix : ∀ k, ¬ D ks k → xs.contains k = false → a.eval (.tmp k) = a0.eval (.tmp k)
  pure : ∀ i d v, pv ks vals i = some (d, v) → L i = true → a.eval (.tmp d) = v
  world : WI L (fun k => a.eval (.tmp k)) w
inductive Does (P : Program) (Q : Exit → Act → World → Prop) (ks : List (Nat × Nat)) (vals : Nat → Value) (xs : List Nat) (WI : (Nat → Bool) → (Nat → Value) → World → Prop) (a0 : Act) (i : Nat) (o : Oper) : Prop where
  | mk (dst : o.dst = Reg.look ks i) (wp : ∀ L a w (K : Act → World → Prop), In ks vals xs WI a0 L a w → L i = false → (∀ e ∈ o.after, Region.binds .any e = true → L e.on = true) → (∀ w' v, (∀ d, o.dst = some d → v = vals i) → WI (upd L i true) (fun k => a.eval (.tmp k)) w' → K (a.put o.dst v) w') → o.wp P a w K Q)
  | own (x : Nat) (dst : o.dst = some x) (hx : xs.contains x = true) (no : Reg.look ks i = none) (wp : ∀ L a w (K : Act → World → Prop), In ks vals xs WI a0 L a w → L i = false → (∀ e ∈ o.after, Region.binds .any e = true → L e.on = true) → (∀ w' v, WI (upd L i true) (fun k => if k = x then v else a.eval (.tmp k)) w' → K (a.put (some x) v) w') → o.wp P a w K Q)
theorem region {P : Program} {id : Nat} {ops : Array Oper} {Q : Exit → Act → World → Prop} {ks : List (Nat × Nat)} {vals : Nat → Value} {xs : List Nat} {WI : (Nat → Bool) → (Nat → Value) → World → Prop} {w0 : World} {a0 : Act}
    (hm : P.follows .mixedOrders = true) (hg : ∀ (i : Nat) (o : Oper), ops[i]? = some o → o.guard = none) (hback : ∀ (i : Nat) (o : Oper), ops[i]? = some o → ∀ e ∈ o.after, Region.binds .any e = true → e.on < i)
    (hgood : (ks.all fun p => (ks.all fun q => p.1 == q.1 || p.2 != q.2) && !xs.contains p.2) = true) (hD : ∀ k, D ks k → k < a0.tmps.size) (hX : ∀ k, xs.contains k = true → k < a0.tmps.size)
    (hloc : ∀ L s s' w, (∀ k, xs.contains k = true → s k = s' k) → WI L s w → WI L s' w) (hW0 : ∀ s, WI (fun _ => false) s { w0 with drawn := w0.drawn + 1 })
    (does : ∀ (i : Nat) (o : Oper), ops[i]? = some o → Does P Q ks vals xs WI a0 i o)
    (fin : ∀ L a w, In ks vals xs WI a0 L a w → (∀ i, i < ops.size → L i = true) → Q .normal a w) :
    (Code.region id ops true).wp P Q a0 w0 := by
  simp only [List.all_eq_true, bne_iff_ne, Bool.or_eq_true, beq_iff_eq, Bool.and_eq_true, Bool.not_eq_true'] at hgood
  have pvm : ∀ {i d v}, pv ks vals i = some (d, v) → (i, d) ∈ ks := fun {i d v} h => by
    obtain ⟨d', h1, h2⟩ := Option.map_eq_some_iff.1 h
    cases h2; exact Reg.look_mem h1
  refine region_inv hm hg hback (fun L a w => In ks vals xs WI a0 L a w) ?step (fun L a w h hall => fin L a w h hall) ?start
  case start => exact ⟨rfl, rfl, fun _ _ _ => rfl, fun _ _ _ _ h => (by cases h), hW0 _⟩
  case step =>
    rintro L a w i o h ho hL hd
    have none_ok : ∀ {j d' v'}, Reg.look ks i = none → pv ks vals j = some (d', v') → upd L i true j = true → L j = true := fun {j d' v'} hlk hj hLj => by
      have hji : j ≠ i := fun e => by
        subst e
        obtain ⟨d'', h1, _⟩ := Option.map_eq_some_iff.1 hj
        rw [hlk] at h1; cases h1
      rwa [upd_other _ _ hji] at hLj
    rcases does i o ho with ⟨hdst, hwp⟩ | ⟨x, hdst, hx, hno, hwp⟩
    · refine hwp L a w _ h hL hd (fun w' v hv hW => ?_)
      cases hlk : Reg.look ks i with
      | none =>
        rw [hdst, hlk]
        exact ⟨h.sz, h.df, h.fix, fun j d' v' hj hLj => h.pure j d' v' hj (none_ok hlk hj hLj), hW⟩
      | some d =>
        have hv' := hv d (hdst.trans hlk)
        subst hv'
        rw [hdst, hlk]
        have hm' : (i, d) ∈ ks := Reg.look_mem hlk
        have hDd : D ks d := by simp only [D, List.any_eq_true, beq_iff_eq]; exact ⟨_, hm', rfl⟩
        have e : ∀ k : Nat, k ≠ d → (a.put (some d) (vals i)).eval (.tmp k) = a.eval (.tmp k) := fun k hk => put_other hk
        refine ⟨by rw [put_size]; exact h.sz, by rw [put_defs]; exact h.df, fun k hk hkx => ?_, fun j d' v' hj hLj => ?_, hloc _ _ _ _ (fun k hk => (e k (fun he => by subst he; rw [(hgood _ hm').2] at hk; cases hk)).symm) hW⟩
        · rw [e k (fun he => hk (he ▸ hDd))]; exact h.fix k hk hkx
        · by_cases hij : j = i
          · subst hij
            rw [pv, hlk] at hj
            cases hj
            exact put_eval (by rw [h.sz]; exact hD _ hDd)
          · rw [upd_other _ _ hij] at hLj
            have : d' ≠ d := by
              rcases (hgood _ hm').1 _ (pvm hj) with e1 | e1
              · exact absurd e1.symm hij
              · exact Ne.symm e1
            rw [e d' this]
            exact h.pure j d' v' hj hLj
    · refine hwp L a w _ h hL hd (fun w' v hW => ?_)
      have e : ∀ k : Nat, k ≠ x → (a.put (some x) v).eval (.tmp k) = a.eval (.tmp k) := fun k hk => put_other hk
      have ex : (a.put (some x) v).eval (.tmp x) = v := put_eval (by rw [h.sz]; exact hX x hx)
      refine ⟨by rw [put_size]; exact h.sz, by rw [put_defs]; exact h.df, fun k hk hkx => by rw [e k (fun he => by subst he; rw [hx] at hkx; cases hkx)]; exact h.fix k hk hkx, fun j d' v' hj hLj => ?_, hloc _ _ _ _ (fun k hk => ?_) hW⟩
      · rw [e d' (fun he => by subst he; have := (hgood _ (pvm hj)).2; rw [hx] at this; cases this)]
        exact h.pure j d' v' hj (none_ok hno hj hLj)
      · by_cases he : k = x
        · subst he; simp [ex]
        · simp [he, e k he]
section
variable {P : Program} {Q : Exit → Act → World → Prop} {ks : List (Nat × Nat)} {vals : Nat → Value} {xs : List Nat} {WI : (Nat → Bool) → (Nat → Value) → World → Prop} {a0 : Act} {i : Nat} {o : Oper}
theorem Does.read (hd : o.dst = Reg.look ks i) (hW : ∀ L s w, WI L s w → WI (upd L i true) s w) (h : ∀ L a w, In ks vals xs WI a0 L a w → (∀ e ∈ o.after, Region.binds .any e = true → L e.on = true) → (execOp a.eval o).run P w = .ok (.value (vals i)) w) : Does P Q ks vals xs WI a0 i o :=
  .mk hd fun L a w K hI _ hdep hk => wp_value (h L a w hI hdep) (hk w _ (fun _ _ => rfl) (hW L _ w hI.world))
theorem Does.call {x : Nat} {f : FuncId} {args : Array Value} (hd : o.dst = some x) (hx : xs.contains x = true) (hn : Reg.look ks i = none) (h : ∀ L a w, In ks vals xs WI a0 L a w → (∀ e ∈ o.after, Region.binds .any e = true → L e.on = true) → (execOp a.eval o).run P w = .ok (.enter f args) w)
    (hc : ∀ L s w, WI L s w → L i = false → Calls P f args w fun e w' => ∃ v, e = .returned v ∧ WI (upd L i true) (fun k => if k = x then v else s k) w') : Does P Q ks vals xs WI a0 i o :=
  .own x hd hx hn fun L a w K hI hL hdep hk => wp_call (h L a w hI hdep) ((hc L _ w hI.world hL).mono (by rintro e w' ⟨v, rfl, hw⟩; exact ⟨_, rfl, by rw [hd]; exact hk _ _ hw⟩))
theorem Does.copy {x y : Nat} (hd : o.dst = some x) (hx : xs.contains x = true) (hn : Reg.look ks i = none) (ho : o.op = .assign (.tmp y)) (hP : ∀ (ev : Operand → Value) (w : World), (execOp ev o).run P w = .ok (.value (ev (.tmp y))) w)
    (hw : ∀ L s w, WI L s w → L i = false → (∀ e ∈ o.after, Region.binds .any e = true → L e.on = true) → WI (upd L i true) (fun k => if k = x then s y else s k) w) : Does P Q ks vals xs WI a0 i o :=
  .own x hd hx hn fun L a w K hI hL hdep hk => wp_value (hP a.eval w) (by rw [hd]; exact hk _ _ (hw L _ w hI.world hL hdep))
end
end RH
end Go.Proofs.YtnodkeoikamonaaGreat
