/-
  Lemmas: RExec, RTab, RAInv, RSame, Cells0, RSameG.
-/
import Derived.Test.YtafaiikgpooflaaTp18
import Derived.Deep.CutRange
import Derived.Test.YtafaiikgpooflaaTp06
/-
  Single operations that only read, as equations of their runs.
-/
namespace Go.Proofs.Ytafaiikgpooflaa
open Go.RowKit
set_option linter.unusedVariables false
set_option linter.unusedSimpArgs false
set_option linter.unnecessarySimpa false
set_option maxRecDepth 20000

section
variable {ev : Operand → Value} {o : Oper} {w : World}
theorem ex_move {x : Operand} {v : Value} (ho : o.op = .move x) (hx : ev x = v) : (execOp ev o).run Try.prog w = .ok (.value v) w := by simp [execOp, ho, hx]
theorem ex_assign {x : Operand} {v : Value} (ho : o.op = .assign x) (hx : ev x = v) : (execOp ev o).run Try.prog w = .ok (.value v) w := by simp [execOp, ho, hx]
theorem ex_extract {x : Operand} {vs : Array Value} {i : Nat} {v : Value} (ho : o.op = .extract x i) (hx : ev x = .tuple vs) (hv : vs[i]? = some v) : (execOp ev o).run Try.prog w = .ok (.value v) w := by
  simp [execOp, ho, hx, go_sem, hv]
theorem ex_load {x : Operand} {ty : TypeId} {a : Addr} {v : Value} (ho : o.op = .load ty x) (hx : ev x = .pointer (some a)) (hagg : (isAgg ty).run Try.prog w = .ok false w) (hc : w.cell? a = some v) : (execOp ev o).run Try.prog w = .ok (.value v) w := by
  simp [execOp, ho, hx, Instr.loadAt, Instr.sureAddr, loadVar, Sem.run_bind, hagg, go_sem, hc]
theorem ex_field {x : Operand} {b k q : Nat} {ty : TypeId} (ho : o.op = .fieldAddr ty x k) (hx : ev x = .pointer (some ⟨b, 0, none⟩)) (hf : (Instr.fieldAt ty (.pointer (some ⟨b, 0, none⟩)) k).run Try.prog w = .ok (.pointer (some ⟨b, q, none⟩)) w) : (execOp ev o).run Try.prog w = .ok (.value (.pointer (some ⟨b, q, none⟩))) w := by
  simp [execOp, ho, hx, hf]
theorem ex_index {x y : Operand} {b off n cap i sz : Nat} {ty e : TypeId} (ho : o.op = .indexAddr ty x y) (hx : ev x = .slice (some ⟨b, off, none⟩) n cap) (hy : ev y = .int .i64 (i : Int)) (hi : i < n) (hu : Try.prog.underlying ty = some (.slice e)) (hs : (Try.prog.info? e).map (·.size) = some sz) :
    (execOp ev o).run Try.prog w = .ok (.value (.pointer (some ⟨b, off + i * sz, none⟩))) w := by
  cases hp : Try.prog.info? e with
  | none => rw [hp] at hs; cases hs
  | some info =>
    rw [hp] at hs
    simp at hs
    have h1 : (sizeOf e).run Try.prog w = .ok sz w := by simp [sizeOf, typeInfo, hp, hs]
    have hi' : (i : Int) < (n : Int) := by omega
    simp [execOp, ho, hx, hy, Instr.indexAt, Sem.run_bind, run_underlying hu w, asIntOf, go_sem, h1, hi', hi]
theorem field90 (w : World) (b : Nat) : (Instr.fieldAt 79 (.pointer (some ⟨b, 0, none⟩)) 1).run Try.prog w = .ok (.pointer (some ⟨b, 6, none⟩)) w ∧ (Instr.fieldAt 79 (.pointer (some ⟨b, 0, none⟩)) 3).run Try.prog w = .ok (.pointer (some ⟨b, 8, none⟩)) w ∧
    (Instr.fieldAt 79 (.pointer (some ⟨b, 0, none⟩)) 5).run Try.prog w = .ok (.pointer (some ⟨b, 10, none⟩)) w ∧ (Instr.fieldAt 79 (.pointer (some ⟨b, 0, none⟩)) 6).run Try.prog w = .ok (.pointer (some ⟨b, 11, none⟩)) w := by
  refine ⟨?_, ?_, ?_, ?_⟩ <;> simp [go_sem]
theorem agg_no (w : World) : (isAgg 76).run Try.prog w = .ok false w ∧ (isAgg 22).run Try.prog w = .ok false w ∧ (isAgg 51).run Try.prog w = .ok false w ∧ (isAgg 24).run Try.prog w = .ok false w ∧ (isAgg 3).run Try.prog w = .ok false w ∧ (isAgg 77).run Try.prog w = .ok false w := by
  refine ⟨?_, ?_, ?_, ?_, ?_, ?_⟩ <;> simp [go_sem]
theorem build42 {x : Array (Nat × Operand)} (ho : o.op = .build 47 #[]) : (execOp ev o).run Try.prog w = .ok (.value (.agg #[.int .i64 0, .int .i64 0, .int .i64 0, .int .i64 0, .int .i64 0, .int .i64 0])) w := by
  simp [execOp, ho, go_sem]
theorem alloc79 (ho : o.op = .alloc 85) : (execOp ev o).run Try.prog w = .ok (.value (.pointer (some ⟨w.heap.size, 0, none⟩))) (w.alloc (.cells tk0.toArray 85)) := by
  simp [execOp, ho, go_sem, tk0]
theorem alloc46 (ho : o.op = .alloc 37) : (execOp ev o).run Try.prog w = .ok (.value (.pointer (some ⟨w.heap.size, 0, none⟩))) (w.alloc (.cells [Value.int .i64 0, .int .i64 0, .int .i64 0, .int .u64 0, .int .u64 0, .bool false].toArray 37)) := by
  simp [execOp, ho, go_sem]
theorem wp_call {P : Program} {a : Act} {K : Act → World → Prop} {Q : Exit → Act → World → Prop} {f : FuncId} {args : Array Value} (hrun : (execOp a.eval o).run P w = .ok (.enter f args) w) (hc : Calls P f args w fun e w' => ∃ v, e = .returned v ∧ K (a.put o.dst v) w') : o.wp P a w K Q := by
  unfold Oper.wp
  rw [hrun, Oper.upon_enter]
  exact hc.mono (fun e w' ⟨v, he, hk⟩ => by subst he; exact hk)
theorem call4 {f : FuncId} {x0 x1 x2 x3 : Operand} {ts : Array TypeId} {v0 v1 v2 v3 : Value} (ho : o.op = Op.call { callee := Callee.value (Operand.func f), args := #[x0, x1, x2, x3], argTypes := ts }) (h0 : ev x0 = v0) (h1 : ev x1 = v1) (h2 : ev x2 = v2) (h3 : ev x3 = v3) (hf : ev (Operand.func f) = .func (.func f) #[] #[]) (hcf : (callFunc f #[v0, v1, v2, v3]).run Try.prog w = .ok (.enter f #[v0, v1, v2, v3]) w) :
    (execOp ev o).run Try.prog w = .ok (.enter f #[v0, v1, v2, v3]) w := by
  simp [execOp, ho, h0, h1, h2, h3, hf, resolve, invoke, go_sem, hcf]
theorem call2 {f : FuncId} {x0 x1 : Operand} {ts : Array TypeId} {v0 v1 : Value} (ho : o.op = Op.call { callee := Callee.value (Operand.func f), args := #[x0, x1], argTypes := ts }) (h0 : ev x0 = v0) (h1 : ev x1 = v1) (hf : ev (Operand.func f) = .func (.func f) #[] #[]) (hcf : (callFunc f #[v0, v1]).run Try.prog w = .ok (.enter f #[v0, v1]) w) :
    (execOp ev o).run Try.prog w = .ok (.enter f #[v0, v1]) w := by
  simp [execOp, ho, h0, h1, hf, resolve, invoke, go_sem, hcf]
theorem sz52 : (Try.prog.info? 51).map (·.size) = some 1 := by kernel_rfl
theorem sz3r : (Try.prog.info? 3).map (·.size) = some 1 := by kernel_rfl
theorem sz54 : (Try.prog.info? 50).map (·.size) = some 5 := by kernel_rfl
theorem size54 : (Try.prog.info? 50).map (·.size) = some 5 := by kernel_rfl
theorem row54 : ∃ d, Try.prog.underlying 50 = some d ∧ d.isRow = true := by
  have h : (Try.prog.underlying 50).map (fun d => d.isRow) = some true := by kernel_rfl
  exact Option.map_eq_some_iff.1 h
theorem ex_load_row {x : Operand} {ty : TypeId} {b off : Nat} {cs : List Value} {d : TypeDesc} (ho : o.op = .load ty x) (hx : ev x = .pointer (some ⟨b, off, none⟩)) (hc : w.rangeAt b off cs) (hu : Try.prog.underlying ty = some d) (hd : d.isRow = true) (hi : (Try.prog.info? ty).map (·.size) = some cs.length) :
    (execOp ev o).run Try.prog w = .ok (.value (.agg cs.toArray)) w := by
  simp [execOp, ho, hx, run_loadAt_mid w b off ty cs d hc hu hd hi]
end
end Go.Proofs.Ytafaiikgpooflaa

/-
  Tables of operations by lists: that their slots and numbers are apart is reckoned.
-/
namespace Go.Proofs.Ytafaiikgpooflaa
set_option linter.unusedVariables false
set_option linter.unusedSimpArgs false
namespace Reg

theorem notD {b : Bool} (h : b = false) : ¬ b = true := by simp [h]

structure TabL where
  ks : List (Nat × Nat)
  vals : Nat → Value
  kc : Nat
  sc : Nat
  vc : Value
  as_ : List (Nat × Nat)
  aty : Nat → TypeId × List Value
  ss : List (Nat × Nat)
  sv : Nat → List Value

def look (l : List (Nat × Nat)) (i : Nat) : Option Nat := (l.find? (fun p => p.1 == i)).map (·.2)
theorem look_mem {l : List (Nat × Nat)} {i d : Nat} (h : look l i = some d) : (i, d) ∈ l := by
  unfold look at h
  obtain ⟨p, hp, hd⟩ := Option.map_eq_some_iff.1 h
  have h1 := List.find?_some hp
  have h2 := List.mem_of_find?_eq_some hp
  simp at h1
  subst h1; subst hd
  exact h2

def TabL.tab (t : TabL) : Tab where
  pv i := (look t.ks i).map (fun d => (d, t.vals i))
  kc := t.kc
  sc := t.sc
  vc := t.vc
  al i := (look t.as_ i).map (fun s => (s, (t.aty i).1, (t.aty i).2))
  so i := (look t.ss i).map (fun j => (j, t.sv i))
  D k := (t.ks.any (fun p => p.2 == k) || (t.sc == k || t.as_.any (fun p => p.2 == k))) = true

def TabL.good (t : TabL) : Bool :=
  (t.ks.all fun p => p.2 != t.sc && p.1 != t.kc && (t.ks.all fun q => p.1 == q.1 || p.2 != q.2) && (t.as_.all fun q => p.2 != q.2 && p.1 != q.1) && (t.ss.all fun q => p.1 != q.1)) &&
  (t.as_.all fun p => p.2 != t.sc && p.1 != t.kc && (t.as_.all fun q => p.1 == q.1 || p.2 != q.2) && (t.ss.all fun q => p.1 != q.1)) &&
  (t.ss.all fun p => p.1 != t.kc && (look t.as_ p.2).isSome && (t.ss.all fun q => p.2 != q.2 || p.1 == q.1))

theorem TabL.ok (t : TabL) (hg : t.good = true) (hz : ∀ i j, (i, j) ∈ t.ss → (t.aty j).2.length = (t.sv i).length) : t.tab.Ok := by
  simp only [TabL.good, Bool.and_eq_true, List.all_eq_true, bne_iff_ne, Bool.or_eq_true, beq_iff_eq] at hg
  obtain ⟨⟨hk, ha⟩, hs⟩ := hg
  have pv : ∀ {i d v}, t.tab.pv i = some (d, v) → (i, d) ∈ t.ks := fun {i d v} h => by
    obtain ⟨d', h1, h2⟩ := Option.map_eq_some_iff.1 h
    cases h2; exact look_mem h1
  have al : ∀ {i s ty z}, t.tab.al i = some (s, ty, z) → (i, s) ∈ t.as_ := fun {i s ty z} h => by
    obtain ⟨d', h1, h2⟩ := Option.map_eq_some_iff.1 h
    cases h2; exact look_mem h1
  have so : ∀ {i j l}, t.tab.so i = some (j, l) → (i, j) ∈ t.ss ∧ l = t.sv i := fun {i j l} h => by
    obtain ⟨d', h1, h2⟩ := Option.map_eq_some_iff.1 h
    cases h2; exact ⟨look_mem h1, rfl⟩
  refine ⟨fun i d v h => ?_, ?_, fun i s ty z h => ?_, fun i j d v d' v' h h' hne => ?_, fun i j d v s ty z h h' => ?_, fun i j s ty z s' ty' z' h h' hne => ?_, fun i j d v y h h' => ?_, fun i j x y h h' => ?_, fun j y h => ?_, fun i j l h => ?_, fun i i' j l l' h h' => ?_⟩
  · obtain ⟨⟨⟨⟨h1, h2⟩, _⟩, _⟩, _⟩ := hk _ (pv h)
    exact ⟨by simp only [TabL.tab, Bool.or_eq_true, List.any_eq_true, beq_iff_eq]; exact .inl ⟨_, pv h, rfl⟩, h1, h2⟩
  · simp [TabL.tab]
  · obtain ⟨⟨⟨h1, h2⟩, _⟩, _⟩ := ha _ (al h)
    exact ⟨by simp only [TabL.tab, Bool.or_eq_true, List.any_eq_true, beq_iff_eq]; exact .inr (.inr ⟨_, al h, rfl⟩), h1, h2⟩
  · obtain ⟨⟨⟨_, h3⟩, _⟩, _⟩ := hk _ (pv h)
    rcases h3 _ (pv h') with e | e
    · exact absurd e hne
    · exact e
  · obtain ⟨⟨_, h4⟩, _⟩ := hk _ (pv h)
    exact h4 _ (al h')
  · obtain ⟨⟨_, h3⟩, _⟩ := ha _ (al h)
    rcases h3 _ (al h') with e | e
    · exact absurd e hne
    · exact e
  · obtain ⟨_, h5⟩ := hk _ (pv h)
    obtain ⟨j', l⟩ := y
    exact h5 _ (so h').1
  · obtain ⟨s, ty, z⟩ := x
    obtain ⟨j', l⟩ := y
    obtain ⟨_, h4⟩ := ha _ (al h)
    exact h4 _ (so h').1
  · obtain ⟨j', l⟩ := y
    exact (hs _ (so h).1).1.1
  · obtain ⟨hm, rfl⟩ := so h
    obtain ⟨⟨_, h2⟩, _⟩ := hs _ hm
    obtain ⟨s, hs'⟩ := Option.isSome_iff_exists.1 h2
    exact ⟨s, (t.aty j).1, (t.aty j).2, by show (look t.as_ j).map _ = _; simp only at hs'; rw [hs']; rfl, hz i j hm⟩
  · obtain ⟨_, h3⟩ := hs _ (so h).1
    rcases h3 _ (so h').1 with e | e
    · exact absurd rfl e
    · exact e
end Reg
end Go.Proofs.Ytafaiikgpooflaa

/-
  The reference's run between two steps.
-/
namespace Go.Proofs.Ytafaiikgpooflaa
open Go.RowKit
set_option linter.unusedVariables false
set_option linter.unusedSimpArgs false
set_option linter.unnecessarySimpa false
set_option maxRecDepth 20000
open Beg

/-- A reference's run as it is told. -/
def RTold (K : Kd) (rep : List Value → K.σ → Prop) (P : Par) (st : St K) (base : Nat) (v : Value) (w' : World) : Prop :=
  ∃ blk c un capw sv, v = .tuple #[.agg #[sv, .slice (some ⟨blk .words, 0, none⟩) P.n capw, .bool (decide (cnt (st.going P) P.nh = 0))], sl (blk .answers) P.nh, .int .i64 0] ∧ Has w' base blk c ∧ RGood K rep P blk c st un capw sv

theorem begin_good {P : Par} {blk : Rl → Nat} {c : Rl → Option Row} {capw : Nat} {F : Nat → Value} {f : Nat → Int} {K : Kd} {rep : List Value → K.σ → Prop}
    (h1 : ∀ r k d x, mkr P.nh r = some (k, d, x) → c r = some x) (h2 : c .steps = none ∧ ∀ h, c (.arow h) = none) (h3 : c .words = some ⟨26, capw, F⟩) (h4 : P.n ≤ capw) (h5 : capw ≤ maxLen) (h6 : ∀ i, i < P.n → F i = .int .u64 (f i))
    (hf : ∀ i, i < P.n → 0 ≤ f i ∧ f i ≤ 18446744073709551615) (hj : ∀ h, h < P.nh → P.jn h ≤ 256) (hn : P.nh ≤ 8) (hw : ∀ h, h < P.nh → ∀ j, j < P.jn h → (P.jb h j).wf) :
    RGood K rep P blk c (st0 K P f) (fun _ => false) capw (.slice none 0 0) := by
  have m1 : ∀ (v : Value) (i : Nat), #[v][i % #[v].size]! = v := fun v i => by rw [show i % #[v].size = 0 from Nat.mod_one i]; rfl
  refine ⟨⟨F, h3, h4, h5, h6⟩, hf, ⟨_, h1 .tasks _ _ _ rfl, fun h _ hu => (by cases hu)⟩, ⟨fun i => #[Value.bool false][i % #[Value.bool false].size]!, (h1 .going _ _ _ rfl).trans (by rw [Nat.mul_one]), fun h _ => m1 (.bool false) h⟩, ⟨fun i => #[Value.int .i64 0][i % #[Value.int .i64 0].size]!, (h1 .run _ _ _ rfl).trans (by rw [Nat.mul_one]), fun h _ => m1 (.int .i64 0) h⟩, ⟨_, h1 .mem _ _ _ rfl, fun i _ => ?_⟩, ⟨fun i => #[Value.slice none 0 0][i % #[Value.slice none 0 0].size]!, (h1 .answers _ _ _ rfl).trans (by rw [Nat.mul_one]), fun h _ => .inl ⟨rfl, m1 (.slice none 0 0) h, h2.2 h⟩⟩, .inl ⟨rfl, rfl, h2.1⟩, fun h _ => Nat.zero_le _, fun h _ hu => (by cases hu), fun h _ _ _ => rfl, hj, hn, hw, ?_⟩
  · have : i % zKept.size < 4 := Nat.mod_lt _ (by decide)
    generalize i % zKept.size = q at this
    match q, this with
    | 0, _ | 1, _ | 2, _ | 3, _ => rfl
  · simp only [st0]; omega

/-- The run's own variable, as a list. -/
def rvL (sh : Shp) (P : Par) (blk : Rl → Nat) (capw : Nat) (vh sv : Value) (la : Int) : List Value := runCells sh (.slice (some ⟨blk .words, 0, none⟩) P.n capw) vh (sl (blk .tasks) P.nh) (sl (blk .going) P.nh) (sl (blk .run) P.nh) (sl (blk .mem) P.nh) sv (sl (blk .answers) P.nh) la
theorem rvL_val (sh : Shp) (P : Par) (blk : Rl → Nat) (capw : Nat) (vh sv : Value) (la : Int) : rv sh P blk capw vh sv la = .agg (rvL sh P blk capw vh sv la).toArray := rfl
theorem rvL_len (sh : Shp) (P : Par) (blk : Rl → Nat) (capw : Nat) (vh sv : Value) (la : Int) : (rvL sh P blk capw vh sv la).length = 15 := rfl
theorem rvL_one {sh : Shp} {P : Par} {blk : Rl → Nat} {capw : Nat} {vh sv : Value} {la : Int} (h1 : vh.oneCell' = true) (h2 : sv.oneCell' = true) : ∀ v ∈ rvL sh P blk capw vh sv la, v.oneCell' = true := by
  simp [rvL, runCells, sl, Value.oneCell'] at *
  exact ⟨h1, h2⟩

/-- Between two steps of the reference's run. -/
structure AInv (sh : Shp) (K : Kd) (rep : List Value → K.σ → Prop) (w : World) (P : Par) (f : Nat → Int) (vh : Value) (bR capw j : Nat) (wr : World) (blk : Rl → Nat) (c : Rl → Option Row) (un : Nat → Bool) (sv : Value) : Prop where
  has : Has wr w.heap.size blk c
  good : RGood K rep P blk c (runSt P (st0 K P f) j) un capw sv
  k : (runSt P (st0 K P f) j).k = j
  ty : ∀ r x, c r = some x → x.t ≠ 79 ∧ x.t ≠ 29 ∧ x.t ≠ 47
  rrow : wr.rowIs bR 79 15 (lrow (rvL sh P blk capw vh sv (runSt P (st0 K P f) j).last))
  trow : wr.rowIs w.heap.size 29 3 (lrow [.slice none 0 0, .slice none 0 0, .bool false])
  bel : Below w.heap.size w wr
  ge : w.heap.size ≤ bR

theorem AInv.below {sh : Shp} {K : Kd} {rep : List Value → K.σ → Prop} {w : World} {P : Par} {f : Nat → Int} {vh : Value} {bR capw j : Nat} {wr w' : World} {blk : Rl → Nat} {c : Rl → Option Row} {un : Nat → Bool} {sv : Value} (I : AInv sh K rep w P f vh bR capw j wr blk c un sv) (hb : Below wr.heap.size wr w') : AInv sh K rep w P f vh bR capw j w' blk c un sv :=
  ⟨I.has.below hb, I.good, I.k, I.ty, I.rrow.of_block (hb.block _ I.rrow.lt), I.trow.of_block (hb.block _ I.trow.lt), I.bel.trans (hb.mono I.bel.size), I.ge⟩
/-- The run's own variable was written again. -/
theorem AInv.touchR {sh : Shp} {K : Kd} {rep : List Value → K.σ → Prop} {w : World} {P : Par} {f : Nat → Int} {vh : Value} {bR capw j : Nat} {wr w' : World} {blk : Rl → Nat} {c : Rl → Option Row} {un : Nat → Bool} {sv : Value} (I : AInv sh K rep w P f vh bR capw j wr blk c un sv) (ht : Touch wr w' (fun k => k = bR))
    (hr : w'.rowIs bR 79 15 (lrow (rvL sh P blk capw vh sv (runSt P (st0 K P f) j).last))) : AInv sh K rep w P f vh bR capw j w' blk c un sv :=
  ⟨I.has.touch ht (fun r x e => rowIs.ne (I.has.row r x e) I.rrow (I.ty r x e).1), I.good, I.k, I.ty, hr, I.trow.of_block (ht.block _ I.trow.lt (rowIs.ne I.trow I.rrow (by decide))), I.bel.trans (ht.below (fun k hk => by rw [hk]; exact I.ge) I.bel.size), I.ge⟩

/-- Behind a call that turned the run's own blocks alone. -/
theorem AInv.step6 {sh : Shp} {K : Kd} {rep : List Value → K.σ → Prop} {w : World} {P : Par} {f : Nat → Int} {vh : Value} {bR capw j : Nat} {wr w' : World} {blk : Rl → Nat} {c c' : Rl → Option Row} {un un' : Nat → Bool} {sv : Value} (I : AInv sh K rep w P f vh bR capw j wr blk c un sv) (H : Has w' w.heap.size blk c') (G : RGood K rep P blk c' (runSt P (st0 K P f) j) un' capw sv) (ht : Touch wr w' (Own blk c)) :
    AInv sh K rep w P f vh bR capw j w' blk (cln P.nh c') un' sv := by
  have h1 : ¬ Own blk c bR := fun ⟨r, x, e, he⟩ => rowIs.ne (I.has.row r x e) I.rrow (I.ty r x e).1 he
  have h2 : ¬ Own blk c w.heap.size := fun ⟨r, x, e, he⟩ => rowIs.ne (I.has.row r x e) I.trow (I.ty r x e).2.1 he
  exact ⟨H.clean P.nh, G.clean, I.k, G.types, I.rrow.of_block (ht.block _ I.rrow.lt h1), I.trow.of_block (ht.block _ I.trow.lt h2), I.bel.trans (ht.below (fun k ⟨r, x, e, he⟩ => by rw [← he]; exact I.has.new r x e) I.bel.size), I.ge⟩
/-- The run's own variable written over by itself. -/
theorem AInv.again {sh : Shp} {K : Kd} {rep : List Value → K.σ → Prop} {w : World} {P : Par} {f : Nat → Int} {vh : Value} {bR capw j : Nat} {wr : World} {blk : Rl → Nat} {c : Rl → Option Row} {un : Nat → Bool} {sv : Value} (I : AInv sh K rep w P f vh bR capw j wr blk c un sv) :
    AInv sh K rep w P f vh bR capw j (wr.setCells bR 0 (rvL sh P blk capw vh sv (runSt P (st0 K P f) j).last)) blk c un sv :=
  I.touchR (touch_setCells _ _ _ _) ((rowIs.setCells _ 0 _ _ I.rrow).congr (fun i hi => by rw [if_pos (by rw [rvL_len]; omega)]; rfl))

theorem RGood.withWords {K : Kd} {rep : List Value → K.σ → Prop} {P : Par} {blk : Rl → Nat} {c : Rl → Option Row} {st : St K} {un : Nat → Bool} {capw : Nat} {sv : Value} (G : RGood K rep P blk c st un capw sv) {F' : Nat → Value} {f' : Nat → Int} (hF : ∀ i, i < P.n → F' i = .int .u64 (f' i)) (hw : ∀ i, i < P.n → 0 ≤ f' i ∧ f' i ≤ 18446744073709551615) :
    RGood K rep P blk (upd c .words (some ⟨26, capw, F'⟩)) (st.with f') un capw sv := by
  obtain ⟨F, _, h1, h2, _⟩ := G.words
  refine ⟨⟨F', upd_same _ _ _, h1, h2, hF⟩, hw, ?_, ?_, ?_, ?_, ?_, ?_, G.doneLe, G.unLt, G.fresh, G.jobs, G.hands, G.jwf, G.lastOk⟩
  · rw [upd_other _ _ (by simp)]; exact G.tasks
  · rw [upd_other _ _ (by simp)]; exact G.under
  · rw [upd_other _ _ (by simp)]; exact G.begun
  · rw [upd_other _ _ (by simp)]; exact G.kept
  · obtain ⟨A, eA, hA⟩ := G.answers
    exact ⟨A, by rw [upd_other _ _ (by simp)]; exact eA, fun h hh => (hA h hh).upd' (by simp) _⟩
  · exact G.steps.upd' (by simp) _

/-- Behind a step, the run's own variable written anew. -/
theorem AInv.next {sh : Shp} {K : Kd} {rep : List Value → K.σ → Prop} {w : World} {P : Par} {f : Nat → Int} {vh : Value} {bR capw j : Nat} {wc wx w7 : World} {blk blk' : Rl → Nat} {c c' : Rl → Option Row} {un un' : Nat → Bool} {sv sv' : Value} {y : Row} {L : List Value} (I : AInv sh K rep w P f vh bR capw j wc blk c un sv)
    (eW : ∃ z, c .words = some z) (ttW : Touch wc wx (fun k => k = blk .words)) (rr : wx.rowIs bR 79 15 (lrow L)) (H7 : Has w7 w.heap.size blk' c') (G7 : RGood K rep P blk' c' (runSt P (st0 K P f) (j + 1)) un' capw sv') (tt7 : Touch wx w7 (Own blk (upd c .words (some y)))) (hk : (runSt P (st0 K P f) (j + 1)).k = j + 1) :
    AInv sh K rep w P f vh bR capw (j + 1) (w7.setCells bR 0 (rvL sh P blk' capw vh sv' (runSt P (st0 K P f) (j + 1)).last)) blk' (cln P.nh c') un' sv' := by
  obtain ⟨z, eW⟩ := eW
  have own : ∀ k, Own blk (upd c .words (some y)) k → Own blk c k := fun k ⟨r, x, e, he⟩ => by
    by_cases hr : r = .words
    · subst hr; exact ⟨_, _, eW, he⟩
    · rw [upd_other _ _ hr] at e; exact ⟨r, x, e, he⟩
  have nR : ¬ Own blk c bR := fun ⟨r, x, e, he⟩ => rowIs.ne (I.has.row r x e) I.rrow (I.ty r x e).1 he
  have nT : ¬ Own blk c w.heap.size := fun ⟨r, x, e, he⟩ => rowIs.ne (I.has.row r x e) I.trow (I.ty r x e).2.1 he
  have rr7 := rr.of_block (tt7.block _ rr.lt (fun h => nR (own _ h)))
  have tr := (I.trow.of_block (ttW.block _ I.trow.lt (fun h => nT ⟨_, _, eW, h.symm⟩)))
  have tr7 := tr.of_block (tt7.block _ tr.lt (fun h => nT (own _ h)))
  have ts := touch_setCells bR (rvL sh P blk' capw vh sv' (runSt P (st0 K P f) (j + 1)).last) 0 w7
  have b1 := I.bel.trans (ttW.below (fun k hk => by rw [hk]; exact I.has.new _ _ eW) I.bel.size)
  have b2 := b1.trans (tt7.below (fun k hk => by obtain ⟨r, x, e, he⟩ := own k hk; rw [← he]; exact I.has.new r x e) b1.size)
  refine ⟨(H7.clean P.nh).touch ts (fun r x e => rowIs.ne (H7.row r x (clean_sub e)) rr7 (G7.types r x e).1), G7.clean, hk, G7.types, (rowIs.setCells _ 0 _ _ rr7).congr (fun i hi => ?_), tr7.of_block (ts.block _ tr7.lt (rowIs.ne tr7 rr7 (by simp))), b2.trans (ts.below (fun k hk => by rw [hk]; exact I.ge) b2.size), I.ge⟩
  rw [if_pos (by rw [rvL_len]; omega)]; rfl

end Go.Proofs.Ytafaiikgpooflaa

/-
  The reference's comparisons: of steps, of traces.
-/
namespace Go.Proofs.Ytafaiikgpooflaa
open Go.RowKit
set_option linter.unusedVariables false
set_option linter.unusedSimpArgs false
set_option linter.unnecessarySimpa false
set_option maxRecDepth 20000

set_option maxHeartbeats 4000000 in
theorem same_step (w : World) (s : Stp) :
    Calls Try.prog 21 #[s.val, s.val] w fun e w' => e = .returned (.bool true) ∧ Below w.heap.size w w' := by
  obtain ⟨a, b, c, d, e, f⟩ := s
  simp only [Stp.val]
  go_enter Try.func21, Try.ntmps21
  go_wp2_with fail
  go_light
  refine bodyPost_ret (v := .bool true) ?_ rfl ⟨rfl, ((Below.refl _ w).alloc (Nat.le_refl _) _).alloc (by simp) _⟩
  simp [results, Try.results21, go_sem]

theorem ex_not {ev : Operand → Value} {o : Oper} {w : World} {x : Operand} (ho : o.op = .unOp .not 4 x) (hx : ev x = .bool true) : (execOp ev o).run Try.prog w = .ok (.value (.bool false)) w := by
  simp [execOp, ho, hx, go_sem]
theorem field28 (w : World) (b : Nat) : (Instr.fieldAt 29 (.pointer (some ⟨b, 0, none⟩)) 0).run Try.prog w = .ok (.pointer (some ⟨b, 0, none⟩)) w := by simp [go_sem]
theorem agg26 (w : World) : (isAgg 27).run Try.prog w = .ok false w := by simp [go_sem]
theorem sz46 : (Try.prog.info? 37).map (·.size) = some 6 := by kernel_rfl
theorem callSame (args : Array Value) (w : World) : (callFunc 21 args).run Try.prog w = .ok (.enter 21 args) w := by
  simp [go_sem]

set_option maxHeartbeats 8000000 in
theorem same_trace {w : World} {ao ao' aw aw' : Option Addr} {k n cap cap' capw capw' : Nat} {s : Nat → Stp} {f : Nat → Int} {en : Bool} (hs : SeesS w w.heap.size ao k s) (hs' : SeesS w w.heap.size ao' k s) (hw : Sees w w.heap.size aw n f) (hw' : Sees w w.heap.size aw' n f) (hn : n ≤ 4096) (hk : k ≤ 65536) :
    Calls Try.prog 9 #[.agg #[.slice ao k cap, .slice aw n capw, .bool en], .agg #[.slice ao' k cap', .slice aw' n capw', .bool en]] w fun e w' => e = .returned (.bool true) ∧ Below w.heap.size w w' := by
  have HS := hide hs
  have HS' := hide hs'
  have HW := hide hw
  have HW' := hide hw'
  clear hs hs' hw hw'
  obtain ⟨W2, hW2⟩ : ∃ W2, (w.alloc (.cells #[.slice ao k cap, .slice aw n capw, .bool en] 29)).alloc (.cells #[.slice ao' k cap', .slice aw' n capw', .bool en] 29) = W2 := ⟨_, rfl⟩
  have b2 : Below w.heap.size w W2 := by rw [← hW2]; exact ((Below.refl _ w).alloc (Nat.le_refl _) _).alloc (by simp) _
  have sz2 : W2.heap.size = w.heap.size + 2 := by rw [← hW2]; simp
  have R1 := hide (show W2.rowIs w.heap.size 29 3 (lrow [.slice ao k cap, .slice aw n capw, .bool en]) from by rw [← hW2]; exact (rowL_alloc w [.slice ao k cap, .slice aw n capw, .bool en] _ rfl).alloc _)
  have R2 := hide (show W2.rowIs (w.heap.size + 1) 29 3 (lrow [.slice ao' k cap', .slice aw' n capw', .bool en]) from by rw [← hW2]; have := rowL_alloc (w.alloc (.cells #[.slice ao k cap, .slice aw n capw, .bool en] 29)) [.slice ao' k cap', .slice aw' n capw', .bool en] 29 (n := 3) rfl; rwa [World.size_alloc] at this)
  have BW := hide b2
  have s1 : w.heap.size < W2.heap.size := by omega
  have s2 : w.heap.size + 1 < W2.heap.size := by omega
  have c0 : W2.cell? ⟨w.heap.size, 0, none⟩ = some (.slice ao k cap) := R1.out.cell (i := 0) (by omega)
  have c1 : W2.cell? ⟨w.heap.size, 1, none⟩ = some (.slice aw n capw) := R1.out.cell (i := 1) (by omega)
  have c2 : W2.cell? ⟨w.heap.size, 2, none⟩ = some (.bool en) := R1.out.cell (i := 2) (by omega)
  have d0 : W2.cell? ⟨w.heap.size + 1, 0, none⟩ = some (.slice ao' k cap') := R2.out.cell (i := 0) (by omega)
  have d1 : W2.cell? ⟨w.heap.size + 1, 1, none⟩ = some (.slice aw' n capw') := R2.out.cell (i := 1) (by omega)
  have d2 : W2.cell? ⟨w.heap.size + 1, 2, none⟩ = some (.bool en) := R2.out.cell (i := 2) (by omega)
  clear b2
  go_enter Try.func9, Try.ntmps9
  go_wp2_with (go_at_call 8; refine (same_words (HW.out.below BW.out (Nat.le_refl _)) (HW'.out.below BW.out (Nat.le_refl _)) (fun _ _ => rfl) (by omega)).mono ?_; rintro e w' ⟨rfl, m, hw'⟩; subst hw')
  go_loopw [5] (fun i wr => ∃ q : Nat, q ≤ k ∧ i = .int .i64 q ∧ Below W2.heap.size W2 wr) (fun i _ => k - (intOf i).toNat)
  case atStart => exact ⟨0, Nat.zero_le _, rfl, below_drewN (Below.refl _ _) _⟩
  case round =>
    obtain ⟨q, hq, rfl, hb⟩ := hrel
    have HB := hide hb
    have e0 := (hb.cell (p := ⟨w.heap.size, 0, none⟩) s1).trans c0
    have g0 := (hb.cell (p := ⟨w.heap.size + 1, 0, none⟩) s2).trans d0
    by_cases hlt : q < k
    · have hqk : (q : Int) < (k : Int) := by omega
      obtain ⟨b, off, hao, hbl, hc⟩ := HS.out q hlt
      obtain ⟨b', off', hao', hbl', hc'⟩ := HS'.out q hlt
      subst hao hao'
      have old : ∀ (x o : Nat), x < w.heap.size → wr.cell? ⟨x, o, none⟩ = w.cell? ⟨x, o, none⟩ := fun x o hx => (hb.cell (p := ⟨x, o, none⟩) (by show x < _; omega)).trans (BW.out.cell (p := ⟨x, o, none⟩) hx)
      have ST := hide (fun w' => same_step w' (s q))
      obtain ⟨sq, hsq⟩ : ∃ sq, s q = sq := ⟨_, rfl⟩
      rw [hsq] at hc hc' ST
      obtain ⟨v0, v1, v2, v3, v4, v5⟩ := sq
      have W0 : Below wr.heap.size wr wr.drew ∧ wr.cell? ⟨w.heap.size, 0, none⟩ = some (.slice (some ⟨b, off, none⟩) k cap) ∧ wr.cell? ⟨w.heap.size + 1, 0, none⟩ = some (.slice (some ⟨b', off', none⟩) k cap') ∧ wr.rangeAt b (off + q * 6) [.int .i64 v0, .int .i64 v1, .int .i64 v2, .int .u64 v3, .int .u64 v4, .bool v5] ∧ wr.rangeAt b' (off' + q * 6) [.int .i64 v0, .int .i64 v1, .int .i64 v2, .int .u64 v3, .int .u64 v4, .bool v5] := by
        refine ⟨(Below.refl _ _).drew, e0, g0, fun j v hv => ?_, fun j v hv => ?_⟩
        · have hj : j < 6 := (List.getElem?_eq_some_iff.1 hv).1
          rw [old _ _ hbl, hc j hj]
          match j, hj with
          | 0, _ | 1, _ | 2, _ | 3, _ | 4, _ | 5, _ => exact congrArg some (Option.some.inj hv)
        · have hj : j < 6 := (List.getElem?_eq_some_iff.1 hv).1
          rw [old _ _ hbl', hc' j hj]
          match j, hj with
          | 0, _ | 1, _ | 2, _ | 3, _ | 4, _ | 5, _ => exact congrArg some (Option.some.inj hv)
      have HW0 := hide W0
      obtain ⟨dS, hdS⟩ := row46
      have DS := hide hdS
      simp only [Stp.val] at ST
      have m1 : w.heap.size < wr.heap.size := by have := hb.size; omega
      have m2 : w.heap.size + 1 < wr.heap.size := by have := hb.size; omega
      have m3 : b < wr.heap.size := by omega
      have m4 : b' < wr.heap.size := by omega
      clear old hc hc' hb hsq W0 hdS c0 c1 c2 d0 d1 d2
      go_wp2_with fail
      go_cut [46] from 35 to 45 (fun s46 wx => s46 = .bool false ∧ Below wr.heap.size wr wx)
      case first =>
        rename_i K1 J1 hJ1 hK1
        refine Reg.region (t := (⟨[(0, 35), (1, 36), (2, 37), (3, 38), (4, 39), (5, 40), (6, 41), (7, 42), (8, 43), (9, 44), (11, 46)],
            fun i => match i with
              | 0 => .pointer (some ⟨w.heap.size, 0, none⟩)
              | 1 => .slice (some ⟨b, off, none⟩) k cap
              | 3 => .pointer (some ⟨b, off + q * 6, none⟩)
              | 4 => .agg #[.int .i64 v0, .int .i64 v1, .int .i64 v2, .int .u64 v3, .int .u64 v4, .bool v5]
              | 5 => .pointer (some ⟨w.heap.size + 1, 0, none⟩)
              | 6 => .slice (some ⟨b', off', none⟩) k cap'
              | 8 => .pointer (some ⟨b', off' + q * 6, none⟩)
              | 9 => .agg #[.int .i64 v0, .int .i64 v1, .int .i64 v2, .int .u64 v3, .int .u64 v4, .bool v5]
              | 11 => .bool false
              | _ => .int .i64 (q : Int),
            10, 45, .bool true, [], fun _ => (3, []), [], fun _ => []⟩ : Reg.TabL).tab)
          (WI := fun _ w' => Below wr.heap.size wr w' ∧ w'.cell? ⟨w.heap.size, 0, none⟩ = some (.slice (some ⟨b, off, none⟩) k cap) ∧ w'.cell? ⟨w.heap.size + 1, 0, none⟩ = some (.slice (some ⟨b', off', none⟩) k cap') ∧ w'.rangeAt b (off + q * 6) [.int .i64 v0, .int .i64 v1, .int .i64 v2, .int .u64 v3, .int .u64 v4, .bool v5] ∧ w'.rangeAt b' (off' + q * 6) [.int .i64 v0, .int .i64 v1, .int .i64 v2, .int .u64 v3, .int .u64 v4, .bool v5])
          (gw := w.heap.size + 1) (by kernel_rfl) (Reg.TabL.ok _ rfl (fun i j hm => by simp at hm)) ?g6 ?b6 m2 ?alo ?sto ?dd HW0.out ?kinds ?fin
        case g6 =>
          intro i o ho
          have hi : i < 12 := by have := (Array.getElem?_eq_some_iff.1 ho).1; simpa using this
          match i, hi with
          | 0, _ | 1, _ | 2, _ | 3, _ | 4, _ | 5, _ | 6, _ | 7, _ | 8, _ | 9, _ | 10, _ | 11, _ => injection ho with ho; subst ho; rfl
        case b6 =>
          intro i o ho
          have hi : i < 12 := by have := (Array.getElem?_eq_some_iff.1 ho).1; simpa using this
          match i, hi with
          | 0, _ | 1, _ | 2, _ | 3, _ | 4, _ | 5, _ | 6, _ | 7, _ | 8, _ | 9, _ | 10, _ | 11, _ => injection ho with ho; subst ho; simp [Region.binds]
        case alo =>
          rintro _ w' o ⟨h0, h1, h2, h3, h4⟩
          exact ⟨h0.alloc h0.size _, (World.cell?_alloc_lt _ _ _ (World.block_lt_of_cell? _ _ h1)).trans h1, (World.cell?_alloc_lt _ _ _ (World.block_lt_of_cell? _ _ h2)).trans h2, World.rangeAt_alloc h3 o, World.rangeAt_alloc h4 o⟩
        case sto =>
          rintro _ w' x vs ⟨h0, h1, h2, h3, h4⟩ hk
          have tt := touch_setCells x vs 0 w'
          exact ⟨h0.trans (tt.below (fun y hy => by omega) h0.size), (World.cell?_of_block (a := ⟨w.heap.size, 0, none⟩) (tt.block _ (World.block_lt_of_cell? _ _ h1) (by show w.heap.size ≠ x; omega))).trans h1, (World.cell?_of_block (a := ⟨w.heap.size + 1, 0, none⟩) (tt.block _ (World.block_lt_of_cell? _ _ h2) (by show w.heap.size + 1 ≠ x; omega))).trans h2, rangeAt_block h3 (tt.block _ (World.block_lt_of_cell? _ _ (h3 0 _ rfl)) (by show b ≠ x; omega)), rangeAt_block h4 (tt.block _ (World.block_lt_of_cell? _ _ (h4 0 _ rfl)) (by show b' ≠ x; omega))⟩
        case dd =>
          intro x hx
          have hx' : x < 47 := by
            simp [Reg.TabL.tab] at hx
            omega
          simpa using hx'
        case kinds =>
          have hWb : ∀ w1 w2 : World, (Below wr.heap.size wr w1 ∧ w1.cell? ⟨w.heap.size, 0, none⟩ = some (.slice (some ⟨b, off, none⟩) k cap) ∧ w1.cell? ⟨w.heap.size + 1, 0, none⟩ = some (.slice (some ⟨b', off', none⟩) k cap') ∧ w1.rangeAt b (off + q * 6) [.int .i64 v0, .int .i64 v1, .int .i64 v2, .int .u64 v3, .int .u64 v4, .bool v5] ∧ w1.rangeAt b' (off' + q * 6) [.int .i64 v0, .int .i64 v1, .int .i64 v2, .int .u64 v3, .int .u64 v4, .bool v5]) → Below w1.heap.size w1 w2 → (Below wr.heap.size wr w2 ∧ w2.cell? ⟨w.heap.size, 0, none⟩ = some (.slice (some ⟨b, off, none⟩) k cap) ∧ w2.cell? ⟨w.heap.size + 1, 0, none⟩ = some (.slice (some ⟨b', off', none⟩) k cap') ∧ w2.rangeAt b (off + q * 6) [.int .i64 v0, .int .i64 v1, .int .i64 v2, .int .u64 v3, .int .u64 v4, .bool v5] ∧ w2.rangeAt b' (off' + q * 6) [.int .i64 v0, .int .i64 v1, .int .i64 v2, .int .u64 v3, .int .u64 v4, .bool v5]) := by
            rintro w1 w2 ⟨h0, h1, h2, h3, h4⟩ hb
            exact ⟨h0.trans (hb.mono h0.size), (hb.cell (p := ⟨w.heap.size, 0, none⟩) (World.block_lt_of_cell? _ _ h1)).trans h1, (hb.cell (p := ⟨w.heap.size + 1, 0, none⟩) (World.block_lt_of_cell? _ _ h2)).trans h2, rangeAt_block h3 (hb.block _ (World.block_lt_of_cell? _ _ (h3 0 _ rfl))), rangeAt_block h4 (hb.block _ (World.block_lt_of_cell? _ _ (h4 0 _ rfl)))⟩
          intro i o ho
          have hi : i < 12 := by have := (Array.getElem?_eq_some_iff.1 ho).1; simpa using this
          match i, hi with
            | 0, _ => injection ho with ho; subst ho; exact .inl ⟨35, _, rfl, rfl, fun L a w' bk hI hd => ex_field rfl (hI.fix 2 (Reg.notD rfl)) (field28 w' _)⟩
            | 1, _ => injection ho with ho; subst ho; exact .inl ⟨36, _, rfl, rfl, fun L a w' bk hI hd => ex_load rfl (hI.pure 0 _ _ rfl (hd ⟨0, .data⟩ (by simp) rfl)) (agg26 w') hI.world.2.1⟩
            | 2, _ => injection ho with ho; subst ho; exact .inl ⟨37, _, rfl, rfl, fun L a w' bk hI hd => ex_move rfl (hI.fix 5 (Reg.notD rfl))⟩
            | 3, _ => injection ho with ho; subst ho; exact .inl ⟨38, _, rfl, rfl, fun L a w' bk hI hd => ex_index rfl (hI.pure 1 _ _ rfl (hd ⟨1, .data⟩ (by simp) rfl)) (hI.pure 2 _ _ rfl (hd ⟨2, .data⟩ (by simp) rfl)) hlt Try.underlying27 sz46⟩
            | 4, _ => injection ho with ho; subst ho; exact .inl ⟨39, _, rfl, rfl, fun L a w' bk hI hd => ex_load_row rfl (hI.pure 3 _ _ rfl (hd ⟨3, .data⟩ (by simp) rfl)) hI.world.2.2.2.1 DS.out.1 DS.out.2 sz46⟩
            | 5, _ => injection ho with ho; subst ho; exact .inl ⟨40, _, rfl, rfl, fun L a w' bk hI hd => ex_field rfl (hI.fix 3 (Reg.notD rfl)) (field28 w' _)⟩
            | 6, _ => injection ho with ho; subst ho; exact .inl ⟨41, _, rfl, rfl, fun L a w' bk hI hd => ex_load rfl (hI.pure 5 _ _ rfl (hd ⟨5, .data⟩ (by simp) rfl)) (agg26 w') hI.world.2.2.1⟩
            | 7, _ => injection ho with ho; subst ho; exact .inl ⟨42, _, rfl, rfl, fun L a w' bk hI hd => ex_move rfl (hI.fix 5 (Reg.notD rfl))⟩
            | 8, _ => injection ho with ho; subst ho; exact .inl ⟨43, _, rfl, rfl, fun L a w' bk hI hd => ex_index rfl (hI.pure 6 _ _ rfl (hd ⟨6, .data⟩ (by simp) rfl)) (hI.pure 7 _ _ rfl (hd ⟨7, .data⟩ (by simp) rfl)) hlt Try.underlying27 sz46⟩
            | 9, _ => injection ho with ho; subst ho; exact .inl ⟨44, _, rfl, rfl, fun L a w' bk hI hd => ex_load_row rfl (hI.pure 8 _ _ rfl (hd ⟨8, .data⟩ (by simp) rfl)) hI.world.2.2.2.2 DS.out.1 DS.out.2 sz46⟩
            | 10, _ => injection ho with ho; subst ho; exact .inr (.inl ⟨rfl, rfl, fun L a w' bk K hI hL hd hk => wp_call (f := 21) (call2 rfl (hI.pure 4 _ _ rfl (hd ⟨4, .data⟩ (by simp) rfl)) (hI.pure 9 _ _ rfl (hd ⟨9, .data⟩ (by simp) rfl)) rfl (callSame _ _)) ((ST.out w').mono (fun e w'' ⟨he, hb⟩ => ⟨_, he, hk w'' (hWb w' w'' hI.world hb) (Touch.of_below hb _)⟩))⟩)
            | 11, _ => injection ho with ho; subst ho; exact .inl ⟨46, _, rfl, rfl, fun L a w' bk hI hd => ex_not rfl (hI.call (hd ⟨10, .data⟩ (by simp) rfl))⟩
        case fin =>
          intro L a' w' bk hI hall
          refine hK1 _ _ (Met.intro (hJ1 _ _ ?_))
          have ea := act_all a' 47 (by rw [hI.sz]; rfl) hI.df
          simp only [List.range, List.range.loop, List.map] at ea
          rw [hI.fix 0 (Reg.notD rfl), hI.fix 1 (Reg.notD rfl), hI.fix 2 (Reg.notD rfl), hI.fix 3 (Reg.notD rfl), hI.fix 4 (Reg.notD rfl), hI.fix 5 (Reg.notD rfl), hI.fix 6 (Reg.notD rfl), hI.fix 7 (Reg.notD rfl), hI.fix 8 (Reg.notD rfl), hI.fix 9 (Reg.notD rfl), hI.fix 10 (Reg.notD rfl), hI.fix 11 (Reg.notD rfl), hI.fix 12 (Reg.notD rfl), hI.fix 13 (Reg.notD rfl), hI.fix 14 (Reg.notD rfl), hI.fix 15 (Reg.notD rfl), hI.fix 16 (Reg.notD rfl), hI.fix 17 (Reg.notD rfl), hI.fix 18 (Reg.notD rfl), hI.fix 19 (Reg.notD rfl), hI.fix 20 (Reg.notD rfl), hI.fix 21 (Reg.notD rfl), hI.fix 22 (Reg.notD rfl), hI.fix 23 (Reg.notD rfl), hI.fix 24 (Reg.notD rfl), hI.fix 25 (Reg.notD rfl), hI.fix 26 (Reg.notD rfl), hI.fix 27 (Reg.notD rfl), hI.fix 28 (Reg.notD rfl), hI.fix 29 (Reg.notD rfl), hI.fix 30 (Reg.notD rfl), hI.fix 31 (Reg.notD rfl), hI.fix 32 (Reg.notD rfl), hI.fix 33 (Reg.notD rfl), hI.fix 34 (Reg.notD rfl)] at ea
          have p46 := hI.pure 11 46 _ rfl (hall 11 (by decide))
          (repeat apply Exists.intro)
          refine ⟨?rel, ?eq⟩
          case eq => exact ea
          case rel => exact ⟨p46, hI.world.1⟩
      case rest =>
        obtain ⟨rfl, hbx⟩ := hcut
        go_wp2_with fail
        go_roundw
        case rel => exact ⟨q + 1, by omega, by go_num, HB.out.trans (hbx.mono HB.out.size)⟩
        case measure => simp [intOf]; omega
    · have hqk : ¬ (q : Int) < (k : Int) := by omega
      clear hb c0 c1 c2 d0 d1 d2
      go_wp2_with fail
      go_light
      refine bodyPost_ret (v := .bool true) ?_ rfl ⟨rfl, BW.out.trans (HB.out.mono (by omega))⟩
      simp [results, Try.results9, go_sem]
end Go.Proofs.Ytafaiikgpooflaa

/-
  Single cells of rows that grow.
-/
namespace Go.Proofs.Ytafaiikgpooflaa
open Go.RowKit
set_option linter.unusedVariables false
set_option linter.unusedSimpArgs false
set_option maxRecDepth 20000

/-- One cell of what a row that grows holds. -/
theorem grows_cell {blk : Rl → Nat} {c : Rl → Option Row} {r : Rl} {e : TypeId} {sz k : Nat} {xs : List Value} {v : Value} {w : World} {base : Nat} (h : Grows blk c r e sz k xs v) (H : Has w base blk c) (hl : xs.length = k * sz) (hk : 0 < k) :
    ∃ b cap, v = .slice (some ⟨b, 0, none⟩) k cap ∧ b < w.heap.size ∧ base ≤ b ∧ ∀ i u, xs[i]? = some u → w.cell? ⟨b, i, none⟩ = some u := by
  rcases h with ⟨rfl, _⟩ | ⟨cap, F, rfl, hc, hkc, hcm, hp⟩
  · omega
  · refine ⟨blk r, cap, rfl, H.lt hc, H.new _ _ hc, fun i u hu => ?_⟩
    have hi : i < xs.length := by rcases Nat.lt_or_ge i xs.length with l | l; exact l; rw [List.getElem?_eq_none l] at hu; cases hu
    have hlt : i < cap * sz := by have := Nat.mul_le_mul_right sz hkc; omega
    rw [H.cell hc hlt]
    show some (F i) = _
    rw [hp i u hu]

theorem stepCells_get (s : Nat → Stp) (k j i : Nat) (hj : j < k) (hi : i < 6) : (stepCells s k)[j * 6 + i]? = some ((s j).cell i) := by
  induction k with
  | zero => omega
  | succ k ih =>
    simp only [stepCells]
    by_cases e : j = k
    · subst e
      rw [List.getElem?_append_right (by rw [stepCells_length]; omega), stepCells_length, show j * 6 + i - j * 6 = i by omega]
      match i, hi with
      | 0, _ | 1, _ | 2, _ | 3, _ | 4, _ | 5, _ => rfl
    · rw [List.getElem?_append_left (by rw [stepCells_length]; omega)]
      exact ih (by omega)
def Ans.cell (x : Ans) (i : Nat) : Value := match i with | 0 => .bool x.ok | _ => .int .u64 x.val
theorem ansCells_get (a : Nat → Ans) (k j i : Nat) (hj : j < k) (hi : i < 2) : (ansCells a k)[j * 2 + i]? = some (Ans.cell (a j) i) := by
  induction k with
  | zero => omega
  | succ k ih =>
    simp only [ansCells]
    by_cases e : j = k
    · subst e
      rw [List.getElem?_append_right (by rw [ansCells_length]; omega), ansCells_length, show j * 2 + i - j * 2 = i by omega]
      match i, hi with
      | 0, _ | 1, _ => rfl
    · rw [List.getElem?_append_left (by rw [ansCells_length]; omega)]
      exact ih (by omega)

theorem row_arr (w : World) (arr : Array Value) (t : TypeId) : (w.alloc (.cells arr t)).rowIs w.heap.size t arr.size (fun i => arr.getD i undef) :=
  World.rowIs_alloc w arr t _ (fun i hi => by simp [Array.getD, hi])

end Go.Proofs.Ytafaiikgpooflaa

/-
  The reference's comparison of answers; a told run as it is seen.
-/
namespace Go.Proofs.Ytafaiikgpooflaa
open Go.RowKit
set_option linter.unusedVariables false
set_option linter.unusedSimpArgs false
set_option linter.unnecessarySimpa false
set_option maxRecDepth 20000

/-- Answers as they are seen: hand h's slice, its answers. -/
def SeesA (w : World) (B : Nat) (ao : Option Addr) (nh : Nat) (dn : Nat → Nat) (an : Nat → Nat → Ans) : Prop :=
  ∀ h, h < nh → ∃ b off av cap, ao = some ⟨b, off, none⟩ ∧ b < B ∧ w.cell? ⟨b, off + h, none⟩ = some (.slice av (dn h) cap) ∧ ∀ j, j < dn h → ∃ b' off', av = some ⟨b', off', none⟩ ∧ b' < B ∧ ∀ i, i < 2 → w.cell? ⟨b', off' + j * 2 + i, none⟩ = some (Ans.cell (an h j) i)

theorem SeesA.below {w w' : World} {B C : Nat} {ao : Option Addr} {nh : Nat} {dn : Nat → Nat} {an : Nat → Nat → Ans} (S : SeesA w B ao nh dn an) (hb : Below C w w') (hBC : B ≤ C) : SeesA w' B ao nh dn an := fun h hh => by
  obtain ⟨b, off, av, cap, e, hl, hc, hj⟩ := S h hh
  refine ⟨b, off, av, cap, e, hl, (hb.cell (p := ⟨b, off + h, none⟩) (by show b < C; omega)).trans hc, fun j hjj => ?_⟩
  obtain ⟨b', off', e', hl', hc'⟩ := hj j hjj
  exact ⟨b', off', e', hl', fun i hi => (hb.cell (p := ⟨b', off' + j * 2 + i, none⟩) (by show b' < C; omega)).trans (hc' i hi)⟩
theorem SeesA.mono {w : World} {B C : Nat} {ao : Option Addr} {nh : Nat} {dn : Nat → Nat} {an : Nat → Nat → Ans} (S : SeesA w B ao nh dn an) (hBC : B ≤ C) : SeesA w C ao nh dn an := fun h hh => by
  obtain ⟨b, off, av, cap, e, hl, hc, hj⟩ := S h hh
  exact ⟨b, off, av, cap, e, by omega, hc, fun j hjj => by obtain ⟨b', off', e', hl', hc'⟩ := hj j hjj; exact ⟨b', off', e', by omega, hc'⟩⟩

set_option maxHeartbeats 8000000 in
theorem same_answers {w : World} {B : Nat} {ao ao' : Option Addr} {nh cap cap' : Nat} {dn : Nat → Nat} {an : Nat → Nat → Ans} (hs : SeesA w B ao nh dn an) (hs' : SeesA w B ao' nh dn an) (hn : nh ≤ 8) (hd : ∀ h, h < nh → dn h ≤ 256) :
    Calls Try.prog 10 #[.slice ao nh cap, .slice ao' nh cap'] w fun e w' => e = .returned (.bool true) ∧ ∃ m, w' = w.drewN m := by
  have H := hide hs
  have H' := hide hs'
  have HD := hide hd
  clear hs hs' hd
  go_enter Try.func10, Try.ntmps10
  go_wp2_with fail
  go_loopw [5] (fun i wr => ∃ k m : Nat, k ≤ nh ∧ i = .int .i64 k ∧ wr = w.drewN m) (fun i _ => nh - (intOf i).toNat)
  case atStart => exact ⟨0, 0, Nat.zero_le _, rfl, rfl⟩
  case round =>
    obtain ⟨k, m, hk, rfl, rfl⟩ := hrel
    by_cases hlt : k < nh
    · obtain ⟨b, off, av, cv, rfl, hbl, hcc, hj⟩ := H.out k hlt
      obtain ⟨b', off', av', cv', rfl, hbl', hcc', hj'⟩ := H'.out k hlt
      have hkn : (k : Int) < (nh : Int) := by omega
      have hdk := HD.out k hlt
      have HJ := hide hj
      have HJ' := hide hj'
      clear hj hj'
      obtain ⟨dk, hdk'⟩ : ∃ dk, dn k = dk := ⟨_, rfl⟩
      rw [hdk'] at hcc hcc' hdk HJ HJ'
      obtain ⟨ak, hak'⟩ : ∃ ak, an k = ak := ⟨_, rfl⟩
      rw [hak'] at HJ HJ'
      clear hdk' hak'
      go_wp2_with fail
      go_quiet (fail)
      go_wp2_with fail
      go_loopw [6] (fun i wr => ∃ q m : Nat, q ≤ dk ∧ i = .int .i64 q ∧ wr = w.drewN m) (fun i _ => dk - (intOf i).toNat)
      case atStart => exact ⟨0, _, Nat.zero_le _, rfl, World.drewN_drewN ..⟩
      case round =>
        obtain ⟨q, m', hq, rfl, rfl⟩ := hrel
        by_cases hlq : q < dk
        · obtain ⟨bj, oj, rfl, hlj, hcj⟩ := HJ.out q hlq
          obtain ⟨bj', oj', rfl, hlj', hcj'⟩ := HJ'.out q hlq
          have hqn : (q : Int) < (dk : Int) := by omega
          have p0 := hcj 0 (by omega)
          have p1 := hcj 1 (by omega)
          have r0 := hcj' 0 (by omega)
          have r1 := hcj' 1 (by omega)
          simp only [Ans.cell, Nat.add_zero] at p0 p1 r0 r1
          clear hcj hcj'
          go_wp2_with fail
          go_quiet (fail)
          go_wp2_with fail
          go_roundw
          case rel => exact ⟨q + 1, _, by omega, by go_num, rfl⟩
          case measure => simp [intOf]; omega
        · have hqn : ¬ (q : Int) < (dk : Int) := by omega
          go_wp2_with fail
          go_roundw
          case rel => exact ⟨k + 1, _, by omega, by go_num, rfl⟩
          case measure => simp [intOf]; omega
    · have hkn : ¬ (k : Int) < (nh : Int) := by omega
      go_wp2_with fail
      go_ret
      exact ⟨rfl, _, rfl⟩

/-- A grown slice of steps, as it is seen. -/
theorem Grows.seesS {blk : Rl → Nat} {c : Rl → Option Row} {k : Nat} {s : Nat → Stp} {w : World} {base : Nat} {sa : Option Addr} {sc : Nat} (h : Grows blk c .steps 37 6 k (stepCells s k) (.slice sa k sc)) (H : Has w base blk c) : SeesS w w.heap.size sa k s := fun j hj => by
  obtain ⟨b, cap, e, hl, _, hc⟩ := grows_cell h H (stepCells_length _ _) (by omega)
  injection e with e1 _ _
  refine ⟨b, 0, e1, hl, fun i hi => ?_⟩
  rw [Nat.zero_add]
  exact hc _ _ (stepCells_get s k j i hj hi)
/-- The answers, as they are seen. -/
theorem seesA_of {blk : Rl → Nat} {c : Rl → Option Row} {K : Kd} {st : St K} {P : Par} {w : World} {base : Nat} (h : ∃ A, c .answers = some ⟨38, P.nh, A⟩ ∧ ∀ h, h < P.nh → Grows blk c (.arow h) 40 2 (st.done h) (ansCells (st.ans h) (st.done h)) (A h)) (H : Has w base blk c) :
    SeesA w w.heap.size (some ⟨blk .answers, 0, none⟩) P.nh st.done st.ans := fun h' hh => by
  obtain ⟨A, eA, hA⟩ := h
  obtain ⟨av, cv, ev⟩ := (hA h' hh).isSlice
  refine ⟨_, 0, av, cv, rfl, H.lt eA, ?_, fun j hj => ?_⟩
  · rw [Nat.zero_add, ← ev]; exact H.cell eA (i := h') hh
  · obtain ⟨b, cap, e, hl, _, hc⟩ := grows_cell (hA h' hh) H (ansCells_length _ _) (by omega)
    rw [ev] at e
    injection e with e1 _ _
    refine ⟨b, 0, e1, hl, fun i hi => ?_⟩
    rw [Nat.zero_add]
    exact hc _ _ (ansCells_get (st.ans h') (st.done h') j i hj hi)
theorem RGood.seesW {K : Kd} {rep : List Value → K.σ → Prop} {P : Par} {blk : Rl → Nat} {c : Rl → Option Row} {st : St K} {un : Nat → Bool} {capw : Nat} {sv : Value} {w : World} {base : Nat} (G : RGood K rep P blk c st un capw sv) (H : Has w base blk c) : Sees w w.heap.size (some ⟨blk .words, 0, none⟩) P.n st.f := fun j hj => by
  obtain ⟨F, e, h1, _, h2⟩ := G.words
  refine ⟨_, 0, rfl, H.lt e, ?_⟩
  rw [Nat.zero_add, H.cell e (i := j) (by show j < capw; omega)]
  exact congrArg some (h2 j hj)

theorem first_not (p : Nat → Prop) : ∀ n, (∀ i, i < n → p i) ∨ ∃ i, i < n ∧ ¬ p i ∧ ∀ j, j < i → p j
  | 0 => .inl (fun i hi => absurd hi (Nat.not_lt_zero i))
  | n + 1 => by
    rcases first_not p n with h | ⟨i, hi, h1, h2⟩
    · by_cases hp : p n
      · exact .inl (fun i hi => by rcases Nat.lt_or_ge i n with l | l; exact h i l; obtain rfl : i = n := (by omega); exact hp)
      · exact .inr ⟨n, by omega, hp, h⟩
    · exact .inr ⟨i, by omega, h1, h2⟩
theorem allOk_or (K : Kd) (P : Par) : AllOk K P ∨ ∃ e, FirstErr K P e := by
  rcases first_not (fun h => ∀ j, j < P.jn h → K.err h (P.jb h j) = 0) P.nh with h | ⟨H, hH, h1, h2⟩
  · exact .inl h
  · rcases first_not (fun j => K.err H (P.jb H j) = 0) (P.jn H) with h | ⟨J, hJ, h3, h4⟩
    · exact absurd h h1
    · exact .inr ⟨_, H, J, hH, hJ, rfl, h3, h2, h4⟩
theorem ErrOf.one {K : Kd} {P : Par} {most e e' : Int} (h : ErrOf K P most e) (h' : ErrOf K P most e') : e = e' := by
  have neg : ¬ (LongHands P.nh P.jn ∨ 65536 < P.ns ∨ 65536 < most) ∨ (LongHands P.nh P.jn ∨ 65536 < P.ns ∨ 65536 < most) := (Classical.em _).symm
  rcases h with ⟨a1, rfl⟩ | ⟨a1, a2, rfl⟩ | ⟨a1, a2, a3, a4, rfl⟩ | ⟨⟨a1, a2, a3, a4, a5⟩, a6⟩ <;> rcases h' with ⟨b1, rfl⟩ | ⟨b1, b2, rfl⟩ | ⟨b1, b2, b3, b4, rfl⟩ | ⟨⟨b1, b2, b3, b4, b5⟩, b6⟩
  all_goals first
    | rfl
    | (exfalso; omega)
    | (exfalso; rcases a2 with a2 | a2 | a2; exact b2 a2; omega; omega)
    | (exfalso; rcases b2 with b2 | b2 | b2; exact a2 b2; omega; omega)
    | exact a6.one b6
theorem ErrOf.not {K : Kd} {P : Par} {most e : Int} (h : ErrOf K P most e) : ¬ (Fine P most ∧ AllOk K P) := by
  rintro ⟨⟨b1, b2, b3, b4, b5⟩, b6⟩
  rcases h with ⟨a1, _⟩ | ⟨a1, a2, _⟩ | ⟨a1, a2, a3, a4, _⟩ | ⟨_, a6⟩
  · omega
  · rcases a2 with a2 | a2 | a2
    · exact b2 a2
    · omega
    · omega
  · omega
  · exact a6.not b6

end Go.Proofs.Ytafaiikgpooflaa
