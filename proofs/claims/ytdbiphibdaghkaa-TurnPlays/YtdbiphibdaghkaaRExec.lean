/-
  Single operations that only read, as equations of their runs.
-/
import Derived.Test.YtdbiphibdaghkaaRClean
import Derived.Test.YtdbiphibdaghkaaRTk
namespace Go.Proofs.Ytdbiphibdaghkaa
open Go.RowKit
set_option linter.unusedVariables false
set_option linter.unusedSimpArgs false
set_option linter.unnecessarySimpa false
set_option maxRecDepth 20000

section
variable {ev : Operand → Value} {o : Oper} {w : World}
theorem ex_move {x : Operand} {v : Value} (ho : o.op = .move x) (hx : ev x = v) : (execOp ev o).run Try.prog w = .ok (.value v) w := by simp [execOp, ho, hx]
theorem ex_assign {x : Operand} {v : Value} (ho : o.op = .assign x) (hx : ev x = v) : (execOp ev o).run Try.prog w = .ok (.value v) w := by simp [execOp, ho, hx]
theorem ex_extract {x : Operand} {vs : Array Value} {i : Nat} {v : Value} (ho : o.op = .extract x i) (hx : ev x = .tuple vs) (hv : vs[i]? = some v) : (execOp ev o).run Try.prog w = .ok (.value v) w := by
  simp [execOp, ho, hx, go_sem, hv]
theorem ex_load {x : Operand} {ty : TypeId} {a : Addr} {v : Value} (ho : o.op = .load ty x) (hx : ev x = .pointer (some a)) (hagg : (isAgg ty).run Try.prog w = .ok false w) (hc : w.cell? a = some v) : (execOp ev o).run Try.prog w = .ok (.value v) w := by
  simp [execOp, ho, hx, Instr.loadAt, Instr.sureAddr, loadVar, Sem.run_bind, hagg, go_sem, hc]
theorem ex_field {x : Operand} {b k q : Nat} {ty : TypeId} (ho : o.op = .fieldAddr ty x k) (hx : ev x = .pointer (some ⟨b, 0, none⟩)) (hf : (Instr.fieldAt ty (.pointer (some ⟨b, 0, none⟩)) k).run Try.prog w = .ok (.pointer (some ⟨b, q, none⟩)) w) : (execOp ev o).run Try.prog w = .ok (.value (.pointer (some ⟨b, q, none⟩))) w := by
  simp [execOp, ho, hx, hf]
theorem ex_index {x y : Operand} {b off n cap i sz : Nat} {ty e : TypeId} (ho : o.op = .indexAddr ty x y) (hx : ev x = .slice (some ⟨b, off, none⟩) n cap) (hy : ev y = .int .i64 (i : Int)) (hi : i < n) (hu : Try.prog.underlying ty = some (.slice e)) (hs : (Try.prog.info? e).map (·.size) = some sz) :
    (execOp ev o).run Try.prog w = .ok (.value (.pointer (some ⟨b, off + i * sz, none⟩))) w := by
  cases hp : Try.prog.info? e with
  | none => rw [hp] at hs; cases hs
  | some info =>
    rw [hp] at hs
    simp at hs
    have h1 : (sizeOf e).run Try.prog w = .ok sz w := by simp [sizeOf, typeInfo, hp, hs]
    have hi' : (i : Int) < (n : Int) := by omega
    simp [execOp, ho, hx, hy, Instr.indexAt, Sem.run_bind, run_underlying hu w, asIntOf, go_sem, h1, hi', hi]
theorem field90 (w : World) (b : Nat) : (Instr.fieldAt 90 (.pointer (some ⟨b, 0, none⟩)) 1).run Try.prog w = .ok (.pointer (some ⟨b, 6, none⟩)) w ∧ (Instr.fieldAt 90 (.pointer (some ⟨b, 0, none⟩)) 3).run Try.prog w = .ok (.pointer (some ⟨b, 8, none⟩)) w ∧
    (Instr.fieldAt 90 (.pointer (some ⟨b, 0, none⟩)) 5).run Try.prog w = .ok (.pointer (some ⟨b, 10, none⟩)) w ∧ (Instr.fieldAt 90 (.pointer (some ⟨b, 0, none⟩)) 6).run Try.prog w = .ok (.pointer (some ⟨b, 11, none⟩)) w := by
  refine ⟨?_, ?_, ?_, ?_⟩ <;> simp [go_sem]
theorem agg_no (w : World) : (isAgg 76).run Try.prog w = .ok false w ∧ (isAgg 22).run Try.prog w = .ok false w ∧ (isAgg 52).run Try.prog w = .ok false w ∧ (isAgg 24).run Try.prog w = .ok false w ∧ (isAgg 3).run Try.prog w = .ok false w ∧ (isAgg 88).run Try.prog w = .ok false w := by
  refine ⟨?_, ?_, ?_, ?_, ?_, ?_⟩ <;> simp [go_sem]
theorem build42 {x : Array (Nat × Operand)} (ho : o.op = .build 42 #[]) : (execOp ev o).run Try.prog w = .ok (.value (.agg #[.int .i64 0, .int .i64 0, .int .i64 0, .int .i64 0, .int .i64 0, .int .i64 0])) w := by
  simp [execOp, ho, go_sem]
theorem alloc79 (ho : o.op = .alloc 79) : (execOp ev o).run Try.prog w = .ok (.value (.pointer (some ⟨w.heap.size, 0, none⟩))) (w.alloc (.cells tk0.toArray 79)) := by
  simp [execOp, ho, go_sem, tk0]
theorem alloc46 (ho : o.op = .alloc 46) : (execOp ev o).run Try.prog w = .ok (.value (.pointer (some ⟨w.heap.size, 0, none⟩))) (w.alloc (.cells [Value.int .i64 0, .int .i64 0, .int .i64 0, .int .u64 0, .int .u64 0, .bool false].toArray 46)) := by
  simp [execOp, ho, go_sem]
theorem wp_call {P : Program} {a : Act} {K : Act → World → Prop} {Q : Exit → Act → World → Prop} {f : FuncId} {args : Array Value} (hrun : (execOp a.eval o).run P w = .ok (.enter f args) w) (hc : Calls P f args w fun e w' => ∃ v, e = .returned v ∧ K (a.put o.dst v) w') : o.wp P a w K Q := by
  unfold Oper.wp
  rw [hrun, Oper.upon_enter]
  exact hc.mono (fun e w' ⟨v, he, hk⟩ => by subst he; exact hk)
theorem call4 {f : FuncId} {x0 x1 x2 x3 : Operand} {ts : Array TypeId} {v0 v1 v2 v3 : Value} (ho : o.op = Op.call { callee := Callee.value (Operand.func f), args := #[x0, x1, x2, x3], argTypes := ts }) (h0 : ev x0 = v0) (h1 : ev x1 = v1) (h2 : ev x2 = v2) (h3 : ev x3 = v3) (hf : ev (Operand.func f) = .func (.func f) #[] #[]) (hcf : (callFunc f #[v0, v1, v2, v3]).run Try.prog w = .ok (.enter f #[v0, v1, v2, v3]) w) :
    (execOp ev o).run Try.prog w = .ok (.enter f #[v0, v1, v2, v3]) w := by
  simp [execOp, ho, h0, h1, h2, h3, hf, resolve, invoke, go_sem, hcf]
theorem call2 {f : FuncId} {x0 x1 : Operand} {ts : Array TypeId} {v0 v1 : Value} (ho : o.op = Op.call { callee := Callee.value (Operand.func f), args := #[x0, x1], argTypes := ts }) (h0 : ev x0 = v0) (h1 : ev x1 = v1) (hf : ev (Operand.func f) = .func (.func f) #[] #[]) (hcf : (callFunc f #[v0, v1]).run Try.prog w = .ok (.enter f #[v0, v1]) w) :
    (execOp ev o).run Try.prog w = .ok (.enter f #[v0, v1]) w := by
  simp [execOp, ho, h0, h1, hf, resolve, invoke, go_sem, hcf]
theorem callStart (args : Array Value) (w : World) : (callFunc 34 args).run Try.prog w = .ok (.enter 34 args) w := by
  simp [go_sem]
theorem callStep (args : Array Value) (w : World) : (callFunc 38 args).run Try.prog w = .ok (.enter 38 args) w := by
  simp [go_sem]
theorem sz52 : (Try.prog.info? 52).map (·.size) = some 1 := by kernel_rfl
theorem sz3r : (Try.prog.info? 3).map (·.size) = some 1 := by kernel_rfl
theorem sz54 : (Try.prog.info? 54).map (·.size) = some 5 := by kernel_rfl
theorem size54 : (Try.prog.info? 54).map (·.size) = some 5 := by kernel_rfl
theorem row54 : ∃ d, Try.prog.underlying 54 = some d ∧ d.isRow = true := by
  have h : (Try.prog.underlying 54).map (fun d => d.isRow) = some true := by kernel_rfl
  exact Option.map_eq_some_iff.1 h
theorem ex_load_row {x : Operand} {ty : TypeId} {b off : Nat} {cs : List Value} {d : TypeDesc} (ho : o.op = .load ty x) (hx : ev x = .pointer (some ⟨b, off, none⟩)) (hc : w.rangeAt b off cs) (hu : Try.prog.underlying ty = some d) (hd : d.isRow = true) (hi : (Try.prog.info? ty).map (·.size) = some cs.length) :
    (execOp ev o).run Try.prog w = .ok (.value (.agg cs.toArray)) w := by
  simp [execOp, ho, hx, run_loadAt_mid w b off ty cs d hc hu hd hi]
end
end Go.Proofs.Ytdbiphibdaghkaa
