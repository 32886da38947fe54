/-
  Lemmas: EpochA.
-/
import Derived.Test.YtbohmahjpolapaaTp20
import Derived.Test.YtbohmahjpolapaaTp17
/-
  The tasks of an epoch: their small methods.
-/
namespace Go.Proofs.Ytbohmahjpolapaa
open Go.RowKit
set_option linter.unusedVariables false
set_option linter.unusedSimpArgs false
set_option maxRecDepth 20000
namespace Epoch

theorem fieldEe0 (w : World) (b : Nat) : (Instr.fieldAt 111 (.pointer (some ⟨b, 0, none⟩)) 0).run Try.prog w = .ok (.pointer (some ⟨b, 0, none⟩)) w := by simp [go_sem]
theorem fieldEe1 (w : World) (b : Nat) : (Instr.fieldAt 111 (.pointer (some ⟨b, 0, none⟩)) 1).run Try.prog w = .ok (.pointer (some ⟨b, 3, none⟩)) w := by simp [go_sem]
theorem fieldEe2 (w : World) (b : Nat) : (Instr.fieldAt 111 (.pointer (some ⟨b, 0, none⟩)) 2).run Try.prog w = .ok (.pointer (some ⟨b, 4, none⟩)) w := by simp [go_sem]
theorem fieldEl0 (w : World) (b : Nat) : (Instr.fieldAt 114 (.pointer (some ⟨b, 0, none⟩)) 0).run Try.prog w = .ok (.pointer (some ⟨b, 0, none⟩)) w := by simp [go_sem]
theorem fieldEr0 (w : World) (b : Nat) : (Instr.fieldAt 117 (.pointer (some ⟨b, 0, none⟩)) 0).run Try.prog w = .ok (.pointer (some ⟨b, 0, none⟩)) w := by simp [go_sem]
theorem fieldEr1 (w : World) (b : Nat) : (Instr.fieldAt 117 (.pointer (some ⟨b, 0, none⟩)) 1).run Try.prog w = .ok (.pointer (some ⟨b, 3, none⟩)) w := by simp [go_sem]
theorem fieldEr2 (w : World) (b : Nat) : (Instr.fieldAt 117 (.pointer (some ⟨b, 0, none⟩)) 2).run Try.prog w = .ok (.pointer (some ⟨b, 4, none⟩)) w := by simp [go_sem]
theorem fieldEr3 (w : World) (b : Nat) : (Instr.fieldAt 117 (.pointer (some ⟨b, 0, none⟩)) 3).run Try.prog w = .ok (.pointer (some ⟨b, 5, none⟩)) w := by simp [go_sem]
theorem fieldEp0 (w : World) (b : Nat) : (Instr.fieldAt 120 (.pointer (some ⟨b, 0, none⟩)) 0).run Try.prog w = .ok (.pointer (some ⟨b, 0, none⟩)) w := by simp [go_sem]
theorem fieldEp1 (w : World) (b : Nat) : (Instr.fieldAt 120 (.pointer (some ⟨b, 0, none⟩)) 1).run Try.prog w = .ok (.pointer (some ⟨b, 3, none⟩)) w := by simp [go_sem]
theorem fieldEp2 (w : World) (b : Nat) : (Instr.fieldAt 120 (.pointer (some ⟨b, 0, none⟩)) 2).run Try.prog w = .ok (.pointer (some ⟨b, 4, none⟩)) w := by simp [go_sem]
theorem fieldEp3 (w : World) (b : Nat) : (Instr.fieldAt 120 (.pointer (some ⟨b, 0, none⟩)) 3).run Try.prog w = .ok (.pointer (some ⟨b, 5, none⟩)) w := by simp [go_sem]
theorem fieldEp4 (w : World) (b : Nat) : (Instr.fieldAt 120 (.pointer (some ⟨b, 0, none⟩)) 4).run Try.prog w = .ok (.pointer (some ⟨b, 6, none⟩)) w := by simp [go_sem]
theorem fieldEp5 (w : World) (b : Nat) : (Instr.fieldAt 120 (.pointer (some ⟨b, 0, none⟩)) 5).run Try.prog w = .ok (.pointer (some ⟨b, 7, none⟩)) w := by simp [go_sem]
theorem fieldEp6 (w : World) (b : Nat) : (Instr.fieldAt 120 (.pointer (some ⟨b, 0, none⟩)) 6).run Try.prog w = .ok (.pointer (some ⟨b, 8, none⟩)) w := by simp [go_sem]
theorem fieldEw0 (w : World) (b : Nat) : (Instr.fieldAt 108 (.pointer (some ⟨b, 0, none⟩)) 0).run Try.prog w = .ok (.pointer (some ⟨b, 0, none⟩)) w := by simp [go_sem]
theorem aggI (w : World) : (isAgg 3).run Try.prog w = .ok false w := by simp [go_sem]
theorem aggU (w : World) : (isAgg 45).run Try.prog w = .ok false w := by simp [go_sem]
theorem callLoad (args : Array Value) (w : World) : (callFunc 103 args).run Try.prog w = .ok (.enter 103 args) w := by simp [go_sem]
theorem callOwn (args : Array Value) (w : World) : (callFunc 104 args).run Try.prog w = .ok (.enter 104 args) w := by simp [go_sem]
theorem callCas (args : Array Value) (w : World) : (callFunc 116 args).run Try.prog w = .ok (.enter 116 args) w := by simp [go_sem]
theorem callGo (args : Array Value) (w : World) : (callFunc 118 args).run Try.prog w = .ok (.enter 118 args) w := by simp [go_sem]
theorem callDo (args : Array Value) (w : World) : (callFunc 105 args).run Try.prog w = .ok (.enter 105 args) w := by simp [go_sem]

theorem res_facts {w : World} {r : Nat} (h : w.rowIs r 47 6 zcell) : (w.cell? ⟨r, 0, none⟩ = some (.int .i64 0) ∧ w.frozen? ⟨r, 0, none⟩ = false) ∧ (w.cell? ⟨r, 1, none⟩ = some (.int .i64 0) ∧ w.frozen? ⟨r, 1, none⟩ = false) ∧ (w.cell? ⟨r, 2, none⟩ = some (.int .i64 0) ∧ w.frozen? ⟨r, 2, none⟩ = false) ∧ (w.cell? ⟨r, 3, none⟩ = some (.int .u64 0) ∧ w.frozen? ⟨r, 3, none⟩ = false) ∧ (w.cell? ⟨r, 4, none⟩ = some (.int .u64 0) ∧ w.frozen? ⟨r, 4, none⟩ = false) ∧ (w.cell? ⟨r, 5, none⟩ = some (.bool false) ∧ w.frozen? ⟨r, 5, none⟩ = false) :=
  ⟨⟨h.cell (i := 0) (by omega), h.frozen 0⟩, ⟨h.cell (i := 1) (by omega), h.frozen 1⟩, ⟨h.cell (i := 2) (by omega), h.frozen 2⟩, ⟨h.cell (i := 3) (by omega), h.frozen 3⟩, ⟨h.cell (i := 4) (by omega), h.frozen 4⟩, ⟨h.cell (i := 5) (by omega), h.frozen 5⟩⟩
theorem rowIs_new {w : World} {k : Nat} (hk : w.heap.size = k) (vs : Array Value) (t : TypeId) (f : Nat → Value) (n : Nat) (hn : vs.size = n) (hc : ∀ i, i < n → vs[i]? = some (f i)) : (w.alloc (.cells vs t)).rowIs k t n f := by
  subst hk
  exact rowIs_cells vs t f n hn hc
theorem wrap_u64' (x : Int) : IntKind.u64.wrap x = u64 x := by rw [IntKind.wrap_u64]; rfl
theorem ex_add1 {ev : Operand → Value} {o : Oper} {w : World} {x y : Operand} {v : Int} (ho : o.op = .binOp .add 45 x y 45) (hx : ev x = .int .u64 v) (hy : ev y = .int .u64 1) : (execOp ev o).run Try.prog w = .ok (.value (.int .u64 (u64 (v + 1)))) w := by
  have := wrap_u64' (v + 1)
  simp [execOp, ho, hx, hy, go_sem, this]
theorem call3 {ev : Operand → Value} {o : Oper} {w : World} {f : FuncId} {x0 x1 x2 : Operand} {ts : Array TypeId} {v0 v1 v2 : Value} (ho : o.op = Op.call { callee := Callee.value (Operand.func f), args := #[x0, x1, x2], argTypes := ts }) (h0 : ev x0 = v0) (h1 : ev x1 = v1) (h2 : ev x2 = v2) (hf : ev (Operand.func f) = .func (.func f) #[] #[]) (hcf : (callFunc f #[v0, v1, v2]).run Try.prog w = .ok (.enter f #[v0, v1, v2]) w) : (execOp ev o).run Try.prog w = .ok (.enter f #[v0, v1, v2]) w := by
  simp [execOp, ho, h0, h1, h2, hf, hcf, go_sem]
theorem SWcalls {b T nc : Nat} {C : Nat → Value} {bm bw n : Nat} {f f' : Nat → Int} {X : Stp} {r : Nat} {w0 : World} {fd : FuncId} {args : Array Value} {kc ia is : Nat} (hb : b ≠ bw) (hr : r ≠ bw) (n1 : ia ≠ kc) (n2 : is ≠ kc)
    (hc : ∀ w, w.rowIs b T nc C → IsMem w bm bw n f → Calls Try.prog fd args w fun e w' => e = .returned X.val ∧ IsMem w' bm bw n f' ∧ w.grownBy w' (some bw)) :
    ∀ (L : Nat → Bool) v w, RG.SW b T nc C bm bw n f f' X r w0 (L kc) (L ia) (L is) v w → L kc = false →
      Calls Try.prog fd args w fun e w' => e = .returned X.val ∧ RG.SW b T nc C bm bw n f f' X r w0 (upd L kc true kc) (upd L kc true ia) (upd L kc true is) v w' := by
  intro L v w h hL
  have hm := h.mem
  rw [hL, if_neg (by decide)] at hm
  refine (hc w h.row hm).mono ?_
  rintro e w' ⟨rfl, hm', hg⟩
  rw [upd_same, upd_other _ _ n1, upd_other _ _ n2]
  exact ⟨rfl, h.act hL hb hr hm' hg⟩
theorem SRcalls {b T nc : Nat} {C : Nat → Value} {bm bw n : Nat} {f f' : Nat → Int} {X : Stp} {r : Nat} {w0 : World} {fd : FuncId} {args : Array Value} {kc is : Nat} (hb : b ≠ bw) (hr : r ≠ bw) (n2 : is ≠ kc)
    (hc : ∀ w, w.rowIs b T nc C → IsMem w bm bw n f → Calls Try.prog fd args w fun e w' => e = .returned X.val ∧ IsMem w' bm bw n f' ∧ w.grownBy w' (some bw)) :
    ∀ (L : Nat → Bool) (v : Value) w, RG.SR b T nc C bm bw n f f' X r w0 (L kc) (L is) w → L kc = false →
      Calls Try.prog fd args w fun e w' => e = .returned X.val ∧ RG.SR b T nc C bm bw n f f' X r w0 (upd L kc true kc) (upd L kc true is) w' := by
  intro L v w h hL
  have hm := h.mem
  rw [hL, if_neg (by decide)] at hm
  refine (hc w h.row hm).mono ?_
  rintro e w' ⟨rfl, hm', hg⟩
  rw [upd_same, upd_other _ _ n2]
  exact ⟨rfl, h.act hL hb hr hm' hg⟩
theorem ex_addi {ev : Operand → Value} {o : Oper} {w : World} {x y : Operand} {a b c : Int} (ho : o.op = .binOp .add 3 x y 3) (hx : ev x = .int .i64 a) (hy : ev y = .int .i64 b) (hc : IntKind.i64.wrap (a + b) = c) : (execOp ev o).run Try.prog w = .ok (.value (.int .i64 c)) w := by
  simp [execOp, ho, hx, hy, go_sem, hc]
theorem ex_addc {ev : Operand → Value} {o : Oper} {w : World} {x y : Operand} {v c u : Int} (ho : o.op = .binOp .add 45 x y 45) (hx : ev x = .int .u64 v) (hy : ev y = .int .u64 c) (hu : u64 (v + c) = u) : (execOp ev o).run Try.prog w = .ok (.value (.int .u64 u)) w := by
  have := wrap_u64' (v + c)
  rw [hu] at this
  simp [execOp, ho, hx, hy, go_sem, this]
theorem call5 {ev : Operand → Value} {o : Oper} {w : World} {f : FuncId} {x0 x1 x2 x3 x4 : Operand} {ts : Array TypeId} {v0 v1 v2 v3 v4 : Value} (ho : o.op = Op.call { callee := Callee.value (Operand.func f), args := #[x0, x1, x2, x3, x4], argTypes := ts }) (h0 : ev x0 = v0) (h1 : ev x1 = v1) (h2 : ev x2 = v2) (h3 : ev x3 = v3) (h4 : ev x4 = v4) (hf : ev (Operand.func f) = .func (.func f) #[] #[]) (hcf : (callFunc f #[v0, v1, v2, v3, v4]).run Try.prog w = .ok (.enter f #[v0, v1, v2, v3, v4]) w) : (execOp ev o).run Try.prog w = .ok (.enter f #[v0, v1, v2, v3, v4]) w := by
  simp [execOp, ho, h0, h1, h2, h3, h4, hf, hcf, go_sem]
theorem grown_of {w w' : World} {bw : Nat} (h : Touch w w' (fun k => k = bw ∨ k = w.heap.size)) : w.grownBy w' (some bw) :=
  ⟨h.os, h.tape, h.output, h.size, fun k hk hn => h.block k hk (by rintro (h | h); exact hn (by rw [h]); omega)⟩
theorem e_facts {w : World} {b T : Nat} {hand seen : Int} {ld : Bool} {t : Ans} (h : w.rowIs b T 5 (enC hand seen ld t)) : (w.cell? ⟨b, 0, none⟩ = some (.int .i64 hand) ∧ w.frozen? ⟨b, 0, none⟩ = false) ∧ (w.cell? ⟨b, 1, none⟩ = some (.bool t.ok) ∧ w.frozen? ⟨b, 1, none⟩ = false) ∧ (w.cell? ⟨b, 2, none⟩ = some (.int .u64 t.val) ∧ w.frozen? ⟨b, 2, none⟩ = false) ∧ (w.cell? ⟨b, 3, none⟩ = some (.int .u64 seen) ∧ w.frozen? ⟨b, 3, none⟩ = false) ∧ (w.cell? ⟨b, 4, none⟩ = some (.bool ld) ∧ w.frozen? ⟨b, 4, none⟩ = false) :=
  ⟨⟨h.cell (i := 0) (by omega), h.frozen 0⟩, ⟨h.cell (i := 1) (by omega), h.frozen 1⟩, ⟨h.cell (i := 2) (by omega), h.frozen 2⟩, ⟨h.cell (i := 3) (by omega), h.frozen 3⟩, ⟨h.cell (i := 4) (by omega), h.frozen 4⟩⟩
theorem l_facts {w : World} {b T : Nat} {hand : Int} {t : Ans} (h : w.rowIs b T 3 (lvC hand t)) : (w.cell? ⟨b, 0, none⟩ = some (.int .i64 hand) ∧ w.frozen? ⟨b, 0, none⟩ = false) ∧ (w.cell? ⟨b, 1, none⟩ = some (.bool t.ok) ∧ w.frozen? ⟨b, 1, none⟩ = false) ∧ (w.cell? ⟨b, 2, none⟩ = some (.int .u64 t.val) ∧ w.frozen? ⟨b, 2, none⟩ = false) :=
  ⟨⟨h.cell (i := 0) (by omega), h.frozen 0⟩, ⟨h.cell (i := 1) (by omega), h.frozen 1⟩, ⟨h.cell (i := 2) (by omega), h.frozen 2⟩⟩
theorem r_facts {w : World} {b T : Nat} {hand place seen : Int} {ld : Bool} {t : Ans} (h : w.rowIs b T 6 (rtC hand place seen ld t)) : (w.cell? ⟨b, 0, none⟩ = some (.int .i64 hand) ∧ w.frozen? ⟨b, 0, none⟩ = false) ∧ (w.cell? ⟨b, 1, none⟩ = some (.bool t.ok) ∧ w.frozen? ⟨b, 1, none⟩ = false) ∧ (w.cell? ⟨b, 2, none⟩ = some (.int .u64 t.val) ∧ w.frozen? ⟨b, 2, none⟩ = false) ∧ (w.cell? ⟨b, 3, none⟩ = some (.int .i64 place) ∧ w.frozen? ⟨b, 3, none⟩ = false) ∧ (w.cell? ⟨b, 4, none⟩ = some (.int .u64 seen) ∧ w.frozen? ⟨b, 4, none⟩ = false) ∧ (w.cell? ⟨b, 5, none⟩ = some (.bool ld) ∧ w.frozen? ⟨b, 5, none⟩ = false) :=
  ⟨⟨h.cell (i := 0) (by omega), h.frozen 0⟩, ⟨h.cell (i := 1) (by omega), h.frozen 1⟩, ⟨h.cell (i := 2) (by omega), h.frozen 2⟩, ⟨h.cell (i := 3) (by omega), h.frozen 3⟩, ⟨h.cell (i := 4) (by omega), h.frozen 4⟩, ⟨h.cell (i := 5) (by omega), h.frozen 5⟩⟩
theorem p_facts {w : World} {b T : Nat} {hand room st nx seen given mask : Int} {t : Ans} (h : w.rowIs b T 9 (rpC hand room st nx seen given mask t)) : (w.cell? ⟨b, 0, none⟩ = some (.int .i64 hand) ∧ w.frozen? ⟨b, 0, none⟩ = false) ∧ (w.cell? ⟨b, 1, none⟩ = some (.bool t.ok) ∧ w.frozen? ⟨b, 1, none⟩ = false) ∧ (w.cell? ⟨b, 2, none⟩ = some (.int .u64 t.val) ∧ w.frozen? ⟨b, 2, none⟩ = false) ∧ (w.cell? ⟨b, 3, none⟩ = some (.int .i64 room) ∧ w.frozen? ⟨b, 3, none⟩ = false) ∧ (w.cell? ⟨b, 4, none⟩ = some (.int .i64 st) ∧ w.frozen? ⟨b, 4, none⟩ = false) ∧ (w.cell? ⟨b, 5, none⟩ = some (.int .i64 nx) ∧ w.frozen? ⟨b, 5, none⟩ = false) ∧ (w.cell? ⟨b, 6, none⟩ = some (.int .u64 seen) ∧ w.frozen? ⟨b, 6, none⟩ = false) ∧ (w.cell? ⟨b, 7, none⟩ = some (.int .u64 given) ∧ w.frozen? ⟨b, 7, none⟩ = false) ∧ (w.cell? ⟨b, 8, none⟩ = some (.int .u64 mask) ∧ w.frozen? ⟨b, 8, none⟩ = false) :=
  ⟨⟨h.cell (i := 0) (by omega), h.frozen 0⟩, ⟨h.cell (i := 1) (by omega), h.frozen 1⟩, ⟨h.cell (i := 2) (by omega), h.frozen 2⟩, ⟨h.cell (i := 3) (by omega), h.frozen 3⟩, ⟨h.cell (i := 4) (by omega), h.frozen 4⟩, ⟨h.cell (i := 5) (by omega), h.frozen 5⟩, ⟨h.cell (i := 6) (by omega), h.frozen 6⟩, ⟨h.cell (i := 7) (by omega), h.frozen 7⟩, ⟨h.cell (i := 8) (by omega), h.frozen 8⟩⟩

theorem e_load (hand seen : Int) (ld : Bool) (t : Ans) (p : Int) (i : Nat) (hi : i < 5) : (fun j => (fun j => if j = 4 then Value.bool true else (fun j => if j = 3 then Value.int .u64 p else enC hand seen ld t j) j) j) i = enC hand p true t i := by
  match i, hi with
  | 0, _ | 1, _ | 2, _ | 3, _ | 4, _ => rfl
theorem e_told (hand seen : Int) (ld : Bool) (t : Ans) (p : Int) (i : Nat) (hi : i < 5) : (fun j => (fun j => if j = 2 then Value.int .u64 p else (fun j => if j = 1 then Value.bool true else enC hand seen ld t j) j) j) i = enC hand seen ld ⟨true, p⟩ i := by
  match i, hi with
  | 0, _ | 1, _ | 2, _ | 3, _ | 4, _ => rfl
theorem l_told (hand : Int) (t : Ans) (p : Int) (i : Nat) (hi : i < 3) : (fun j => (fun j => if j = 2 then Value.int .u64 p else (fun j => if j = 1 then Value.bool true else lvC hand t j) j) j) i = lvC hand ⟨true, p⟩ i := by
  match i, hi with
  | 0, _ | 1, _ | 2, _ => rfl
theorem r_load (hand place seen : Int) (ld : Bool) (t : Ans) (p : Int) (i : Nat) (hi : i < 6) : (fun j => (fun j => if j = 5 then Value.bool true else (fun j => if j = 4 then Value.int .u64 p else rtC hand place seen ld t j) j) j) i = rtC hand place p true t i := by
  match i, hi with
  | 0, _ | 1, _ | 2, _ | 3, _ | 4, _ | 5, _ => rfl
theorem r_told (hand place seen : Int) (ld : Bool) (t : Ans) (o : Bool) (p : Int) (i : Nat) (hi : i < 6) : (fun j => (fun j => if j = 2 then Value.int .u64 p else (fun j => if j = 1 then Value.bool o else rtC hand place seen ld t j) j) j) i = rtC hand place seen ld ⟨o, p⟩ i := by
  match i, hi with
  | 0, _ | 1, _ | 2, _ | 3, _ | 4, _ | 5, _ => rfl
theorem p_look (hand room st nx seen given mask : Int) (t : Ans) (p a s : Int) (i : Nat) (hi : i < 9) : (fun j => (fun j => if j = 4 then Value.int .i64 s else (fun j => if j = 5 then Value.int .i64 a else (fun j => if j = 6 then Value.int .u64 p else rpC hand room st nx seen given mask t j) j) j) j) i = rpC hand room s a p given mask t i := by
  match i, hi with
  | 0, _ | 1, _ | 2, _ | 3, _ | 4, _ | 5, _ | 6, _ | 7, _ | 8, _ => rfl
theorem p_nx (hand room st nx seen given mask : Int) (t : Ans) (a : Int) (i : Nat) (hi : i < 9) : (fun j => (fun j => if j = 5 then Value.int .i64 a else rpC hand room st nx seen given mask t j) j) i = rpC hand room st a seen given mask t i := by
  match i, hi with
  | 0, _ | 1, _ | 2, _ | 3, _ | 4, _ | 5, _ | 6, _ | 7, _ | 8, _ => rfl
theorem p_st (hand room st nx seen given mask : Int) (t : Ans) (s : Int) (i : Nat) (hi : i < 9) : (fun j => (fun j => if j = 4 then Value.int .i64 s else rpC hand room st nx seen given mask t j) j) i = rpC hand room s nx seen given mask t i := by
  match i, hi with
  | 0, _ | 1, _ | 2, _ | 3, _ | 4, _ | 5, _ | 6, _ | 7, _ | 8, _ => rfl
theorem p_due (hand room st nx seen given mask : Int) (t : Ans) (p s : Int) (i : Nat) (hi : i < 9) : (fun j => (fun j => if j = 4 then Value.int .i64 s else (fun j => if j = 7 then Value.int .u64 p else rpC hand room st nx seen given mask t j) j) j) i = rpC hand room s nx seen p mask t i := by
  match i, hi with
  | 0, _ | 1, _ | 2, _ | 3, _ | 4, _ | 5, _ | 6, _ | 7, _ | 8, _ => rfl
theorem p_told (hand room st nx seen given mask : Int) (t : Ans) (p : Int) (i : Nat) (hi : i < 9) : (fun j => (fun j => if j = 2 then Value.int .u64 p else (fun j => if j = 1 then Value.bool true else rpC hand room st nx seen given mask t j) j) j) i = rpC hand room st nx seen given mask ⟨true, p⟩ i := by
  match i, hi with
  | 0, _ | 1, _ | 2, _ | 3, _ | 4, _ | 5, _ | 6, _ | 7, _ | 8, _ => rfl
theorem p_mask (hand room st nx seen given mask : Int) (t : Ans) (m : Int) (i : Nat) (hi : i < 9) : (fun j => (fun j => if j = 8 then Value.int .u64 m else rpC hand room st nx seen given mask t j) j) i = rpC hand room st nx seen given m t i := by
  match i, hi with
  | 0, _ | 1, _ | 2, _ | 3, _ | 4, _ | 5, _ | 6, _ | 7, _ | 8, _ => rfl

set_option maxHeartbeats 4000000 in
theorem load_any {w : World} {b bm bw n : Nat} {f f' : Nat → Int} {x : Stp} {hand at_ : Int} (c0 : w.cell? ⟨b, 0, none⟩ = some (.int .i64 hand)) (hl : b < w.heap.size) (hm : IsMem w bm bw n f) (hp : 0 ≤ (⟨hand, 1, at_, 0, 0, true⟩ : Stp).put ∧ (⟨hand, 1, at_, 0, 0, true⟩ : Stp).put ≤ 18446744073709551615)
    (hx : stepOf n f ⟨hand, 1, at_, 0, 0, true⟩ = x) (hf' : wordsOf n f ⟨hand, 1, at_, 0, 0, true⟩ = f') :
    Calls Try.prog 103 #[.pointer (some ⟨b, 0, none⟩), .pointer (some ⟨bm, 0, none⟩), .int .i64 at_] w fun e w' => e = .returned x.val ∧ IsMem w' bm bw n f' ∧ w.grownBy w' (some bw) := by
  have lw := hm.row.lt
  have lm := hm.head.lt
  have K := do_mem (hm.alloc (.cells #[.int .i64 0, .int .i64 0, .int .i64 0, .int .u64 0, .int .u64 0, .bool false] 47)) ⟨hand, 1, at_, 0, 0, true⟩ hp
  rw [hx, hf'] at K
  have K0 := hide K
  have RW := hide (row0 w)
  clear hm hx hf' hp K
  go_enter Try.func103, Try.ntmps103
  go_wp2_with fail
  refine K0.out.mono ?_
  rintro e w1 ⟨rfl, hm1, hg1⟩
  simp only [Stp.val]
  have s1 := hg1.size
  simp only [World.size_alloc] at s1
  have RR := hide (RW.out.of_block (hg1.block w.heap.size (by simp) (by simp; omega)))
  have M1 := hide hm1
  have G1 := hide (grown_trans (grown_alloc (grown_refl w (some bw)) (.cells #[.int .i64 0, .int .i64 0, .int .i64 0, .int .u64 0, .int .u64 0, .bool false] 47)) hg1)
  clear hm1 hg1 K0 RW
  have l2 : w.heap.size < w1.heap.size := by omega
  obtain ⟨⟨r0, rf0⟩, ⟨r1, rf1⟩, ⟨r2, rf2⟩, ⟨r3, rf3⟩, ⟨r4, rf4⟩, r5, rf5⟩ := res_facts RR.out
  go_wp2_with fail
  go_light
  refine bodyPost_ret (v := x.val) ?res rfl ⟨rfl, ?mem, ?gro⟩
  case mem =>
    repeat (first | (with_reducible apply IsMem.alloc) | (with_reducible apply IsMem.drew) | ((with_reducible refine IsMem.setOther ?_ ?_ ?_ _); rotate_left; (simp; omega); (simp; omega)))
    with_reducible exact M1.out
  case gro =>
    repeat (with_reducible refine grown_setCell ?_ _ (.inr (Nat.le_refl _)) _)
    with_reducible exact G1.out
  case res => simp [results, Try.results103, go_sem, Stp.val, *]

set_option maxHeartbeats 4000000 in
theorem cas_any {w : World} {b bm bw n : Nat} {f f' : Nat → Int} {x : Stp} {hand at_ old put : Int} (c0 : w.cell? ⟨b, 0, none⟩ = some (.int .i64 hand)) (hl : b < w.heap.size) (hm : IsMem w bm bw n f) (hp : 0 ≤ (⟨hand, 5, at_, old, put, true⟩ : Stp).put ∧ (⟨hand, 5, at_, old, put, true⟩ : Stp).put ≤ 18446744073709551615)
    (hx : stepOf n f ⟨hand, 5, at_, old, put, true⟩ = x) (hf' : wordsOf n f ⟨hand, 5, at_, old, put, true⟩ = f') :
    Calls Try.prog 116 #[.pointer (some ⟨b, 0, none⟩), .pointer (some ⟨bm, 0, none⟩), .int .i64 at_, .int .u64 old, .int .u64 put] w fun e w' => e = .returned x.val ∧ IsMem w' bm bw n f' ∧ w.grownBy w' (some bw) := by
  have lw := hm.row.lt
  have lm := hm.head.lt
  have K := do_mem (hm.alloc (.cells #[.int .i64 0, .int .i64 0, .int .i64 0, .int .u64 0, .int .u64 0, .bool false] 47)) ⟨hand, 5, at_, old, put, true⟩ hp
  rw [hx, hf'] at K
  have K0 := hide K
  have RW := hide (row0 w)
  clear hm hx hf' hp K
  go_enter Try.func116, Try.ntmps116
  go_wp2_with fail
  refine K0.out.mono ?_
  rintro e w1 ⟨rfl, hm1, hg1⟩
  simp only [Stp.val]
  have s1 := hg1.size
  simp only [World.size_alloc] at s1
  have RR := hide (RW.out.of_block (hg1.block w.heap.size (by simp) (by simp; omega)))
  have M1 := hide hm1
  have G1 := hide (grown_trans (grown_alloc (grown_refl w (some bw)) (.cells #[.int .i64 0, .int .i64 0, .int .i64 0, .int .u64 0, .int .u64 0, .bool false] 47)) hg1)
  clear hm1 hg1 K0 RW
  have l2 : w.heap.size < w1.heap.size := by omega
  obtain ⟨⟨r0, rf0⟩, ⟨r1, rf1⟩, ⟨r2, rf2⟩, ⟨r3, rf3⟩, ⟨r4, rf4⟩, r5, rf5⟩ := res_facts RR.out
  go_wp2_with fail
  go_light
  refine bodyPost_ret (v := x.val) ?res rfl ⟨rfl, ?mem, ?gro⟩
  case mem =>
    repeat (first | (with_reducible apply IsMem.alloc) | (with_reducible apply IsMem.drew) | ((with_reducible refine IsMem.setOther ?_ ?_ ?_ _); rotate_left; (simp; omega); (simp; omega)))
    with_reducible exact M1.out
  case gro =>
    repeat (with_reducible refine grown_setCell ?_ _ (.inr (Nat.le_refl _)) _)
    with_reducible exact G1.out
  case res => simp [results, Try.results116, go_sem, Stp.val, *]

set_option maxHeartbeats 4000000 in
theorem own_any {w : World} {b T nc bm bw n : Nat} {C : Nat → Value} {f f' : Nat → Int} {x : Stp} {hand put : Int} (h : w.rowIs b T nc C) (hC : C 0 = .int .i64 hand) (hnc : 0 < nc) (hm : IsMem w bm bw n f) (h2 : b ≠ bw) (hh : 0 ≤ hand ∧ hand < 8) (hp : 0 ≤ (⟨hand, 2, 1 + hand, 0, put, true⟩ : Stp).put ∧ (⟨hand, 2, 1 + hand, 0, put, true⟩ : Stp).put ≤ 18446744073709551615)
    (hx : stepOf n f ⟨hand, 2, 1 + hand, 0, put, true⟩ = x) (hf' : wordsOf n f ⟨hand, 2, 1 + hand, 0, put, true⟩ = f') :
    Calls Try.prog 104 #[.pointer (some ⟨b, 0, none⟩), .pointer (some ⟨bm, 0, none⟩), .int .u64 put] w fun e w' => e = .returned x.val ∧ IsMem w' bm bw n f' ∧ w.grownBy w' (some bw) := by
  have hl := h.lt
  have lw := hm.row.lt
  have lm := hm.head.lt
  have hn3 : w.heap.size ≠ b := by omega
  have hn4 : w.heap.size ≠ bw := by omega
  have hn5 : w.heap.size ≠ bm := by omega
  have HPL := hide (show IntKind.i64.wrap (1 + hand) = 1 + hand from by rw [IntKind.wrap_i64]; omega)
  obtain ⟨W1, hW1⟩ : ∃ W1, w.alloc (.cells #[.int .i64 0, .int .i64 0, .int .i64 0, .int .u64 0, .int .u64 0, .bool false] 47) = W1 := ⟨_, rfl⟩
  have R := hide (show W1.rowIs b T nc C from by rw [← hW1]; exact h.alloc _)
  have M := hide (show IsMem W1 bm bw n f from by rw [← hW1]; exact hm.alloc _)
  have RZ := hide (show W1.rowIs w.heap.size 47 6 zcell from by rw [← hW1]; exact row0 w)
  have T0 := hide (show Touch w W1 (fun k => k = bw ∨ k = w.heap.size) from by rw [← hW1]; exact (Touch.refl w _).alloc _)
  have HX := hide hx
  have HF := hide hf'
  have HP := hide hp
  clear hm h hx hf' hp hh
  go_enter Try.func104, Try.ntmps104
  go_wp2_with fail
  clear hW1
  obtain ⟨dS, hdS1, hdS2⟩ := row46
  have HD := hide (And.intro hdS1 hdS2)
  clear hdS1 hdS2
  refine RG.region (ks := [(0, 7), (1, 8), (2, 9), (3, 10), (4, 11), (5, 12), (6, 13), (7, 14), (8, 15), (9, 16), (10, 17), (11, 18)]) (vals := fun i => match i with
      | 0 => .pointer (some ⟨bm, 0, none⟩)
      | 1 => .pointer (some ⟨b, 0, none⟩)
      | 2 => .pointer (some ⟨b, 0, none⟩)
      | 3 => .pointer (some ⟨b, 0, none⟩)
      | 4 => .int .i64 hand
      | 5 => .pointer (some ⟨b, 0, none⟩)
      | 6 => .pointer (some ⟨b, 0, none⟩)
      | 7 => .pointer (some ⟨b, 0, none⟩)
      | 8 => .int .i64 hand
      | 9 => .int .i64 (1 + hand)
      | 10 => .int .u64 put
      | 11 => .agg #[.int .i64 x.hand, .int .i64 x.act, .int .i64 x.at_, .int .u64 x.had, .int .u64 x.put, .bool x.ok]
      | _ => undef) (x := 3) (WI := fun L v w' => RG.SR b T nc C bm bw n f f' x w.heap.size W1 (L 11) (L 12) w') (by kernel_rfl) ?gg ?bk rfl ?dd ?xx (RG.SR.start R.out M.out RZ.out) ?does ?fin
  case gg =>
    intro i o ho
    have hi : i < 13 := by have := (Array.getElem?_eq_some_iff.1 ho).1; simpa using this
    match i, hi with
    | 0, _ | 1, _ | 2, _ | 3, _ | 4, _ | 5, _ | 6, _ | 7, _ | 8, _ | 9, _ | 10, _ | 11, _ | 12, _ => injection ho with ho; subst ho; rfl
  case bk =>
    intro i o ho
    have hi : i < 13 := by have := (Array.getElem?_eq_some_iff.1 ho).1; simpa using this
    match i, hi with
    | 0, _ | 1, _ | 2, _ | 3, _ | 4, _ | 5, _ | 6, _ | 7, _ | 8, _ | 9, _ | 10, _ | 11, _ | 12, _ => injection ho with ho; subst ho; simp [Region.binds]
  case dd =>
    intro k hk
    have hk' : k < 19 := by
      simp [RetN.D] at hk
      omega
    simpa using hk'
  case xx => simp
  case does =>
    intro i o ho
    have hi : i < 13 := by have := (Array.getElem?_eq_some_iff.1 ho).1; simpa using this
    match i, hi with
    | 0, _ => injection ho with ho; subst ho; exact RG.Does.read rfl (fun L v w' h => RG.SR.skip (by decide) (by decide) h) (fun L a w' hI hd => ex_move rfl (hI.fix 1 (Reg.notD rfl) (by decide)))
    | 1, _ => injection ho with ho; subst ho; exact RG.Does.read rfl (fun L v w' h => RG.SR.skip (by decide) (by decide) h) (fun L a w' hI hd => ex_move rfl (hI.fix 0 (Reg.notD rfl) (by decide)))
    | 2, _ => injection ho with ho; subst ho; exact RG.Does.read rfl (fun L v w' h => RG.SR.skip (by decide) (by decide) h) (fun L a w' hI hd => ex_nil rfl (hI.pure 1 _ _ rfl (hd ⟨1, .data⟩ (by simp) rfl)))
    | 3, _ => injection ho with ho; subst ho; exact RG.Does.read rfl (fun L v w' h => RG.SR.skip (by decide) (by decide) h) (fun L a w' hI hd => ex_field rfl (hI.pure 2 _ _ rfl (hd ⟨2, .data⟩ (by simp) rfl)) (fieldEw0 w' _))
    | 4, _ => injection ho with ho; subst ho; exact RG.Does.read rfl (fun L v w' h => RG.SR.skip (by decide) (by decide) h) (fun L a w' hI hd => ex_load rfl (hI.pure 3 _ _ rfl (hd ⟨3, .data⟩ (by simp) rfl)) (aggI w') (by rw [← hC]; exact hI.world.row.cell hnc))
    | 5, _ => injection ho with ho; subst ho; exact RG.Does.read rfl (fun L v w' h => RG.SR.skip (by decide) (by decide) h) (fun L a w' hI hd => ex_move rfl (hI.fix 0 (Reg.notD rfl) (by decide)))
    | 6, _ => injection ho with ho; subst ho; exact RG.Does.read rfl (fun L v w' h => RG.SR.skip (by decide) (by decide) h) (fun L a w' hI hd => ex_nil rfl (hI.pure 5 _ _ rfl (hd ⟨5, .data⟩ (by simp) rfl)))
    | 7, _ => injection ho with ho; subst ho; exact RG.Does.read rfl (fun L v w' h => RG.SR.skip (by decide) (by decide) h) (fun L a w' hI hd => ex_field rfl (hI.pure 6 _ _ rfl (hd ⟨6, .data⟩ (by simp) rfl)) (fieldEw0 w' _))
    | 8, _ => injection ho with ho; subst ho; exact RG.Does.read rfl (fun L v w' h => RG.SR.skip (by decide) (by decide) h) (fun L a w' hI hd => ex_load rfl (hI.pure 7 _ _ rfl (hd ⟨7, .data⟩ (by simp) rfl)) (aggI w') (by rw [← hC]; exact hI.world.row.cell hnc))
    | 9, _ => injection ho with ho; subst ho; exact RG.Does.read rfl (fun L v w' h => RG.SR.skip (by decide) (by decide) h) (fun L a w' hI hd => ex_addi rfl rfl (hI.pure 8 _ _ rfl (hd ⟨8, .data⟩ (by simp) rfl)) HPL.out)
    | 10, _ => injection ho with ho; subst ho; exact RG.Does.read rfl (fun L v w' h => RG.SR.skip (by decide) (by decide) h) (fun L a w' hI hd => ex_move rfl (hI.fix 2 (Reg.notD rfl) (by decide)))
    | 11, _ => injection ho with ho; subst ho; exact RG.Does.call rfl (fun L a w' hI hd => call6 rfl (hI.pure 0 _ _ rfl (hd ⟨0, .data⟩ (by simp) rfl)) (hI.pure 4 _ _ rfl (hd ⟨4, .data⟩ (by simp) rfl)) rfl (hI.pure 9 _ _ rfl (hd ⟨9, .data⟩ (by simp) rfl)) rfl (hI.pure 10 _ _ rfl (hd ⟨10, .data⟩ (by simp) rfl)) rfl (callDo _ _)) (RG.SR.calls (ok := true) HX.out HF.out HP.out h2 hn4 (by decide))
    | 12, _ => injection ho with ho; subst ho; exact RG.Does.put (ls := x.cells) rfl rfl rfl size46 (by simp [Stp.cells, Value.oneCell']) (fun L a w' hI hL hd => ⟨(hI.pure 11 _ _ rfl (hd ⟨11, .data⟩ (by simp) rfl)), by obtain ⟨e2, e3⟩ := RG.SR.put hI.world (hd ⟨11, .data⟩ (by simp) rfl) (Ne.symm hn3) (Ne.symm hn5) (Ne.symm hn4); exact ⟨w.heap.size, 0, hI.fix 6 (Reg.notD rfl) (by decide), e2, by show RG.SR _ _ _ _ _ _ _ _ _ _ _ _ (upd L 12 true 11) (upd L 12 true 12) _; rw [upd_same, upd_other _ _ (show 11 ≠ 12 by decide)]; exact e3⟩⟩)
  case fin =>
    intro L a' w' hI hall
    rename_i K2 hK2
    refine hK2 _ _ ?_
    have hw := hI.world
    simp only [hall 11 (by decide), hall 12 (by decide), if_true] at hw
    have rE := hw.sto rfl
    have pE : a'.eval (.tmp 6) = .pointer (some ⟨w.heap.size, 0, none⟩) := hI.fix 6 (Reg.notD rfl) (by decide)
    have hdf : a'.defers = [] := hI.df
    have hS := run_loadVar_mid (P := Try.prog) w' w.heap.size 0 _ _ dS rE HD.out.1 HD.out.2 size46
    have hres := results_c (Q := Try.prog) (fn := Try.f104) (tmps := a'.tmps) (t := 6) (W := w') (by rfl) pE hS
    go_wp2
    exact bodyPost_ret (v := x.val) hres hdf ⟨rfl, by simpa using hw.mem, grown_of (T0.out.trans' hw.tch (fun k hk h => h))⟩

end Epoch
end Go.Proofs.Ytbohmahjpolapaa
