/-
  Lemmas: SeqA.
-/
import Derived.Test.YtkiojiibppdjjaaTp22
import Derived.Test.YtkiojiibppdjjaaTp18
/-
  The tasks of a record with a version: their small methods.
-/
namespace Go.Proofs.Ytkiojiibppdjjaa
open Go.RowKit
set_option linter.unusedVariables false
set_option linter.unusedSimpArgs false
set_option maxRecDepth 20000
namespace Seq

theorem fieldW0 (w : World) (b : Nat) : (Instr.fieldAt 100 (.pointer (some ⟨b, 0, none⟩)) 0).run Try.prog w = .ok (.pointer (some ⟨b, 0, none⟩)) w := by simp [go_sem]
theorem fieldW1 (w : World) (b : Nat) : (Instr.fieldAt 100 (.pointer (some ⟨b, 0, none⟩)) 1).run Try.prog w = .ok (.pointer (some ⟨b, 1, none⟩)) w := by simp [go_sem]
theorem fieldW2 (w : World) (b : Nat) : (Instr.fieldAt 100 (.pointer (some ⟨b, 0, none⟩)) 2).run Try.prog w = .ok (.pointer (some ⟨b, 2, none⟩)) w := by simp [go_sem]
theorem fieldW3 (w : World) (b : Nat) : (Instr.fieldAt 100 (.pointer (some ⟨b, 0, none⟩)) 3).run Try.prog w = .ok (.pointer (some ⟨b, 3, none⟩)) w := by simp [go_sem]
theorem fieldW4 (w : World) (b : Nat) : (Instr.fieldAt 100 (.pointer (some ⟨b, 0, none⟩)) 4).run Try.prog w = .ok (.pointer (some ⟨b, 4, none⟩)) w := by simp [go_sem]
theorem fieldW5 (w : World) (b : Nat) : (Instr.fieldAt 100 (.pointer (some ⟨b, 0, none⟩)) 5).run Try.prog w = .ok (.pointer (some ⟨b, 5, none⟩)) w := by simp [go_sem]
theorem fieldR0 (w : World) (b : Nat) : (Instr.fieldAt 103 (.pointer (some ⟨b, 0, none⟩)) 0).run Try.prog w = .ok (.pointer (some ⟨b, 0, none⟩)) w := by simp [go_sem]
theorem fieldR1 (w : World) (b : Nat) : (Instr.fieldAt 103 (.pointer (some ⟨b, 0, none⟩)) 1).run Try.prog w = .ok (.pointer (some ⟨b, 1, none⟩)) w := by simp [go_sem]
theorem fieldR2 (w : World) (b : Nat) : (Instr.fieldAt 103 (.pointer (some ⟨b, 0, none⟩)) 2).run Try.prog w = .ok (.pointer (some ⟨b, 2, none⟩)) w := by simp [go_sem]
theorem fieldR3 (w : World) (b : Nat) : (Instr.fieldAt 103 (.pointer (some ⟨b, 0, none⟩)) 3).run Try.prog w = .ok (.pointer (some ⟨b, 3, none⟩)) w := by simp [go_sem]
theorem fieldR4 (w : World) (b : Nat) : (Instr.fieldAt 103 (.pointer (some ⟨b, 0, none⟩)) 4).run Try.prog w = .ok (.pointer (some ⟨b, 4, none⟩)) w := by simp [go_sem]
theorem fieldR5 (w : World) (b : Nat) : (Instr.fieldAt 103 (.pointer (some ⟨b, 0, none⟩)) 5).run Try.prog w = .ok (.pointer (some ⟨b, 5, none⟩)) w := by simp [go_sem]
theorem aggI (w : World) : (isAgg 3).run Try.prog w = .ok false w := by simp [go_sem]
theorem aggU (w : World) : (isAgg 47).run Try.prog w = .ok false w := by simp [go_sem]
theorem callLoad (args : Array Value) (w : World) : (callFunc 109 args).run Try.prog w = .ok (.enter 109 args) w := by simp [go_sem]
theorem callStore (args : Array Value) (w : World) : (callFunc 94 args).run Try.prog w = .ok (.enter 94 args) w := by simp [go_sem]

theorem res_facts {w : World} {r : Nat} (h : w.rowIs r 77 6 zcell) : (w.cell? ⟨r, 0, none⟩ = some (.int .i64 0) ∧ w.frozen? ⟨r, 0, none⟩ = false) ∧ (w.cell? ⟨r, 1, none⟩ = some (.int .i64 0) ∧ w.frozen? ⟨r, 1, none⟩ = false) ∧ (w.cell? ⟨r, 2, none⟩ = some (.int .i64 0) ∧ w.frozen? ⟨r, 2, none⟩ = false) ∧ (w.cell? ⟨r, 3, none⟩ = some (.int .u64 0) ∧ w.frozen? ⟨r, 3, none⟩ = false) ∧ (w.cell? ⟨r, 4, none⟩ = some (.int .u64 0) ∧ w.frozen? ⟨r, 4, none⟩ = false) ∧ (w.cell? ⟨r, 5, none⟩ = some (.bool false) ∧ w.frozen? ⟨r, 5, none⟩ = false) :=
  ⟨⟨h.cell (i := 0) (by omega), h.frozen 0⟩, ⟨h.cell (i := 1) (by omega), h.frozen 1⟩, ⟨h.cell (i := 2) (by omega), h.frozen 2⟩, ⟨h.cell (i := 3) (by omega), h.frozen 3⟩, ⟨h.cell (i := 4) (by omega), h.frozen 4⟩, ⟨h.cell (i := 5) (by omega), h.frozen 5⟩⟩
theorem rowIs_new {w : World} {k : Nat} (hk : w.heap.size = k) (vs : Array Value) (t : TypeId) (f : Nat → Value) (n : Nat) (hn : vs.size = n) (hc : ∀ i, i < n → vs[i]? = some (f i)) : (w.alloc (.cells vs t)).rowIs k t n f := by
  subst hk
  exact rowIs_cells vs t f n hn hc
theorem wrap_u64' (x : Int) : IntKind.u64.wrap x = u64 x := by rw [IntKind.wrap_u64]; rfl
theorem ex_add1 {ev : Operand → Value} {o : Oper} {w : World} {x y : Operand} {v : Int} (ho : o.op = .binOp .add 47 x y 47) (hx : ev x = .int .u64 v) (hy : ev y = .int .u64 1) : (execOp ev o).run Try.prog w = .ok (.value (.int .u64 (u64 (v + 1)))) w := by
  have := wrap_u64' (v + 1)
  simp [execOp, ho, hx, hy, go_sem, this]
theorem call3 {ev : Operand → Value} {o : Oper} {w : World} {f : FuncId} {x0 x1 x2 : Operand} {ts : Array TypeId} {v0 v1 v2 : Value} (ho : o.op = Op.call { callee := Callee.value (Operand.func f), args := #[x0, x1, x2], argTypes := ts }) (h0 : ev x0 = v0) (h1 : ev x1 = v1) (h2 : ev x2 = v2) (hf : ev (Operand.func f) = .func (.func f) #[] #[]) (hcf : (callFunc f #[v0, v1, v2]).run Try.prog w = .ok (.enter f #[v0, v1, v2]) w) : (execOp ev o).run Try.prog w = .ok (.enter f #[v0, v1, v2]) w := by
  simp [execOp, ho, h0, h1, h2, hf, hcf, go_sem]
theorem SWcalls {b T nc : Nat} {C : Nat → Value} {bm bw n : Nat} {f f' : Nat → Int} {X : Stp} {r : Nat} {w0 : World} {fd : FuncId} {args : Array Value} {kc ia is : Nat} (hb : b ≠ bw) (hr : r ≠ bw) (n1 : ia ≠ kc) (n2 : is ≠ kc)
    (hc : ∀ w, w.rowIs b T nc C → IsMem w bm bw n f → Calls Try.prog fd args w fun e w' => e = .returned X.val ∧ IsMem w' bm bw n f' ∧ w.grownBy w' (some bw)) :
    ∀ (L : Nat → Bool) v w, RG.SW b T nc C bm bw n f f' X r w0 (L kc) (L ia) (L is) v w → L kc = false →
      Calls Try.prog fd args w fun e w' => e = .returned X.val ∧ RG.SW b T nc C bm bw n f f' X r w0 (upd L kc true kc) (upd L kc true ia) (upd L kc true is) v w' := by
  intro L v w h hL
  have hm := h.mem
  rw [hL, if_neg (by decide)] at hm
  refine (hc w h.row hm).mono ?_
  rintro e w' ⟨rfl, hm', hg⟩
  rw [upd_same, upd_other _ _ n1, upd_other _ _ n2]
  exact ⟨rfl, h.act hL hb hr hm' hg⟩
theorem SRcalls {b T nc : Nat} {C : Nat → Value} {bm bw n : Nat} {f f' : Nat → Int} {X : Stp} {r : Nat} {w0 : World} {fd : FuncId} {args : Array Value} {kc is : Nat} (hb : b ≠ bw) (hr : r ≠ bw) (n2 : is ≠ kc)
    (hc : ∀ w, w.rowIs b T nc C → IsMem w bm bw n f → Calls Try.prog fd args w fun e w' => e = .returned X.val ∧ IsMem w' bm bw n f' ∧ w.grownBy w' (some bw)) :
    ∀ (L : Nat → Bool) (v : Value) w, RG.SR b T nc C bm bw n f f' X r w0 (L kc) (L is) w → L kc = false →
      Calls Try.prog fd args w fun e w' => e = .returned X.val ∧ RG.SR b T nc C bm bw n f f' X r w0 (upd L kc true kc) (upd L kc true is) w' := by
  intro L v w h hL
  have hm := h.mem
  rw [hL, if_neg (by decide)] at hm
  refine (hc w h.row hm).mono ?_
  rintro e w' ⟨rfl, hm', hg⟩
  rw [upd_same, upd_other _ _ n2]
  exact ⟨rfl, h.act hL hb hr hm' hg⟩
theorem w_facts {w : World} {b T : Nat} {last st at_ was value : Int} {t : Ans} (h : w.rowIs b T 7 (wrC last st at_ was value t)) : (w.cell? ⟨b, 0, none⟩ = some (.int .i64 last) ∧ w.frozen? ⟨b, 0, none⟩ = false) ∧ (w.cell? ⟨b, 1, none⟩ = some (.int .i64 st) ∧ w.frozen? ⟨b, 1, none⟩ = false) ∧ (w.cell? ⟨b, 2, none⟩ = some (.int .i64 at_) ∧ w.frozen? ⟨b, 2, none⟩ = false) ∧ (w.cell? ⟨b, 3, none⟩ = some (.int .u64 was) ∧ w.frozen? ⟨b, 3, none⟩ = false) ∧ (w.cell? ⟨b, 4, none⟩ = some (.int .u64 value) ∧ w.frozen? ⟨b, 4, none⟩ = false) ∧ (w.cell? ⟨b, 5, none⟩ = some (.bool t.ok) ∧ w.frozen? ⟨b, 5, none⟩ = false) ∧ (w.cell? ⟨b, 6, none⟩ = some (.int .u64 t.val) ∧ w.frozen? ⟨b, 6, none⟩ = false) :=
  ⟨⟨h.cell (i := 0) (by omega), h.frozen 0⟩, ⟨h.cell (i := 1) (by omega), h.frozen 1⟩, ⟨h.cell (i := 2) (by omega), h.frozen 2⟩, ⟨h.cell (i := 3) (by omega), h.frozen 3⟩, ⟨h.cell (i := 4) (by omega), h.frozen 4⟩, ⟨h.cell (i := 5) (by omega), h.frozen 5⟩, ⟨h.cell (i := 6) (by omega), h.frozen 6⟩⟩
theorem r_facts {w : World} {b T : Nat} {hand last st at_ seen fov : Int} {fok : Bool} {t : Ans} (h : w.rowIs b T 9 (rdC hand last st at_ seen ⟨fok, fov⟩ t)) : (w.cell? ⟨b, 0, none⟩ = some (.int .i64 hand) ∧ w.frozen? ⟨b, 0, none⟩ = false) ∧ (w.cell? ⟨b, 1, none⟩ = some (.int .i64 last) ∧ w.frozen? ⟨b, 1, none⟩ = false) ∧ (w.cell? ⟨b, 2, none⟩ = some (.int .i64 st) ∧ w.frozen? ⟨b, 2, none⟩ = false) ∧ (w.cell? ⟨b, 3, none⟩ = some (.int .i64 at_) ∧ w.frozen? ⟨b, 3, none⟩ = false) ∧ (w.cell? ⟨b, 4, none⟩ = some (.int .u64 seen) ∧ w.frozen? ⟨b, 4, none⟩ = false) ∧ (w.cell? ⟨b, 5, none⟩ = some (.bool fok) ∧ w.frozen? ⟨b, 5, none⟩ = false) ∧ (w.cell? ⟨b, 6, none⟩ = some (.int .u64 fov) ∧ w.frozen? ⟨b, 6, none⟩ = false) ∧ (w.cell? ⟨b, 7, none⟩ = some (.bool t.ok) ∧ w.frozen? ⟨b, 7, none⟩ = false) ∧ (w.cell? ⟨b, 8, none⟩ = some (.int .u64 t.val) ∧ w.frozen? ⟨b, 8, none⟩ = false) :=
  ⟨⟨h.cell (i := 0) (by omega), h.frozen 0⟩, ⟨h.cell (i := 1) (by omega), h.frozen 1⟩, ⟨h.cell (i := 2) (by omega), h.frozen 2⟩, ⟨h.cell (i := 3) (by omega), h.frozen 3⟩, ⟨h.cell (i := 4) (by omega), h.frozen 4⟩, ⟨h.cell (i := 5) (by omega), h.frozen 5⟩, ⟨h.cell (i := 6) (by omega), h.frozen 6⟩, ⟨h.cell (i := 7) (by omega), h.frozen 7⟩, ⟨h.cell (i := 8) (by omega), h.frozen 8⟩⟩

theorem w_look (last st at_ was value : Int) (t : Ans) (p : Int) (i : Nat) (hi : i < 7) : (fun j => (fun j => if j = 1 then Value.int .i64 1 else (fun j => if j = 3 then Value.int .u64 p else wrC last st at_ was value t j) j) j) i = wrC last 1 at_ p value t i := by
  match i, hi with
  | 0, _ | 1, _ | 2, _ | 3, _ | 4, _ | 5, _ | 6, _ => rfl
theorem w_open (last st at_ was value : Int) (t : Ans)  (i : Nat) (hi : i < 7) : (fun j => (fun j => if j = 1 then Value.int .i64 2 else (fun j => if j = 2 then Value.int .i64 1 else wrC last st at_ was value t j) j) j) i = wrC last 2 1 was value t i := by
  match i, hi with
  | 0, _ | 1, _ | 2, _ | 3, _ | 4, _ | 5, _ | 6, _ => rfl
theorem w_at (last st at_ was value : Int) (t : Ans) (p : Int) (i : Nat) (hi : i < 7) : (fun j => (fun j => if j = 2 then Value.int .i64 p else wrC last st at_ was value t j) j) i = wrC last st p was value t i := by
  match i, hi with
  | 0, _ | 1, _ | 2, _ | 3, _ | 4, _ | 5, _ | 6, _ => rfl
theorem w_at3 (last st at_ was value : Int) (t : Ans) (p : Int) (i : Nat) (hi : i < 7) : (fun j => (fun j => if j = 1 then Value.int .i64 3 else (fun j => if j = 2 then Value.int .i64 p else wrC last st at_ was value t j) j) j) i = wrC last 3 p was value t i := by
  match i, hi with
  | 0, _ | 1, _ | 2, _ | 3, _ | 4, _ | 5, _ | 6, _ => rfl
theorem w_st3 (last st at_ was value : Int) (t : Ans)  (i : Nat) (hi : i < 7) : (fun j => (fun j => if j = 1 then Value.int .i64 3 else wrC last st at_ was value t j) j) i = wrC last 3 at_ was value t i := by
  match i, hi with
  | 0, _ | 1, _ | 2, _ | 3, _ | 4, _ | 5, _ | 6, _ => rfl
theorem r_fo (hand last st at_ seen fov : Int) (fok : Bool) (t : Ans) (p : Int) (i : Nat) (hi : i < 9) : (fun j => (fun j => if j = 6 then Value.int .u64 p else (fun j => if j = 5 then Value.bool true else rdC hand last st at_ seen ⟨fok, fov⟩ t j) j) j) i = rdC hand last st at_ seen ⟨true, p⟩ t i := by
  match i, hi with
  | 0, _ | 1, _ | 2, _ | 3, _ | 4, _ | 5, _ | 6, _ | 7, _ | 8, _ => rfl
theorem w_told (last st at_ was value : Int) (t : Ans) (p : Int) (i : Nat) (hi : i < 7) : (fun j => (fun j => if j = 6 then Value.int .u64 p else (fun j => if j = 5 then Value.bool true else wrC last st at_ was value t j) j) j) i = wrC last st at_ was value ⟨true, p⟩ i := by
  match i, hi with
  | 0, _ | 1, _ | 2, _ | 3, _ | 4, _ | 5, _ | 6, _ => rfl
theorem r_look (hand last st at_ seen fov : Int) (fok : Bool) (t : Ans) (p : Int) (i : Nat) (hi : i < 9) : (fun j => (fun j => if j = 2 then Value.int .i64 2 else (fun j => if j = 3 then Value.int .i64 1 else (fun j => if j = 4 then Value.int .u64 p else rdC hand last st at_ seen ⟨fok, fov⟩ t j) j) j) j) i = rdC hand last 2 1 p ⟨fok, fov⟩ t i := by
  match i, hi with
  | 0, _ | 1, _ | 2, _ | 3, _ | 4, _ | 5, _ | 6, _ | 7, _ | 8, _ => rfl
theorem r_t1 (hand last st at_ seen fov : Int) (fok : Bool) (t : Ans) (p a : Int) (i : Nat) (hi : i < 9) : (fun j => (fun j => if j = 3 then Value.int .i64 a else (fun j => if j = 6 then Value.int .u64 p else (fun j => if j = 5 then Value.bool true else rdC hand last st at_ seen ⟨fok, fov⟩ t j) j) j) j) i = rdC hand last st a seen ⟨true, p⟩ t i := by
  match i, hi with
  | 0, _ | 1, _ | 2, _ | 3, _ | 4, _ | 5, _ | 6, _ | 7, _ | 8, _ => rfl
theorem r_t13 (hand last st at_ seen fov : Int) (fok : Bool) (t : Ans) (p a : Int) (i : Nat) (hi : i < 9) : (fun j => (fun j => if j = 2 then Value.int .i64 3 else (fun j => if j = 3 then Value.int .i64 a else (fun j => if j = 6 then Value.int .u64 p else (fun j => if j = 5 then Value.bool true else rdC hand last st at_ seen ⟨fok, fov⟩ t j) j) j) j) j) i = rdC hand last 3 a seen ⟨true, p⟩ t i := by
  match i, hi with
  | 0, _ | 1, _ | 2, _ | 3, _ | 4, _ | 5, _ | 6, _ | 7, _ | 8, _ => rfl
theorem r_at (hand last st at_ seen fov : Int) (fok : Bool) (t : Ans) (a : Int) (i : Nat) (hi : i < 9) : (fun j => (fun j => if j = 3 then Value.int .i64 a else rdC hand last st at_ seen ⟨fok, fov⟩ t j) j) i = rdC hand last st a seen ⟨fok, fov⟩ t i := by
  match i, hi with
  | 0, _ | 1, _ | 2, _ | 3, _ | 4, _ | 5, _ | 6, _ | 7, _ | 8, _ => rfl
theorem r_at3 (hand last st at_ seen fov : Int) (fok : Bool) (t : Ans) (a : Int) (i : Nat) (hi : i < 9) : (fun j => (fun j => if j = 2 then Value.int .i64 3 else (fun j => if j = 3 then Value.int .i64 a else rdC hand last st at_ seen ⟨fok, fov⟩ t j) j) j) i = rdC hand last 3 a seen ⟨fok, fov⟩ t i := by
  match i, hi with
  | 0, _ | 1, _ | 2, _ | 3, _ | 4, _ | 5, _ | 6, _ | 7, _ | 8, _ => rfl
theorem r_no (hand last st at_ seen fov : Int) (fok : Bool) (t : Ans) (a : Int) (i : Nat) (hi : i < 9) : (fun j => (fun j => if j = 3 then Value.int .i64 a else (fun j => if j = 5 then Value.bool false else rdC hand last st at_ seen ⟨fok, fov⟩ t j) j) j) i = rdC hand last st a seen ⟨false, fov⟩ t i := by
  match i, hi with
  | 0, _ | 1, _ | 2, _ | 3, _ | 4, _ | 5, _ | 6, _ | 7, _ | 8, _ => rfl
theorem r_no3 (hand last st at_ seen fov : Int) (fok : Bool) (t : Ans) (a : Int) (i : Nat) (hi : i < 9) : (fun j => (fun j => if j = 2 then Value.int .i64 3 else (fun j => if j = 3 then Value.int .i64 a else (fun j => if j = 5 then Value.bool false else rdC hand last st at_ seen ⟨fok, fov⟩ t j) j) j) j) i = rdC hand last 3 a seen ⟨false, fov⟩ t i := by
  match i, hi with
  | 0, _ | 1, _ | 2, _ | 3, _ | 4, _ | 5, _ | 6, _ | 7, _ | 8, _ => rfl
theorem r_st (hand last st at_ seen fov : Int) (fok : Bool) (t : Ans) (s : Int) (i : Nat) (hi : i < 9) : (fun j => (fun j => if j = 2 then Value.int .i64 s else rdC hand last st at_ seen ⟨fok, fov⟩ t j) j) i = rdC hand last s at_ seen ⟨fok, fov⟩ t i := by
  match i, hi with
  | 0, _ | 1, _ | 2, _ | 3, _ | 4, _ | 5, _ | 6, _ | 7, _ | 8, _ => rfl
theorem r_told (hand last st at_ seen fov : Int) (fok : Bool) (t : Ans)  (i : Nat) (hi : i < 9) : (fun j => (fun j => if j = 8 then Value.int .u64 fov else (fun j => if j = 7 then Value.bool fok else rdC hand last st at_ seen ⟨fok, fov⟩ t j) j) j) i = rdC hand last st at_ seen ⟨fok, fov⟩ ⟨fok, fov⟩ i := by
  match i, hi with
  | 0, _ | 1, _ | 2, _ | 3, _ | 4, _ | 5, _ | 6, _ | 7, _ | 8, _ => rfl

set_option maxHeartbeats 4000000 in
theorem load_any {w : World} {b bm bw n : Nat} {f f' : Nat → Int} {x : Stp} {hand at_ : Int} (c0 : w.cell? ⟨b, 0, none⟩ = some (.int .i64 hand)) (hl : b < w.heap.size) (hm : IsMem w bm bw n f) (hp : 0 ≤ (⟨hand, 1, at_, 0, 0, true⟩ : Stp).put ∧ (⟨hand, 1, at_, 0, 0, true⟩ : Stp).put ≤ 18446744073709551615)
    (hx : stepOf n f ⟨hand, 1, at_, 0, 0, true⟩ = x) (hf' : wordsOf n f ⟨hand, 1, at_, 0, 0, true⟩ = f') :
    Calls Try.prog 109 #[.pointer (some ⟨b, 0, none⟩), .pointer (some ⟨bm, 0, none⟩), .int .i64 at_] w fun e w' => e = .returned x.val ∧ IsMem w' bm bw n f' ∧ w.grownBy w' (some bw) := by
  have lw := hm.row.lt
  have lm := hm.head.lt
  have K := do_mem (hm.alloc (.cells #[.int .i64 0, .int .i64 0, .int .i64 0, .int .u64 0, .int .u64 0, .bool false] 77)) ⟨hand, 1, at_, 0, 0, true⟩ hp
  rw [hx, hf'] at K
  have K0 := hide K
  have RW := hide (row0 w)
  clear hm hx hf' hp K
  go_enter Try.func109, Try.ntmps109
  go_wp2_with fail
  refine K0.out.mono ?_
  rintro e w1 ⟨rfl, hm1, hg1⟩
  simp only [Stp.val]
  have s1 := hg1.size
  simp only [World.size_alloc] at s1
  have RR := hide (RW.out.of_block (hg1.block w.heap.size (by simp) (by simp; omega)))
  have M1 := hide hm1
  have G1 := hide (grown_trans (grown_alloc (grown_refl w (some bw)) (.cells #[.int .i64 0, .int .i64 0, .int .i64 0, .int .u64 0, .int .u64 0, .bool false] 77)) hg1)
  clear hm1 hg1 K0 RW
  have l2 : w.heap.size < w1.heap.size := by omega
  obtain ⟨⟨r0, rf0⟩, ⟨r1, rf1⟩, ⟨r2, rf2⟩, ⟨r3, rf3⟩, ⟨r4, rf4⟩, r5, rf5⟩ := res_facts RR.out
  go_wp2_with fail
  go_light
  refine bodyPost_ret (v := x.val) ?res rfl ⟨rfl, ?mem, ?gro⟩
  case mem =>
    repeat (first | (with_reducible apply IsMem.alloc) | (with_reducible apply IsMem.drew) | ((with_reducible refine IsMem.setOther ?_ ?_ ?_ _); rotate_left; (simp; omega); (simp; omega)))
    with_reducible exact M1.out
  case gro =>
    repeat (with_reducible refine grown_setCell ?_ _ (.inr (Nat.le_refl _)) _)
    with_reducible exact G1.out
  case res => simp [results, Try.results109, go_sem, Stp.val, *]

set_option maxHeartbeats 4000000 in
theorem store_any {w : World} {b bm bw n : Nat} {f f' : Nat → Int} {x : Stp} {at_ put : Int} (hm : IsMem w bm bw n f) (hp : 0 ≤ (⟨0, 2, at_, 0, put, true⟩ : Stp).put ∧ (⟨0, 2, at_, 0, put, true⟩ : Stp).put ≤ 18446744073709551615)
    (hx : stepOf n f ⟨0, 2, at_, 0, put, true⟩ = x) (hf' : wordsOf n f ⟨0, 2, at_, 0, put, true⟩ = f') :
    Calls Try.prog 94 #[.pointer (some ⟨b, 0, none⟩), .pointer (some ⟨bm, 0, none⟩), .int .i64 at_, .int .u64 put] w fun e w' => e = .returned x.val ∧ IsMem w' bm bw n f' ∧ w.grownBy w' (some bw) := by
  have lw := hm.row.lt
  have lm := hm.head.lt
  have K := do_mem (hm.alloc (.cells #[.int .i64 0, .int .i64 0, .int .i64 0, .int .u64 0, .int .u64 0, .bool false] 77)) ⟨0, 2, at_, 0, put, true⟩ hp
  rw [hx, hf'] at K
  have K0 := hide K
  have RW := hide (row0 w)
  clear hm hx hf' hp K
  go_enter Try.func94, Try.ntmps94
  go_wp2_with fail
  refine K0.out.mono ?_
  rintro e w1 ⟨rfl, hm1, hg1⟩
  simp only [Stp.val]
  have s1 := hg1.size
  simp only [World.size_alloc] at s1
  have RR := hide (RW.out.of_block (hg1.block w.heap.size (by simp) (by simp; omega)))
  have M1 := hide hm1
  have G1 := hide (grown_trans (grown_alloc (grown_refl w (some bw)) (.cells #[.int .i64 0, .int .i64 0, .int .i64 0, .int .u64 0, .int .u64 0, .bool false] 77)) hg1)
  clear hm1 hg1 K0 RW
  have l2 : w.heap.size < w1.heap.size := by omega
  obtain ⟨⟨r0, rf0⟩, ⟨r1, rf1⟩, ⟨r2, rf2⟩, ⟨r3, rf3⟩, ⟨r4, rf4⟩, r5, rf5⟩ := res_facts RR.out
  go_wp2_with fail
  go_light
  refine bodyPost_ret (v := x.val) ?res rfl ⟨rfl, ?mem, ?gro⟩
  case mem =>
    repeat (first | (with_reducible apply IsMem.alloc) | (with_reducible apply IsMem.drew) | ((with_reducible refine IsMem.setOther ?_ ?_ ?_ _); rotate_left; (simp; omega); (simp; omega)))
    with_reducible exact M1.out
  case gro =>
    repeat (with_reducible refine grown_setCell ?_ _ (.inr (Nat.le_refl _)) _)
    with_reducible exact G1.out
  case res => simp [results, Try.results94, go_sem, Stp.val, *]

end Seq
end Go.Proofs.Ytkiojiibppdjjaa
