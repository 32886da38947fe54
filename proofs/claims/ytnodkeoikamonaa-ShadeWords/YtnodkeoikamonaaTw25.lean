/-
  Lemmas: ShadeA.
-/
import Derived.Test.YtnodkeoikamonaaTw20
import Derived.Test.YtnodkeoikamonaaTw17
import Derived.Test.YtnodkeoikamonaaTw24
/-
  Shading and pulling: their small methods.
-/
namespace Go.Proofs.Ytnodkeoikamonaa
open Go.RowKit
set_option linter.unusedVariables false
set_option linter.unusedSimpArgs false
set_option maxRecDepth 20000
namespace Shd
theorem fieldM0 (w : World) (b : Nat) : (Instr.fieldAt 148 (.pointer (some ⟨b, 0, none⟩)) 0).run Try.prog w = .ok (.pointer (some ⟨b, 0, none⟩)) w := by simp [go_sem]
theorem fieldM1 (w : World) (b : Nat) : (Instr.fieldAt 148 (.pointer (some ⟨b, 0, none⟩)) 1).run Try.prog w = .ok (.pointer (some ⟨b, 5, none⟩)) w := by simp [go_sem]
theorem fieldM4 (w : World) (b : Nat) : (Instr.fieldAt 148 (.pointer (some ⟨b, 0, none⟩)) 4).run Try.prog w = .ok (.pointer (some ⟨b, 8, none⟩)) w := by simp [go_sem]
theorem fieldM5 (w : World) (b : Nat) : (Instr.fieldAt 148 (.pointer (some ⟨b, 0, none⟩)) 5).run Try.prog w = .ok (.pointer (some ⟨b, 9, none⟩)) w := by simp [go_sem]
theorem fieldM6 (w : World) (b : Nat) : (Instr.fieldAt 148 (.pointer (some ⟨b, 0, none⟩)) 6).run Try.prog w = .ok (.pointer (some ⟨b, 10, none⟩)) w := by simp [go_sem]
theorem fieldP0 (w : World) (b : Nat) : (Instr.fieldAt 145 (.pointer (some ⟨b, 0, none⟩)) 0).run Try.prog w = .ok (.pointer (some ⟨b, 0, none⟩)) w := by simp [go_sem]
theorem fieldP1 (w : World) (b : Nat) : (Instr.fieldAt 145 (.pointer (some ⟨b, 0, none⟩)) 1).run Try.prog w = .ok (.pointer (some ⟨b, 5, none⟩)) w := by simp [go_sem]
theorem fieldP2 (w : World) (b : Nat) : (Instr.fieldAt 145 (.pointer (some ⟨b, 0, none⟩)) 2).run Try.prog w = .ok (.pointer (some ⟨b, 11, none⟩)) w := by simp [go_sem]
theorem fieldP3 (w : World) (b : Nat) : (Instr.fieldAt 145 (.pointer (some ⟨b, 0, none⟩)) 3).run Try.prog w = .ok (.pointer (some ⟨b, 12, none⟩)) w := by simp [go_sem]
theorem fieldP4 (w : World) (b : Nat) : (Instr.fieldAt 145 (.pointer (some ⟨b, 0, none⟩)) 4).run Try.prog w = .ok (.pointer (some ⟨b, 13, none⟩)) w := by simp [go_sem]
theorem fieldW0 (w : World) (b : Nat) : (Instr.fieldAt 143 (.pointer (some ⟨b, 0, none⟩)) 0).run Try.prog w = .ok (.pointer (some ⟨b, 0, none⟩)) w := by simp [go_sem]
theorem fieldW2 (w : World) (b : Nat) : (Instr.fieldAt 143 (.pointer (some ⟨b, 0, none⟩)) 2).run Try.prog w = .ok (.pointer (some ⟨b, 2, none⟩)) w := by simp [go_sem]
theorem aggI (w : World) : (isAgg 3).run Try.prog w = .ok false w := by simp [go_sem]
theorem aggU (w : World) : (isAgg 30).run Try.prog w = .ok false w := by simp [go_sem]
theorem ex_xor {ev : Operand → Value} {o : Oper} {w : World} {x y : Operand} {v : Int} (ho : o.op = .binOp .xor 30 x y 30) (hx : ev x = .int .u64 v) (hy : ev y = .int .u64 2) : (execOp ev o).run Try.prog w = .ok (.value (.int .u64 (xr v))) w := by
  simp [execOp, ho, hx, hy, go_sem, xr]
theorem call3 {ev : Operand → Value} {o : Oper} {w : World} {f : FuncId} {x0 x1 x2 : Operand} {ts : Array TypeId} {v0 v1 v2 : Value} (ho : o.op = Op.call { callee := Callee.value (Operand.func f), args := #[x0, x1, x2], argTypes := ts }) (h0 : ev x0 = v0) (h1 : ev x1 = v1) (h2 : ev x2 = v2) (hf : ev (Operand.func f) = .func (.func f) #[] #[]) (hcf : (callFunc f #[v0, v1, v2]).run Try.prog w = .ok (.enter f #[v0, v1, v2]) w) : (execOp ev o).run Try.prog w = .ok (.enter f #[v0, v1, v2]) w := by
  simp [execOp, ho, h0, h1, h2, hf, hcf, go_sem]
theorem call5 {ev : Operand → Value} {o : Oper} {w : World} {f : FuncId} {x0 x1 x2 x3 x4 : Operand} {ts : Array TypeId} {v0 v1 v2 v3 v4 : Value} (ho : o.op = Op.call { callee := Callee.value (Operand.func f), args := #[x0, x1, x2, x3, x4], argTypes := ts }) (h0 : ev x0 = v0) (h1 : ev x1 = v1) (h2 : ev x2 = v2) (h3 : ev x3 = v3) (h4 : ev x4 = v4) (hf : ev (Operand.func f) = .func (.func f) #[] #[]) (hcf : (callFunc f #[v0, v1, v2, v3, v4]).run Try.prog w = .ok (.enter f #[v0, v1, v2, v3, v4]) w) : (execOp ev o).run Try.prog w = .ok (.enter f #[v0, v1, v2, v3, v4]) w := by
  simp [execOp, ho, h0, h1, h2, h3, h4, hf, hcf, go_sem]
theorem SWcalls {b T nc : Nat} {C : Nat → Value} {bm bw n : Nat} {f f' : Nat → Int} {X : Stp} {r : Nat} {w0 : World} {fd : FuncId} {args : Array Value} {kc ia is : Nat} (hb : b ≠ bw) (hr : r ≠ bw) (n1 : ia ≠ kc) (n2 : is ≠ kc)
    (hc : ∀ w, w.rowIs b T nc C → IsMem w bm bw n f → Calls Try.prog fd args w fun e w' => e = .returned X.val ∧ IsMem w' bm bw n f' ∧ w.grownBy w' (some bw)) :
    ∀ (L : Nat → Bool) v w, RG.SW b T nc C bm bw n f f' X r w0 (L kc) (L ia) (L is) v w → L kc = false →
      Calls Try.prog fd args w fun e w' => e = .returned X.val ∧ RG.SW b T nc C bm bw n f f' X r w0 (upd L kc true kc) (upd L kc true ia) (upd L kc true is) v w' := by
  intro L v w h hL
  have hm := h.mem
  rw [hL, if_neg (by decide)] at hm
  refine (hc w h.row hm).mono ?_
  rintro e w' ⟨rfl, hm', hg⟩
  rw [upd_same, upd_other _ _ n1, upd_other _ _ n2]
  exact ⟨rfl, h.act hL hb hr hm' hg⟩
theorem cell_of_block {w w' : World} {b : Nat} (h : w'.heap[b]? = w.heap[b]?) (i : Nat) : w'.cell? ⟨b, i, none⟩ = w.cell? ⟨b, i, none⟩ := by simp only [World.cell?, h]
theorem sizeSh : (Try.prog.info? 23).map (·.size) = some 6 := by kernel_rfl
theorem rowSh : ∃ d, Try.prog.underlying 23 = some d ∧ d.isRow = true := by
  exact ⟨_, Try.underlying23, rfl⟩
theorem shrow {w : World} {b : Nat} {hand g i l xb : Int} {fn : Value} {t : Ans} {sh : Shp} (h : w.rowIs b 145 14 (pC sh hand fn g t i l xb)) : w.rangeAt b 5 [.int .i64 sh.a, .int .i64 sh.b, .int .i64 sh.c, .int .i64 sh.d, .int .i64 sh.e, .int .i64 sh.f] := by
  intro j v hj
  have hj6 : j < 6 := (List.getElem?_eq_some_iff.1 hj).1
  rw [h.cell (i := 5 + j) (by omega)]
  match j, hj6 with
  | 0, _ | 1, _ | 2, _ | 3, _ | 4, _ | 5, _ => exact hj
theorem m_facts {w : World} {b : Nat} {hand g i gn c h l v : Int} {fn : Value} {t : Ans} (h_ : w.rowIs b 148 11 (mC hand fn g t i gn c h l v)) : (w.cell? ⟨b, 0, none⟩ = some (.int .i64 hand) ∧ w.frozen? ⟨b, 0, none⟩ = false) ∧ (w.cell? ⟨b, 1, none⟩ = some (fn) ∧ w.frozen? ⟨b, 1, none⟩ = false) ∧ (w.cell? ⟨b, 2, none⟩ = some (.int .u64 g) ∧ w.frozen? ⟨b, 2, none⟩ = false) ∧ (w.cell? ⟨b, 3, none⟩ = some (.bool t.ok) ∧ w.frozen? ⟨b, 3, none⟩ = false) ∧ (w.cell? ⟨b, 4, none⟩ = some (.int .u64 t.val) ∧ w.frozen? ⟨b, 4, none⟩ = false) ∧ (w.cell? ⟨b, 5, none⟩ = some (.int .i64 i) ∧ w.frozen? ⟨b, 5, none⟩ = false) ∧ (w.cell? ⟨b, 6, none⟩ = some (.int .u64 gn) ∧ w.frozen? ⟨b, 6, none⟩ = false) ∧ (w.cell? ⟨b, 7, none⟩ = some (.int .i64 c) ∧ w.frozen? ⟨b, 7, none⟩ = false) ∧ (w.cell? ⟨b, 8, none⟩ = some (.int .i64 h) ∧ w.frozen? ⟨b, 8, none⟩ = false) ∧ (w.cell? ⟨b, 9, none⟩ = some (.int .i64 l) ∧ w.frozen? ⟨b, 9, none⟩ = false) ∧ (w.cell? ⟨b, 10, none⟩ = some (.int .u64 v) ∧ w.frozen? ⟨b, 10, none⟩ = false) :=
  ⟨⟨h_.cell (i := 0) (by omega), h_.frozen 0⟩, ⟨h_.cell (i := 1) (by omega), h_.frozen 1⟩, ⟨h_.cell (i := 2) (by omega), h_.frozen 2⟩, ⟨h_.cell (i := 3) (by omega), h_.frozen 3⟩, ⟨h_.cell (i := 4) (by omega), h_.frozen 4⟩, ⟨h_.cell (i := 5) (by omega), h_.frozen 5⟩, ⟨h_.cell (i := 6) (by omega), h_.frozen 6⟩, ⟨h_.cell (i := 7) (by omega), h_.frozen 7⟩, ⟨h_.cell (i := 8) (by omega), h_.frozen 8⟩, ⟨h_.cell (i := 9) (by omega), h_.frozen 9⟩, ⟨h_.cell (i := 10) (by omega), h_.frozen 10⟩⟩
theorem p_facts {w : World} {b : Nat} {hand g i l xb : Int} {fn : Value} {t : Ans} {sh : Shp} (h : w.rowIs b 145 14 (pC sh hand fn g t i l xb)) : (w.cell? ⟨b, 0, none⟩ = some (.int .i64 hand) ∧ w.frozen? ⟨b, 0, none⟩ = false) ∧ (w.cell? ⟨b, 1, none⟩ = some (fn) ∧ w.frozen? ⟨b, 1, none⟩ = false) ∧ (w.cell? ⟨b, 2, none⟩ = some (.int .u64 g) ∧ w.frozen? ⟨b, 2, none⟩ = false) ∧ (w.cell? ⟨b, 3, none⟩ = some (.bool t.ok) ∧ w.frozen? ⟨b, 3, none⟩ = false) ∧ (w.cell? ⟨b, 4, none⟩ = some (.int .u64 t.val) ∧ w.frozen? ⟨b, 4, none⟩ = false) ∧ (w.cell? ⟨b, 5, none⟩ = some (.int .i64 sh.a) ∧ w.frozen? ⟨b, 5, none⟩ = false) ∧ (w.cell? ⟨b, 6, none⟩ = some (.int .i64 sh.b) ∧ w.frozen? ⟨b, 6, none⟩ = false) ∧ (w.cell? ⟨b, 7, none⟩ = some (.int .i64 sh.c) ∧ w.frozen? ⟨b, 7, none⟩ = false) ∧ (w.cell? ⟨b, 8, none⟩ = some (.int .i64 sh.d) ∧ w.frozen? ⟨b, 8, none⟩ = false) ∧ (w.cell? ⟨b, 9, none⟩ = some (.int .i64 sh.e) ∧ w.frozen? ⟨b, 9, none⟩ = false) ∧ (w.cell? ⟨b, 10, none⟩ = some (.int .i64 sh.f) ∧ w.frozen? ⟨b, 10, none⟩ = false) ∧ (w.cell? ⟨b, 11, none⟩ = some (.int .i64 i) ∧ w.frozen? ⟨b, 11, none⟩ = false) ∧ (w.cell? ⟨b, 12, none⟩ = some (.int .i64 l) ∧ w.frozen? ⟨b, 12, none⟩ = false) ∧ (w.cell? ⟨b, 13, none⟩ = some (.int .i64 xb) ∧ w.frozen? ⟨b, 13, none⟩ = false) :=
  ⟨⟨h.cell (i := 0) (by omega), h.frozen 0⟩, ⟨h.cell (i := 1) (by omega), h.frozen 1⟩, ⟨h.cell (i := 2) (by omega), h.frozen 2⟩, ⟨h.cell (i := 3) (by omega), h.frozen 3⟩, ⟨h.cell (i := 4) (by omega), h.frozen 4⟩, ⟨h.cell (i := 5) (by omega), h.frozen 5⟩, ⟨h.cell (i := 6) (by omega), h.frozen 6⟩, ⟨h.cell (i := 7) (by omega), h.frozen 7⟩, ⟨h.cell (i := 8) (by omega), h.frozen 8⟩, ⟨h.cell (i := 9) (by omega), h.frozen 9⟩, ⟨h.cell (i := 10) (by omega), h.frozen 10⟩, ⟨h.cell (i := 11) (by omega), h.frozen 11⟩, ⟨h.cell (i := 12) (by omega), h.frozen 12⟩, ⟨h.cell (i := 13) (by omega), h.frozen 13⟩⟩
theorem res_facts {w : World} {r : Nat} (h : w.rowIs r 63 6 zcell) : (w.cell? ⟨r, 0, none⟩ = some (.int .i64 0) ∧ w.frozen? ⟨r, 0, none⟩ = false) ∧ (w.cell? ⟨r, 1, none⟩ = some (.int .i64 0) ∧ w.frozen? ⟨r, 1, none⟩ = false) ∧ (w.cell? ⟨r, 2, none⟩ = some (.int .i64 0) ∧ w.frozen? ⟨r, 2, none⟩ = false) ∧ (w.cell? ⟨r, 3, none⟩ = some (.int .u64 0) ∧ w.frozen? ⟨r, 3, none⟩ = false) ∧ (w.cell? ⟨r, 4, none⟩ = some (.int .u64 0) ∧ w.frozen? ⟨r, 4, none⟩ = false) ∧ (w.cell? ⟨r, 5, none⟩ = some (.bool false) ∧ w.frozen? ⟨r, 5, none⟩ = false) :=
  ⟨⟨h.cell (i := 0) (by omega), h.frozen 0⟩, ⟨h.cell (i := 1) (by omega), h.frozen 1⟩, ⟨h.cell (i := 2) (by omega), h.frozen 2⟩, ⟨h.cell (i := 3) (by omega), h.frozen 3⟩, ⟨h.cell (i := 4) (by omega), h.frozen 4⟩, ⟨h.cell (i := 5) (by omega), h.frozen 5⟩⟩
set_option maxHeartbeats 4000000 in
theorem load_any {w : World} {b bm bw n : Nat} {f f' : Nat → Int} {x : Stp} {hand at_ : Int} (c0 : w.cell? ⟨b, 0, none⟩ = some (.int .i64 hand)) (hl : b < w.heap.size) (hm : IsMem w bm bw n f) (hp : 0 ≤ (⟨hand, 1, at_, 0, 0, true⟩ : Stp).put ∧ (⟨hand, 1, at_, 0, 0, true⟩ : Stp).put ≤ 18446744073709551615)
    (hx : stepOf n f ⟨hand, 1, at_, 0, 0, true⟩ = x) (hf' : wordsOf n f ⟨hand, 1, at_, 0, 0, true⟩ = f') :
    Calls Try.prog 106 #[.pointer (some ⟨b, 0, none⟩), .pointer (some ⟨bm, 0, none⟩), .int .i64 at_] w fun e w' => e = .returned x.val ∧ IsMem w' bm bw n f' ∧ w.grownBy w' (some bw) := by
  have lw := hm.row.lt
  have lm := hm.head.lt
  have K := do_mem (hm.alloc (.cells #[.int .i64 0, .int .i64 0, .int .i64 0, .int .u64 0, .int .u64 0, .bool false] 63)) ⟨hand, 1, at_, 0, 0, true⟩ hp
  rw [hx, hf'] at K
  have K0 := hide K
  have RW := hide (row0 w)
  clear hm hx hf' hp K
  go_enter Try.func106, Try.ntmps106
  go_wp2_with fail
  refine K0.out.mono ?_
  rintro e w1 ⟨rfl, hm1, hg1⟩
  simp only [Stp.val]
  have s1 := hg1.size
  simp only [World.size_alloc] at s1
  have RR := hide (RW.out.of_block (hg1.block w.heap.size (by simp) (by simp; omega)))
  have M1 := hide hm1
  have G1 := hide (grown_trans (grown_alloc (grown_refl w (some bw)) (.cells #[.int .i64 0, .int .i64 0, .int .i64 0, .int .u64 0, .int .u64 0, .bool false] 63)) hg1)
  clear hm1 hg1 K0 RW
  have l2 : w.heap.size < w1.heap.size := by omega
  obtain ⟨⟨r0, rf0⟩, ⟨r1, rf1⟩, ⟨r2, rf2⟩, ⟨r3, rf3⟩, ⟨r4, rf4⟩, r5, rf5⟩ := res_facts RR.out
  go_wp2_with fail
  go_light
  refine bodyPost_ret (v := x.val) ?res rfl ⟨rfl, ?mem, ?gro⟩
  case mem =>
    repeat (first | (with_reducible apply IsMem.alloc) | (with_reducible apply IsMem.drew) | ((with_reducible refine IsMem.setOther ?_ ?_ ?_ _); rotate_left; (simp; omega); (simp; omega)))
    with_reducible exact M1.out
  case gro =>
    repeat (with_reducible refine grown_setCell ?_ _ (.inr (Nat.le_refl _)) _)
    with_reducible exact G1.out
  case res => simp [results, Try.results106, go_sem, Stp.val, *]
set_option maxHeartbeats 4000000 in
theorem cas_any {w : World} {b bm bw n : Nat} {f f' : Nat → Int} {x : Stp} {hand at_ old v : Int} (c0 : w.cell? ⟨b, 0, none⟩ = some (.int .i64 hand)) (hl : b < w.heap.size) (hm : IsMem w bm bw n f) (hp : 0 ≤ (⟨hand, 5, at_, old, v, true⟩ : Stp).put ∧ (⟨hand, 5, at_, old, v, true⟩ : Stp).put ≤ 18446744073709551615)
    (hx : stepOf n f ⟨hand, 5, at_, old, v, true⟩ = x) (hf' : wordsOf n f ⟨hand, 5, at_, old, v, true⟩ = f') :
    Calls Try.prog 126 #[.pointer (some ⟨b, 0, none⟩), .pointer (some ⟨bm, 0, none⟩), .int .i64 at_, .int .u64 old, .int .u64 v] w fun e w' => e = .returned x.val ∧ IsMem w' bm bw n f' ∧ w.grownBy w' (some bw) := by
  have lw := hm.row.lt
  have lm := hm.head.lt
  have K := do_mem (hm.alloc (.cells #[.int .i64 0, .int .i64 0, .int .i64 0, .int .u64 0, .int .u64 0, .bool false] 63)) ⟨hand, 5, at_, old, v, true⟩ hp
  rw [hx, hf'] at K
  have K0 := hide K
  have RW := hide (row0 w)
  clear hm hx hf' hp K
  go_enter Try.func126, Try.ntmps126
  go_wp2_with fail
  refine K0.out.mono ?_
  rintro e w1 ⟨rfl, hm1, hg1⟩
  simp only [Stp.val]
  have s1 := hg1.size
  simp only [World.size_alloc] at s1
  have RR := hide (RW.out.of_block (hg1.block w.heap.size (by simp) (by simp; omega)))
  have M1 := hide hm1
  have G1 := hide (grown_trans (grown_alloc (grown_refl w (some bw)) (.cells #[.int .i64 0, .int .i64 0, .int .i64 0, .int .u64 0, .int .u64 0, .bool false] 63)) hg1)
  clear hm1 hg1 K0 RW
  have l2 : w.heap.size < w1.heap.size := by omega
  obtain ⟨⟨r0, rf0⟩, ⟨r1, rf1⟩, ⟨r2, rf2⟩, ⟨r3, rf3⟩, ⟨r4, rf4⟩, r5, rf5⟩ := res_facts RR.out
  go_wp2_with fail
  go_light
  refine bodyPost_ret (v := x.val) ?res rfl ⟨rfl, ?mem, ?gro⟩
  case mem =>
    repeat (first | (with_reducible apply IsMem.alloc) | (with_reducible apply IsMem.drew) | ((with_reducible refine IsMem.setOther ?_ ?_ ?_ _); rotate_left; (simp; omega); (simp; omega)))
    with_reducible exact M1.out
  case gro =>
    repeat (with_reducible refine grown_setCell ?_ _ (.inr (Nat.le_refl _)) _)
    with_reducible exact G1.out
  case res => simp [results, Try.results126, go_sem, Stp.val, *]
set_option maxHeartbeats 4000000 in
theorem goOn_any {w : World} {b T nc : Nat} {C : Nat → Value} (F : FuncId) (h : w.rowIs b T nc C) (hn : 1 < nc) :
    Calls Try.prog 103 #[.pointer (some ⟨b, 0, none⟩), .func (.func F) #[.pointer (some ⟨b, 0, none⟩)] #[]] w fun e w' => e = .returned (.int .i64 0) ∧ w'.rowIs b T nc (fun i => if i = 1 then .func (.func F) #[.pointer (some ⟨b, 0, none⟩)] #[] else C i) ∧ Touch w w' (fun k => k = b) := by
  have c1 := h.cell (i := 1) hn
  have f1 := h.frozen 1
  have hl := h.lt
  have R := hide (h.set 1 (.func (.func F) #[.pointer (some ⟨b, 0, none⟩)] #[]))
  have T0 := hide ((Touch.refl w (fun k => k = b)).setCell ⟨b, 1, none⟩ (.inl rfl) (.func (.func F) #[.pointer (some ⟨b, 0, none⟩)] #[]))
  have rs : ∀ w1 : World, (store ⟨b, 1, none⟩ (.func (.func F) #[.pointer (some ⟨b, 0, none⟩)] #[])).run Try.prog w1 = stored Try.prog w1 ⟨b, 1, none⟩ (.func (.func F) #[.pointer (some ⟨b, 0, none⟩)] #[]) .plain := fun w1 => run_store Try.prog w1 _ _ _ rfl
  clear h
  go_enter Try.func103, Try.ntmps103
  go_wp2_with fail
  go_ret
  exact ⟨rfl, R.out, T0.out⟩
set_option maxHeartbeats 4000000 in
theorem end_any {w : World} {b T nc : Nat} {C : Nat → Value} {i : Int} (hi : 0 ≤ i ∧ i ≤ 18446744073709551615) (h : w.rowIs b T nc C) (hn : 4 < nc) :
    Calls Try.prog 131 #[.pointer (some ⟨b, 0, none⟩), .int .i64 i] w fun e w' => e = .returned (.int .i64 1) ∧ w'.rowIs b T nc (fun k => if k = 4 then .int .u64 i else if k = 3 then .bool true else C k) ∧ Touch w w' (fun k => k = b) := by
  have c3 := h.cell (i := 3) (by omega)
  have f3 := h.frozen 3
  have c4 := h.cell (i := 4) (by omega)
  have f4 := h.frozen 4
  have hl := h.lt
  have R := hide ((h.set 3 (.bool true)).set 4 (.int .u64 i))
  have T0 := hide (((Touch.refl w (fun k => k = b)).setCell ⟨b, 3, none⟩ (.inl rfl) (.bool true)).setCell ⟨b, 4, none⟩ (.inl rfl) (.int .u64 i))
  have g1 : IntKind.u64.wrap i = i := by rw [IntKind.wrap_u64]; omega
  clear h
  go_enter Try.func131, Try.ntmps131
  go_wp2_with fail
  go_ret
  exact ⟨rfl, R.out, T0.out⟩
set_option maxHeartbeats 4000000 in
theorem turnGrey_any {w : World} {b bm bw n : Nat} {f f' : Nat → Int} {x : Stp} {hand g i : Int} (c0 : w.cell? ⟨b, 0, none⟩ = some (.int .i64 hand)) (c2 : w.cell? ⟨b, 2, none⟩ = some (.int .u64 g)) (hl : b < w.heap.size) (h2 : b ≠ bw) (hg : 0 ≤ g ∧ g ≤ 18446744073709551615) (hm : IsMem w bm bw n f) (hx : stepOf n f ⟨hand, 5, 2, g, bmp g i, true⟩ = x) (hf' : wordsOf n f ⟨hand, 5, 2, g, bmp g i, true⟩ = f') :
    Calls Try.prog 130 #[.pointer (some ⟨b, 0, none⟩), .pointer (some ⟨bm, 0, none⟩), .int .i64 i] w fun e w' => e = .returned x.val ∧ IsMem w' bm bw n f' ∧ w.grownBy w' (some bw) := by
  have lw := hm.row.lt
  have lm := hm.head.lt
  have KC := hide (fun (w1 : World) (h1 : IsMem w1 bm bw n f) (h2 : w1.cell? ⟨b, 0, none⟩ = some (.int .i64 hand)) (h3 : b < w1.heap.size) => cas_any h2 h3 h1 ⟨bmp_lo g i, bmp_hi g i⟩ hx hf')
  have BP := hide (fun w1 : World => bump_any g i hg.1 (by omega) w1)
  obtain ⟨W1, hW1⟩ : ∃ W1, w.alloc (.cells #[.int .i64 0, .int .i64 0, .int .i64 0, .int .u64 0, .int .u64 0, .bool false] 63) = W1 := ⟨_, rfl⟩
  have RZ := hide (show W1.rowIs w.heap.size 63 6 zcell from by rw [← hW1]; exact row0 w)
  have M := hide (show IsMem W1 bm bw n f from by rw [← hW1]; exact hm.alloc _)
  have B0 : Below w.heap.size w W1 := by rw [← hW1]; exact (Below.refl _ w).alloc (Nat.le_refl _) _
  have e0 : W1.cell? ⟨b, 0, none⟩ = some (.int .i64 hand) := (B0.cell (p := ⟨b, 0, none⟩) hl).trans c0
  have e2 : W1.cell? ⟨b, 2, none⟩ = some (.int .u64 g) := (B0.cell (p := ⟨b, 2, none⟩) hl).trans c2
  clear B0
  have sz : W1.heap.size = w.heap.size + 1 := by rw [← hW1]; simp
  have lb : b < W1.heap.size := by omega
  have G0 := hide (show w.grownBy W1 (some bw) from by rw [← hW1]; exact grown_alloc (grown_refl w (some bw)) _)
  clear hm hx hf' hg
  go_enter Try.func130, Try.ntmps130
  go_wp2_with fail
  clear hW1 c0 c2
  have hn4 : w.heap.size ≠ bw := by omega
  have hn3 : w.heap.size ≠ b := by omega
  have hn6 : b ≠ w.heap.size := by omega
  have hn7 : bm ≠ w.heap.size := by omega
  have hn8 : bw ≠ w.heap.size := by omega
  go_region_held (fun w' => w'.cell? ⟨b, 2, none⟩ = some (.int .u64 g)) (go_keep) (first | (go_at_call 137; refine (BP.out _).mono ?_; rintro e wq ⟨rfl, hwq⟩; obtain rfl := hwq.symm) | (go_at_call 126; refine (KC.out _ (by with_reducible exact M.out.drew) (by simpa using e0) (by simpa using lb)).mono ?_; rintro e w1 ⟨rfl, hm1, hg1⟩; have G1 := hide (grown_trans (grown_drew G0.out) hg1); have M1 := hide hm1; have RR := hide (RZ.out.drew.of_block (hg1.block w.heap.size (by simp; omega) (by simpa using hn4))); have s1 := hg1.size; have k2 : w1.cell? ⟨b, 2, none⟩ = some (.int .u64 g) := (cell_of_block (hg1.block b (by simpa using lb) (by simpa using h2)) 2).trans (by simpa using e2); have l2 : w.heap.size < w1.heap.size := (by simp only [World.size_drew] at s1; omega); obtain ⟨⟨r0, rf0⟩, ⟨r1, rf1⟩, ⟨r2, rf2⟩, ⟨r3, rf3⟩, ⟨r4, rf4⟩, r5, rf5⟩ := res_facts RR.out; simp only [Stp.val]; clear hm1 hg1))
  all_goals go_wp2_with fail
  all_goals go_light
  all_goals refine bodyPost_ret (v := x.val) ?res rfl ⟨rfl, ?mem, ?gro⟩
  case mem =>
    repeat (first | (with_reducible apply IsMem.alloc) | (with_reducible apply IsMem.drew) | ((with_reducible refine IsMem.setOther ?_ ?_ ?_ _); rotate_left; (simp; omega); (simp; omega)))
    with_reducible exact M1.out
  case gro =>
    repeat (with_reducible refine grown_setCell ?_ _ (.inr (Nat.le_refl _)) _)
    with_reducible exact G1.out
  case res => simp [results, Try.results130, go_sem, Stp.val, *]
set_option maxHeartbeats 4000000 in
theorem loadGrey_any {w : World} {b T nc bm bw n : Nat} {C : Nat → Value} {f f' : Nat → Int} {x : Stp} {hand : Int} (h : w.rowIs b T nc C) (hn : 2 < nc) (c0 : C 0 = .int .i64 hand) (hm : IsMem w bm bw n f) (h1 : b ≠ bm) (h2 : b ≠ bw)
    (hx : stepOf n f ⟨hand, 1, 2, 0, 0, true⟩ = x) (hf' : wordsOf n f ⟨hand, 1, 2, 0, 0, true⟩ = f') :
    Calls Try.prog 102 #[.pointer (some ⟨b, 0, none⟩), .pointer (some ⟨bm, 0, none⟩)] w fun e w' => e = .returned x.val ∧ w'.rowIs b T nc (fun i => if i = 2 then .int .u64 x.had else C i) ∧ IsMem w' bm bw n f' ∧ Touch w w' (fun k => k = b ∨ k = bw) := by
  have lw := hm.row.lt
  have lm := hm.head.lt
  have hl := h.lt
  have e0 := h.cell (i := 0) (by omega)
  rw [c0] at e0
  have hA := h.alloc (.cells #[.int .i64 0, .int .i64 0, .int .i64 0, .int .u64 0, .int .u64 0, .bool false] 63)
  have a0 := hA.cell (i := 0) (by omega)
  rw [c0] at a0
  have K0 := hide (load_any a0 hA.lt (hm.alloc (.cells #[.int .i64 0, .int .i64 0, .int .i64 0, .int .u64 0, .int .u64 0, .bool false] 63)) ⟨by show (0 : Int) ≤ 0; omega, by show (0 : Int) ≤ 18446744073709551615; omega⟩ hx hf')
  have RZ := hide (row0 w)
  have HH := hide hA
  clear hm hx hf' h hA a0
  go_enter Try.func102, Try.ntmps102
  go_wp2_with fail
  refine K0.out.mono ?_
  rintro e w1 ⟨rfl, hm1, hg1⟩
  simp only [Stp.val]
  have s1 := hg1.size
  simp only [World.size_alloc] at s1
  have RR := hide (RZ.out.of_block (hg1.block w.heap.size (by simp) (by simp; omega)))
  have RB := hide (HH.out.of_block (hg1.block b (by simp; omega) (by simpa using h2)))
  have M1 := hide hm1
  have T1 := hide (((Touch.refl w (fun k => k = b ∨ k = bw)).alloc (.cells #[.int .i64 0, .int .i64 0, .int .i64 0, .int .u64 0, .int .u64 0, .bool false] 63)).trans' (Touch.of_grown hg1) (fun k _ e => .inr (by simpa using e)))
  clear hm1 hg1 K0 RZ HH e0
  have l1 : b < w1.heap.size := by omega
  have l2 : w.heap.size < w1.heap.size := by omega
  obtain ⟨⟨r0, rf0⟩, ⟨r1, rf1⟩, ⟨r2, rf2⟩, ⟨r3, rf3⟩, ⟨r4, rf4⟩, r5, rf5⟩ := res_facts RR.out
  have d2 := RB.out.cell (i := 2) hn
  have df2 := RB.out.frozen 2
  have hne : b ≠ w.heap.size := by omega
  have hnm : bm ≠ w.heap.size ∧ bw ≠ w.heap.size := by omega
  go_wp2_with fail
  go_light
  refine bodyPost_ret (v := x.val) ?res rfl ⟨rfl, ?row, ?mem, ?tch⟩
  case row =>
    repeat (first | (with_reducible apply World.rowIs.alloc) | (with_reducible refine World.rowIs.setOther ?_ ?side _; case side => (simp; omega)))
    with_reducible refine World.rowIs.set ?_ 2 _
    repeat (first | (with_reducible apply World.rowIs.alloc) | (with_reducible refine World.rowIs.setOther ?_ ?side _; case side => (simp; omega)))
    with_reducible exact RB.out
  case mem =>
    repeat (first | (with_reducible apply IsMem.alloc) | ((with_reducible refine IsMem.setOther ?_ ?_ ?_ _); rotate_left; (simp; omega); (simp; omega)))
    with_reducible exact M1.out
  case tch =>
    repeat (first | (with_reducible apply Touch.alloc) | (with_reducible refine Touch.setCell ?_ _ ?side _; case side => (first | (simp; done) | (simp; omega))))
    with_reducible exact T1.out
  case res => simp [results, Try.results102, go_sem, Stp.val, *]
end Shd
end Go.Proofs.Ytnodkeoikamonaa
