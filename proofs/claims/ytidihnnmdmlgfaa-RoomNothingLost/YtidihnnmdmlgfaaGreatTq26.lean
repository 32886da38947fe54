/-
  Lemmas: HeapQ.
-/
import Derived.Test.YtidihnnmdmlgfaaGreatTq06
import Derived.Test.YtidihnnmdmlgfaaGreatTq15
import Derived.Test.YtidihnnmdmlgfaaGreatTq22
import Derived.Test.YtidihnnmdmlgfaaGreatTq25
namespace Go.Proofs.YtidihnnmdmlgfaaGreat
set_option maxHeartbeats 8000000
open Go.RowKit
set_option linter.unusedVariables false
set_option linter.unusedSimpArgs false
set_option maxRecDepth 20000
section
namespace Hp
theorem fieldS5 (w : World) (b : Nat) : (Instr.fieldAt 122 (.pointer (some ⟨b, 0, none⟩)) 5).run Tryz.prog w = .ok (.pointer (some ⟨b, 5, none⟩)) w := by simp [go_sem]
theorem aggI (w : World) : (isAgg 3).run Tryz.prog w = .ok false w := by simp [go_sem]
theorem aggU (w : World) : (isAgg 38).run Tryz.prog w = .ok false w := by simp [go_sem]
theorem call3 {ev : Operand → Value} {o : Oper} {w : World} {f : FuncId} {x0 x1 x2 : Operand} {ts : Array TypeId} {v0 v1 v2 : Value} (ho : o.op = Op.call { callee := Callee.value (Operand.func f), args := #[x0, x1, x2], argTypes := ts }) (h0 : ev x0 = v0) (h1 : ev x1 = v1) (h2 : ev x2 = v2) (hf : ev (Operand.func f) = .func (.func f) #[] #[]) (hcf : (callFunc f #[v0, v1, v2]).run Tryz.prog w = .ok (.enter f #[v0, v1, v2]) w) : (execOp ev o).run Tryz.prog w = .ok (.enter f #[v0, v1, v2]) w := by
  simp [execOp, ho, h0, h1, h2, hf, hcf, go_sem]
theorem SWcalls {b T nc : Nat} {C : Nat → Value} {bm bw n : Nat} {f f' : Nat → Int} {X : Stp} {r : Nat} {w0 : World} {fd : FuncId} {args : Array Value} {kc ia is : Nat} (hb : b ≠ bw) (hr : r ≠ bw) (n1 : ia ≠ kc) (n2 : is ≠ kc)
    (hc : ∀ w, w.rowIs b T nc C → IsMem w bm bw n f → Calls Tryz.prog fd args w fun e w' => e = .returned X.val ∧ IsMem w' bm bw n f' ∧ w.grownBy w' (some bw)) :
    ∀ (L : Nat → Bool) v w, RG.SW b T nc C bm bw n f f' X r w0 (L kc) (L ia) (L is) v w → L kc = false →
      Calls Tryz.prog fd args w fun e w' => e = .returned X.val ∧ RG.SW b T nc C bm bw n f f' X r w0 (upd L kc true kc) (upd L kc true ia) (upd L kc true is) v w' := by
  intro L v w h hL
  have hm := h.mem
  rw [hL, if_neg (by decide)] at hm
  refine (hc w h.row hm).mono ?_
  rintro e w' ⟨rfl, hm', hg⟩
  rw [upd_same, upd_other _ _ n1, upd_other _ _ n2]
  exact ⟨rfl, h.act hL hb hr hm' hg⟩
theorem cell_of_block {w w' : World} {b : Nat} (h : w'.heap[b]? = w.heap[b]?) (i : Nat) : w'.cell? ⟨b, i, none⟩ = w.cell? ⟨b, i, none⟩ := by simp only [World.cell?, h]
theorem sizeSh : (Tryz.prog.info? 23).map (·.size) = some 6 := by kernel_rfl
theorem rowSh : ∃ d, Tryz.prog.underlying 23 = some d ∧ d.isRow = true := by
  exact ⟨_, Tryz.underlying23, rfl⟩
theorem shrowAt {w : World} {b T nc o : Nat} {C : Nat → Value} {sh : Shp} (hn : o + 5 < nc) (h5 : C o = .int .i64 sh.a) (h6 : C (o + 1) = .int .i64 sh.b) (h7 : C (o + 2) = .int .i64 sh.c) (h8 : C (o + 3) = .int .i64 sh.d) (h9 : C (o + 4) = .int .i64 sh.e) (h10 : C (o + 5) = .int .i64 sh.f) (h : w.rowIs b T nc C) : w.rangeAt b o [.int .i64 sh.a, .int .i64 sh.b, .int .i64 sh.c, .int .i64 sh.d, .int .i64 sh.e, .int .i64 sh.f] := by
  intro j v hj
  have hj6 : j < 6 := (List.getElem?_eq_some_iff.1 hj).1
  rw [h.cell (i := o + j) (by omega)]
  match j, hj6 with
  | 0, _ => rw [Nat.add_zero, h5]; exact hj
  | 1, _ => rw [h6]; exact hj
  | 2, _ => rw [h7]; exact hj
  | 3, _ => rw [h8]; exact hj
  | 4, _ => rw [h9]; exact hj
  | 5, _ => rw [h10]; exact hj
theorem res_facts {w : World} {r : Nat} (h : w.rowIs r 122 6 zcell) : (w.cell? ⟨r, 0, none⟩ = some (.int .i64 0) ∧ w.frozen? ⟨r, 0, none⟩ = false) ∧ (w.cell? ⟨r, 1, none⟩ = some (.int .i64 0) ∧ w.frozen? ⟨r, 1, none⟩ = false) ∧ (w.cell? ⟨r, 2, none⟩ = some (.int .i64 0) ∧ w.frozen? ⟨r, 2, none⟩ = false) ∧ (w.cell? ⟨r, 3, none⟩ = some (.int .u64 0) ∧ w.frozen? ⟨r, 3, none⟩ = false) ∧ (w.cell? ⟨r, 4, none⟩ = some (.int .u64 0) ∧ w.frozen? ⟨r, 4, none⟩ = false) ∧ (w.cell? ⟨r, 5, none⟩ = some (.bool false) ∧ w.frozen? ⟨r, 5, none⟩ = false) :=
  ⟨⟨h.cell (i := 0) (by omega), h.frozen 0⟩, ⟨h.cell (i := 1) (by omega), h.frozen 1⟩, ⟨h.cell (i := 2) (by omega), h.frozen 2⟩, ⟨h.cell (i := 3) (by omega), h.frozen 3⟩, ⟨h.cell (i := 4) (by omega), h.frozen 4⟩, ⟨h.cell (i := 5) (by omega), h.frozen 5⟩⟩
theorem load_any {w : World} {b bm bw n : Nat} {f f' : Nat → Int} {x : Stp} {hand at_ : Int} (c0 : w.cell? ⟨b, 0, none⟩ = some (.int .i64 hand)) (hl : b < w.heap.size) (hm : IsMem w bm bw n f) (hp : 0 ≤ (⟨hand, 1, at_, 0, 0, true⟩ : Stp).put ∧ (⟨hand, 1, at_, 0, 0, true⟩ : Stp).put ≤ 18446744073709551615)
    (hx : stepOf n f ⟨hand, 1, at_, 0, 0, true⟩ = x) (hf' : wordsOf n f ⟨hand, 1, at_, 0, 0, true⟩ = f') :
    Calls Tryz.prog 67 #[.pointer (some ⟨b, 0, none⟩), .pointer (some ⟨bm, 0, none⟩), .int .i64 at_] w fun e w' => e = .returned x.val ∧ IsMem w' bm bw n f' ∧ w.grownBy w' (some bw) := by
  have lw := hm.row.lt
  have lm := hm.head.lt
  have K := do_mem (hm.alloc (.cells #[.int .i64 0, .int .i64 0, .int .i64 0, .int .u64 0, .int .u64 0, .bool false] 122)) ⟨hand, 1, at_, 0, 0, true⟩ hp
  rw [hx, hf'] at K
  have K0 := hide K
  have RW := hide (row0 w)
  clear hm hx hf' hp K
  go_enter Tryz.func67, Tryz.ntmps67
  go_wp2_with fail
  refine K0.out.mono ?_
  rintro e w1 ⟨rfl, hm1, hg1⟩
  simp only [Stp.val]
  have s1 := hg1.size
  simp only [World.size_alloc] at s1
  have RR := hide (RW.out.of_block (hg1.block w.heap.size (by simp) (by simp; omega)))
  have M1 := hide hm1
  have G1 := hide (grown_trans (grown_alloc (grown_refl w (some bw)) (.cells #[.int .i64 0, .int .i64 0, .int .i64 0, .int .u64 0, .int .u64 0, .bool false] 122)) hg1)
  clear hm1 hg1 K0 RW
  have l2 : w.heap.size < w1.heap.size := by omega
  obtain ⟨⟨r0, rf0⟩, ⟨r1, rf1⟩, ⟨r2, rf2⟩, ⟨r3, rf3⟩, ⟨r4, rf4⟩, r5, rf5⟩ := res_facts RR.out
  go_wp2_with fail
  go_light
  refine bodyPost_ret (v := x.val) ?res rfl ⟨rfl, ?mem, ?gro⟩
  case mem =>
    repeat (first | (with_reducible apply IsMem.alloc) | (with_reducible apply IsMem.drew) | ((with_reducible refine IsMem.setOther ?_ ?_ ?_ _); rotate_left; (simp; omega); (simp; omega)))
    with_reducible exact M1.out
  case gro =>
    repeat (with_reducible refine grown_setCell ?_ _ (.inr (Nat.le_refl _)) _)
    with_reducible exact G1.out
  case res => simp [results, Tryz.results67, go_sem, Stp.val, *]
theorem cas_any {w : World} {b bm bw n : Nat} {f f' : Nat → Int} {x : Stp} {hand at_ old v : Int} (c0 : w.cell? ⟨b, 0, none⟩ = some (.int .i64 hand)) (hl : b < w.heap.size) (hm : IsMem w bm bw n f) (hp : 0 ≤ (⟨hand, 5, at_, old, v, true⟩ : Stp).put ∧ (⟨hand, 5, at_, old, v, true⟩ : Stp).put ≤ 18446744073709551615)
    (hx : stepOf n f ⟨hand, 5, at_, old, v, true⟩ = x) (hf' : wordsOf n f ⟨hand, 5, at_, old, v, true⟩ = f') :
    Calls Tryz.prog 100 #[.pointer (some ⟨b, 0, none⟩), .pointer (some ⟨bm, 0, none⟩), .int .i64 at_, .int .u64 old, .int .u64 v] w fun e w' => e = .returned x.val ∧ IsMem w' bm bw n f' ∧ w.grownBy w' (some bw) := by
  have lw := hm.row.lt
  have lm := hm.head.lt
  have K := do_mem (hm.alloc (.cells #[.int .i64 0, .int .i64 0, .int .i64 0, .int .u64 0, .int .u64 0, .bool false] 122)) ⟨hand, 5, at_, old, v, true⟩ hp
  rw [hx, hf'] at K
  have K0 := hide K
  have RW := hide (row0 w)
  clear hm hx hf' hp K
  go_enter Tryz.func100, Tryz.ntmps100
  go_wp2_with fail
  refine K0.out.mono ?_
  rintro e w1 ⟨rfl, hm1, hg1⟩
  simp only [Stp.val]
  have s1 := hg1.size
  simp only [World.size_alloc] at s1
  have RR := hide (RW.out.of_block (hg1.block w.heap.size (by simp) (by simp; omega)))
  have M1 := hide hm1
  have G1 := hide (grown_trans (grown_alloc (grown_refl w (some bw)) (.cells #[.int .i64 0, .int .i64 0, .int .i64 0, .int .u64 0, .int .u64 0, .bool false] 122)) hg1)
  clear hm1 hg1 K0 RW
  have l2 : w.heap.size < w1.heap.size := by omega
  obtain ⟨⟨r0, rf0⟩, ⟨r1, rf1⟩, ⟨r2, rf2⟩, ⟨r3, rf3⟩, ⟨r4, rf4⟩, r5, rf5⟩ := res_facts RR.out
  go_wp2_with fail
  go_light
  refine bodyPost_ret (v := x.val) ?res rfl ⟨rfl, ?mem, ?gro⟩
  case mem =>
    repeat (first | (with_reducible apply IsMem.alloc) | (with_reducible apply IsMem.drew) | ((with_reducible refine IsMem.setOther ?_ ?_ ?_ _); rotate_left; (simp; omega); (simp; omega)))
    with_reducible exact M1.out
  case gro =>
    repeat (with_reducible refine grown_setCell ?_ _ (.inr (Nat.le_refl _)) _)
    with_reducible exact G1.out
  case res => simp [results, Tryz.results100, go_sem, Stp.val, *]
theorem store_any {w : World} {b bm bw n : Nat} {f f' : Nat → Int} {x : Stp} {hand at_ v : Int} (c0 : w.cell? ⟨b, 0, none⟩ = some (.int .i64 hand)) (hl : b < w.heap.size) (hm : IsMem w bm bw n f) (hp : 0 ≤ (⟨hand, 2, at_, 0, v, true⟩ : Stp).put ∧ (⟨hand, 2, at_, 0, v, true⟩ : Stp).put ≤ 18446744073709551615)
    (hx : stepOf n f ⟨hand, 2, at_, 0, v, true⟩ = x) (hf' : wordsOf n f ⟨hand, 2, at_, 0, v, true⟩ = f') :
    Calls Tryz.prog 74 #[.pointer (some ⟨b, 0, none⟩), .pointer (some ⟨bm, 0, none⟩), .int .i64 at_, .int .u64 v] w fun e w' => e = .returned x.val ∧ IsMem w' bm bw n f' ∧ w.grownBy w' (some bw) := by
  have lw := hm.row.lt
  have lm := hm.head.lt
  have K := do_mem (hm.alloc (.cells #[.int .i64 0, .int .i64 0, .int .i64 0, .int .u64 0, .int .u64 0, .bool false] 122)) ⟨hand, 2, at_, 0, v, true⟩ hp
  rw [hx, hf'] at K
  have K0 := hide K
  have RW := hide (row0 w)
  clear hm hx hf' hp K
  go_enter Tryz.func74, Tryz.ntmps74
  go_wp2_with fail
  refine K0.out.mono ?_
  rintro e w1 ⟨rfl, hm1, hg1⟩
  simp only [Stp.val]
  have s1 := hg1.size
  simp only [World.size_alloc] at s1
  have RR := hide (RW.out.of_block (hg1.block w.heap.size (by simp) (by simp; omega)))
  have M1 := hide hm1
  have G1 := hide (grown_trans (grown_alloc (grown_refl w (some bw)) (.cells #[.int .i64 0, .int .i64 0, .int .i64 0, .int .u64 0, .int .u64 0, .bool false] 122)) hg1)
  clear hm1 hg1 K0 RW
  have l2 : w.heap.size < w1.heap.size := by omega
  obtain ⟨⟨r0, rf0⟩, ⟨r1, rf1⟩, ⟨r2, rf2⟩, ⟨r3, rf3⟩, ⟨r4, rf4⟩, r5, rf5⟩ := res_facts RR.out
  go_wp2_with fail
  go_light
  refine bodyPost_ret (v := x.val) ?res rfl ⟨rfl, ?mem, ?gro⟩
  case mem =>
    repeat (first | (with_reducible apply IsMem.alloc) | (with_reducible apply IsMem.drew) | ((with_reducible refine IsMem.setOther ?_ ?_ ?_ _); rotate_left; (simp; omega); (simp; omega)))
    with_reducible exact M1.out
  case gro =>
    repeat (with_reducible refine grown_setCell ?_ _ (.inr (Nat.le_refl _)) _)
    with_reducible exact G1.out
  case res => simp [results, Tryz.results74, go_sem, Stp.val, *]
theorem add_any {w : World} {b bm bw n : Nat} {f f' : Nat → Int} {x : Stp} {hand at_ v : Int} (c0 : w.cell? ⟨b, 0, none⟩ = some (.int .i64 hand)) (hl : b < w.heap.size) (hm : IsMem w bm bw n f) (hp : 0 ≤ (⟨hand, 4, at_, 0, v, true⟩ : Stp).put ∧ (⟨hand, 4, at_, 0, v, true⟩ : Stp).put ≤ 18446744073709551615)
    (hx : stepOf n f ⟨hand, 4, at_, 0, v, true⟩ = x) (hf' : wordsOf n f ⟨hand, 4, at_, 0, v, true⟩ = f') :
    Calls Tryz.prog 97 #[.pointer (some ⟨b, 0, none⟩), .pointer (some ⟨bm, 0, none⟩), .int .i64 at_, .int .u64 v] w fun e w' => e = .returned x.val ∧ IsMem w' bm bw n f' ∧ w.grownBy w' (some bw) := by
  have lw := hm.row.lt
  have lm := hm.head.lt
  have K := do_mem (hm.alloc (.cells #[.int .i64 0, .int .i64 0, .int .i64 0, .int .u64 0, .int .u64 0, .bool false] 122)) ⟨hand, 4, at_, 0, v, true⟩ hp
  rw [hx, hf'] at K
  have K0 := hide K
  have RW := hide (row0 w)
  clear hm hx hf' hp K
  go_enter Tryz.func97, Tryz.ntmps97
  go_wp2_with fail
  refine K0.out.mono ?_
  rintro e w1 ⟨rfl, hm1, hg1⟩
  simp only [Stp.val]
  have s1 := hg1.size
  simp only [World.size_alloc] at s1
  have RR := hide (RW.out.of_block (hg1.block w.heap.size (by simp) (by simp; omega)))
  have M1 := hide hm1
  have G1 := hide (grown_trans (grown_alloc (grown_refl w (some bw)) (.cells #[.int .i64 0, .int .i64 0, .int .i64 0, .int .u64 0, .int .u64 0, .bool false] 122)) hg1)
  clear hm1 hg1 K0 RW
  have l2 : w.heap.size < w1.heap.size := by omega
  obtain ⟨⟨r0, rf0⟩, ⟨r1, rf1⟩, ⟨r2, rf2⟩, ⟨r3, rf3⟩, ⟨r4, rf4⟩, r5, rf5⟩ := res_facts RR.out
  go_wp2_with fail
  go_light
  refine bodyPost_ret (v := x.val) ?res rfl ⟨rfl, ?mem, ?gro⟩
  case mem =>
    repeat (first | (with_reducible apply IsMem.alloc) | (with_reducible apply IsMem.drew) | ((with_reducible refine IsMem.setOther ?_ ?_ ?_ _); rotate_left; (simp; omega); (simp; omega)))
    with_reducible exact M1.out
  case gro =>
    repeat (with_reducible refine grown_setCell ?_ _ (.inr (Nat.le_refl _)) _)
    with_reducible exact G1.out
  case res => simp [results, Tryz.results97, go_sem, Stp.val, *]
theorem goOn_any {w : World} {b T nc : Nat} {C : Nat → Value} (F : FuncId) (h : w.rowIs b T nc C) (hn : 1 < nc) :
    Calls Tryz.prog 56 #[.pointer (some ⟨b, 0, none⟩), .func (.func F) #[.pointer (some ⟨b, 0, none⟩)] #[]] w fun e w' => e = .returned (.int .i64 0) ∧ w'.rowIs b T nc (fun i => if i = 1 then .func (.func F) #[.pointer (some ⟨b, 0, none⟩)] #[] else C i) ∧ Touch w w' (fun k => k = b) := by
  have c1 := h.cell (i := 1) hn
  have f1 := h.frozen 1
  have hl := h.lt
  have R := hide (h.set 1 (.func (.func F) #[.pointer (some ⟨b, 0, none⟩)] #[]))
  have T0 := hide ((Touch.refl w (fun k => k = b)).setCell ⟨b, 1, none⟩ (.inl rfl) (.func (.func F) #[.pointer (some ⟨b, 0, none⟩)] #[]))
  have rs : ∀ w1 : World, (store ⟨b, 1, none⟩ (.func (.func F) #[.pointer (some ⟨b, 0, none⟩)] #[])).run Tryz.prog w1 = stored Tryz.prog w1 ⟨b, 1, none⟩ (.func (.func F) #[.pointer (some ⟨b, 0, none⟩)] #[]) .plain := fun w1 => run_store Tryz.prog w1 _ _ _ rfl
  clear h
  go_enter Tryz.func56, Tryz.ntmps56
  go_wp2_with fail
  go_ret
  exact ⟨rfl, R.out, T0.out⟩
theorem refuse_any (p : Value) (w : World) : Calls Tryz.prog 55 #[p] w fun e w' => e = .returned (.int .i64 1) ∧ w' = w := by
  go_enter Tryz.func55, Tryz.ntmps55
  go_wp2_with fail
  go_ret
  exact ⟨rfl, rfl⟩
theorem aggB (w : World) : (isAgg 4).run Tryz.prog w = .ok false w := by simp [go_sem]
theorem ex_not {ev : Operand → Value} {o : Oper} {w : World} {x : Operand} {v : Bool} (ho : o.op = .unOp .not 4 x) (hx : ev x = .bool v) : (execOp ev o).run Tryz.prog w = .ok (.value (.bool (!v))) w := by
  simp [execOp, ho, hx, go_sem]
theorem ex_eqm {ev : Operand → Value} {o : Oper} {w : World} {x y : Operand} {v c : Int} {r : Bool} (ho : o.op = .binOp .eql 3 x y 3) (hx : ev x = .int .i64 v) (hy : ev y = .int .i64 c) (hr : (v == c) = r) : (execOp ev o).run Tryz.prog w = .ok (.value (.bool r)) w := by
  subst hr
  simp [execOp, ho, hx, hy, go_sem]
theorem stp6 {w : World} {q : Nat} {x : Stp} (h : w.rangeAt q 0 x.cells) : w.cell? ⟨q, 0, none⟩ = some (.int .i64 x.hand) ∧ w.cell? ⟨q, 1, none⟩ = some (.int .i64 x.act) ∧ w.cell? ⟨q, 2, none⟩ = some (.int .i64 x.at_) ∧ w.cell? ⟨q, 3, none⟩ = some (.int .u64 x.had) ∧ w.cell? ⟨q, 4, none⟩ = some (.int .u64 x.put) ∧ w.cell? ⟨q, 5, none⟩ = some (.bool x.ok) :=
  ⟨by simpa using h 0 _ rfl, by simpa using h 1 _ rfl, by simpa using h 2 _ rfl, by simpa using h 3 _ rfl, by simpa using h 4 _ rfl, by simpa using h 5 _ rfl⟩
theorem SWq {b T nc : Nat} {C : Nat → Value} {bm bw n : Nat} {f f' : Nat → Int} {X : Stp} {r : Nat} {w0 w w' : World} {c al st : Bool} {v : Value} (h : RG.SW b T nc C bm bw n f f' X r w0 c al st v w) (hb : Below w.heap.size w w') : RG.SW b T nc C bm bw n f f' X r w0 c al st v w' :=
  ⟨h.row.of_block (hb.block _ h.row.lt), ⟨h.mem.head.of_block (hb.block _ h.mem.head.lt), h.mem.row.of_block (hb.block _ h.mem.row.lt), h.mem.most, h.mem.word⟩, h.res.of_block (hb.block _ h.res.lt), h.tch.trans' (S' := fun _ => False) ⟨hb.os, hb.tape, hb.output, hb.size, fun k hk _ => hb.block k hk⟩ (fun _ _ e => e.elim), h.lts, fun ha => by obtain ⟨q, e, h1, h2, h3, h4⟩ := h.own ha; exact ⟨q, e, h1, Nat.lt_of_lt_of_le h2 hb.size, fun e => (h3 e).of_block (hb.block _ h2), fun e => rangeAt_block (h4 e) (hb.block _ h2)⟩, h.dep⟩
theorem SXq {b T nc : Nat} {C : Bool → Bool → Nat → Value} {bm bw n : Nat} {f f' : Nat → Int} {X : Stp} {r : Nat} {q : Option Nat} {w0 w w' : World} {c g st : Bool} (h : RG.SX b T nc C bm bw n f f' X r q w0 c g st w) (hb : Below w.heap.size w w') : RG.SX b T nc C bm bw n f f' X r q w0 c g st w' :=
  h.turn (S := fun _ => False) (h.row.of_block (hb.block _ h.row.lt)) ⟨h.mem.head.of_block (hb.block _ h.mem.head.lt), h.mem.row.of_block (hb.block _ h.mem.row.lt), h.mem.most, h.mem.word⟩ ⟨hb.os, hb.tape, hb.output, hb.size, fun k hk _ => hb.block k hk⟩ (fun k e => e.elim)
structure SQ (b T nc : Nat) (C : Nat → Value) (w0 w : World) : Prop where
  row : w.rowIs b T nc C
  bel : Below w0.heap.size w0 w
theorem SQ.start {b T nc : Nat} {C : Nat → Value} {w0 : World} (h : w0.rowIs b T nc C) : SQ b T nc C w0 { w0 with drawn := w0.drawn + 1 } := ⟨h.drew, (Below.refl _ w0).drew⟩
theorem SQq {b T nc : Nat} {C : Nat → Value} {w0 w w' : World} (h : SQ b T nc C w0 w) (hb : Below w.heap.size w w') : SQ b T nc C w0 w' := ⟨h.row.of_block (hb.block _ h.row.lt), h.bel.trans (hb.mono h.bel.size)⟩
theorem row_act {w : World} {b T nc bm bw n : Nat} {C : Nat → Value} {f' : Nat → Int} {x : Stp} {fd : FuncId} {args : Array Value} (h : w.rowIs b T nc C) (h2 : b ≠ bw) (hc : Calls Tryz.prog fd args w fun e w' => e = .returned x.val ∧ IsMem w' bm bw n f' ∧ w.grownBy w' (some bw)) :
    Calls Tryz.prog fd args w fun e w' => e = .returned x.val ∧ w'.rowIs b T nc C ∧ IsMem w' bm bw n f' ∧ Touch w w' (fun k => k = b ∨ k = bw) := by
  refine hc.mono ?_
  rintro e w' ⟨rfl, a1, a2⟩
  exact ⟨rfl, h.of_block (a2.block b h.lt (by simpa using h2)), a1, (Touch.refl w _).trans' (Touch.of_grown a2) (fun k _ e => .inr (by simpa using e))⟩
theorem fieldLs0 (w : World) (b : Nat) : (Instr.fieldAt 132 (.pointer (some ⟨b, 0, none⟩)) 0).run Tryz.prog w = .ok (.pointer (some ⟨b, 0, none⟩)) w := by simp [go_sem]
theorem fieldLs1 (w : World) (b : Nat) : (Instr.fieldAt 132 (.pointer (some ⟨b, 0, none⟩)) 1).run Tryz.prog w = .ok (.pointer (some ⟨b, 6, none⟩)) w := by simp [go_sem]
theorem end_any {w : World} {b T nc : Nat} {C : Nat → Value} {i : Int} (hi : 0 ≤ i ∧ i ≤ 18446744073709551615) (h : w.rowIs b T nc C) (hn : 5 < nc) :
    Calls Tryz.prog 90 #[.pointer (some ⟨b, 0, none⟩), .int .u64 i] w fun e w' => e = .returned (.int .i64 1) ∧ w'.rowIs b T nc (fun k => if k = 5 then .int .u64 i else if k = 4 then .bool true else C k) ∧ Touch w w' (fun k => k = b) := by
  have c3 := h.cell (i := 4) (by omega)
  have f3 := h.frozen 4
  have c4 := h.cell (i := 5) (by omega)
  have f4 := h.frozen 5
  have hl := h.lt
  have R := hide ((h.set 4 (.bool true)).set 5 (.int .u64 i))
  have T0 := hide (((Touch.refl w (fun k => k = b)).setCell ⟨b, 4, none⟩ (.inl rfl) (.bool true)).setCell ⟨b, 5, none⟩ (.inl rfl) (.int .u64 i))
  have g1 : IntKind.u64.wrap i = i := by rw [IntKind.wrap_u64]; omega
  clear h
  go_enter Tryz.func90, Tryz.ntmps90
  go_wp2_with fail
  go_ret
  exact ⟨rfl, R.out, T0.out⟩
theorem first_any {w : World} {b : Nat} {g : Int} (c2 : w.cell? ⟨b, 7, none⟩ = some (.int .u64 g)) (hl : b < w.heap.size) (hg : 0 ≤ g ∧ g ≤ 18446744073709551615) :
    Calls Tryz.prog 65 #[.pointer (some ⟨b, 0, none⟩)] w fun e w' => e = .returned (.int .i64 (idx g)) ∧ w' = w := by
  have IX := hide (fun w1 : World => index_any g hg.1 (by omega) w1)
  clear hg
  go_enter Tryz.func65, Tryz.ntmps65
  go_wp2_with fail
  refine (IX.out _).mono ?_
  rintro e w1 ⟨rfl, rfl⟩
  go_wp2_with fail
  go_ret
  exact ⟨rfl, rfl⟩
end Hp
end
end Go.Proofs.YtidihnnmdmlgfaaGreat
