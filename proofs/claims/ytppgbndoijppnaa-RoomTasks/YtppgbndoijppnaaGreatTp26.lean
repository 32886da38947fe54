/-
  Lemmas: HeapQ, RGB, ListA, ListB, VsF, VsO.
-/
import Derived.Test.YtppgbndoijppnaaGreatTp06
import Derived.Test.YtppgbndoijppnaaGreatTp15
import Derived.Test.YtppgbndoijppnaaGreatTp22
import Derived.Test.YtppgbndoijppnaaGreatTp25
import Derived.Test.YtppgbndoijppnaaGreatTp13
namespace Go.Proofs.YtppgbndoijppnaaGreat
set_option maxHeartbeats 8000000
open Go.RowKit
set_option linter.unusedVariables false
set_option linter.unusedSimpArgs false
set_option linter.unnecessarySimpa false
set_option maxRecDepth 20000
section
namespace Hp
theorem aggI (w : World) : (isAgg 3).run Tryz.prog w = .ok false w := by simp [go_sem]
theorem aggU (w : World) : (isAgg 50).run Tryz.prog w = .ok false w := by simp [go_sem]
theorem call3 {ev : Operand → Value} {o : Oper} {w : World} {f : FuncId} {x0 x1 x2 : Operand} {ts : Array TypeId} {v0 v1 v2 : Value} (ho : o.op = Op.call { callee := Callee.value (Operand.func f), args := #[x0, x1, x2], argTypes := ts }) (h0 : ev x0 = v0) (h1 : ev x1 = v1) (h2 : ev x2 = v2) (hf : ev (Operand.func f) = .func (.func f) #[] #[]) (hcf : (callFunc f #[v0, v1, v2]).run Tryz.prog w = .ok (.enter f #[v0, v1, v2]) w) : (execOp ev o).run Tryz.prog w = .ok (.enter f #[v0, v1, v2]) w := by
 simp [execOp, ho, h0, h1, h2, hf, hcf, go_sem]
theorem SWcalls {b T nc : Nat} {C : Nat → Value} {bm bw n : Nat} {f f' : Nat → Int} {X : Stp} {r : Nat} {w0 : World} {fd : FuncId} {args : Array Value} {kc ia is : Nat} (hb : b ≠ bw) (hr : r ≠ bw) (n1 : ia ≠ kc) (n2 : is ≠ kc)
  (hc : ∀ w, w.rowIs b T nc C → IsMem w bm bw n f → Calls Tryz.prog fd args w fun e w' => e = .returned X.val ∧ IsMem w' bm bw n f' ∧ w.grownBy w' (some bw)) :
  ∀ (L : Nat → Bool) v w, RG.SW b T nc C bm bw n f f' X r w0 (L kc) (L ia) (L is) v w → L kc = false →
   Calls Tryz.prog fd args w fun e w' => e = .returned X.val ∧ RG.SW b T nc C bm bw n f f' X r w0 (upd L kc true kc) (upd L kc true ia) (upd L kc true is) v w' := by
 intro L v w h hL
 have hm := h.mem
 rw [hL, if_neg (by decide)] at hm
 refine (hc w h.row hm).mono ?_
 rintro e w' ⟨rfl, hm', hg⟩
 rw [upd_same, upd_other _ _ n1, upd_other _ _ n2]
 exact ⟨rfl, h.act hL hb hr hm' hg⟩
theorem cell_of_block {w w' : World} {b : Nat} (h : w'.heap[b]? = w.heap[b]?) (i : Nat) : w'.cell? ⟨b, i, none⟩ = w.cell? ⟨b, i, none⟩ := by simp only [World.cell?, h]
theorem sizeSh : (Tryz.prog.info? 23).map (·.size) = some 6 := by kernel_rfl
theorem rowSh : ∃ d, Tryz.prog.underlying 23 = some d ∧ d.isRow = true := by
 exact ⟨_, Tryz.underlying23, rfl⟩
theorem shrowAt {w : World} {b T nc o : Nat} {C : Nat → Value} {sh : Shp} (hn : o + 5 < nc) (h5 : C o = .int .i64 sh.a) (h6 : C (o + 1) = .int .i64 sh.b) (h7 : C (o + 2) = .int .i64 sh.c) (h8 : C (o + 3) = .int .i64 sh.d) (h9 : C (o + 4) = .int .i64 sh.e) (h10 : C (o + 5) = .int .i64 sh.f) (h : w.rowIs b T nc C) : w.rangeAt b o [.int .i64 sh.a, .int .i64 sh.b, .int .i64 sh.c, .int .i64 sh.d, .int .i64 sh.e, .int .i64 sh.f] := by
 intro j v hj
 have hj6 : j < 6 := (List.getElem?_eq_some_iff.1 hj).1
 rw [h.cell (i := o + j) (by omega)]
 match j, hj6 with
 | 0, _ => rw [Nat.add_zero, h5]; exact hj
 | 1, _ => rw [h6]; exact hj
 | 2, _ => rw [h7]; exact hj
 | 3, _ => rw [h8]; exact hj
 | 4, _ => rw [h9]; exact hj
 | 5, _ => rw [h10]; exact hj
theorem res_facts {w : World} {r : Nat} (h : w.rowIs r 69 6 zcell) : (w.cell? ⟨r, 0, none⟩ = some (.int .i64 0) ∧ w.frozen? ⟨r, 0, none⟩ = false) ∧ (w.cell? ⟨r, 1, none⟩ = some (.int .i64 0) ∧ w.frozen? ⟨r, 1, none⟩ = false) ∧ (w.cell? ⟨r, 2, none⟩ = some (.int .i64 0) ∧ w.frozen? ⟨r, 2, none⟩ = false) ∧ (w.cell? ⟨r, 3, none⟩ = some (.int .u64 0) ∧ w.frozen? ⟨r, 3, none⟩ = false) ∧ (w.cell? ⟨r, 4, none⟩ = some (.int .u64 0) ∧ w.frozen? ⟨r, 4, none⟩ = false) ∧ (w.cell? ⟨r, 5, none⟩ = some (.bool false) ∧ w.frozen? ⟨r, 5, none⟩ = false) :=
 ⟨⟨h.cell (i := 0) (by omega), h.frozen 0⟩, ⟨h.cell (i := 1) (by omega), h.frozen 1⟩, ⟨h.cell (i := 2) (by omega), h.frozen 2⟩, ⟨h.cell (i := 3) (by omega), h.frozen 3⟩, ⟨h.cell (i := 4) (by omega), h.frozen 4⟩, ⟨h.cell (i := 5) (by omega), h.frozen 5⟩⟩
theorem load_any {w : World} {b bm bw n : Nat} {f f' : Nat → Int} {x : Stp} {hand at_ : Int} (c0 : w.cell? ⟨b, 0, none⟩ = some (.int .i64 hand)) (hl : b < w.heap.size) (hm : IsMem w bm bw n f) (hp : 0 ≤ (⟨hand, 1, at_, 0, 0, true⟩ : Stp).put ∧ (⟨hand, 1, at_, 0, 0, true⟩ : Stp).put ≤ 18446744073709551615)
  (hx : stepOf n f ⟨hand, 1, at_, 0, 0, true⟩ = x) (hf' : wordsOf n f ⟨hand, 1, at_, 0, 0, true⟩ = f') :
  Calls Tryz.prog 97 #[.pointer (some ⟨b, 0, none⟩), .pointer (some ⟨bm, 0, none⟩), .int .i64 at_] w fun e w' => e = .returned x.val ∧ IsMem w' bm bw n f' ∧ w.grownBy w' (some bw) := by
 have lw := hm.row.lt
 have lm := hm.head.lt
 have K := do_mem (hm.alloc (.cells #[.int .i64 0, .int .i64 0, .int .i64 0, .int .u64 0, .int .u64 0, .bool false] 69)) ⟨hand, 1, at_, 0, 0, true⟩ hp
 rw [hx, hf'] at K
 have K0 := hide K
 have RW := hide (row0 w)
 clear hm hx hf' hp K
 go_enter Tryz.func97, Tryz.ntmps97
 go_wp2_with fail
 refine K0.out.mono ?_
 rintro e w1 ⟨rfl, hm1, hg1⟩
 simp only [Stp.val]
 have s1 := hg1.size
 simp only [World.size_alloc] at s1
 have RR := hide (RW.out.of_block (hg1.block w.heap.size (by simp) (by simp; omega)))
 have M1 := hide hm1
 have G1 := hide (grown_trans (grown_alloc (grown_refl w (some bw)) (.cells #[.int .i64 0, .int .i64 0, .int .i64 0, .int .u64 0, .int .u64 0, .bool false] 69)) hg1)
 clear hm1 hg1 K0 RW
 have l2 : w.heap.size < w1.heap.size := by omega
 obtain ⟨⟨r0, rf0⟩, ⟨r1, rf1⟩, ⟨r2, rf2⟩, ⟨r3, rf3⟩, ⟨r4, rf4⟩, r5, rf5⟩ := res_facts RR.out
 go_wp2_with fail
 go_light
 refine bodyPost_ret (v := x.val) ?res rfl ⟨rfl, ?mem, ?gro⟩
 case mem =>
  repeat (first | (with_reducible apply IsMem.alloc) | (with_reducible apply IsMem.drew) | ((with_reducible refine IsMem.setOther ?_ ?_ ?_ _); rotate_left; (simp; omega); (simp; omega)))
  with_reducible exact M1.out
 case gro =>
  repeat (with_reducible refine grown_setCell ?_ _ (.inr (Nat.le_refl _)) _)
  with_reducible exact G1.out
 case res => simp [results, Tryz.results97, go_sem, Stp.val, *]
theorem cas_any {w : World} {b bm bw n : Nat} {f f' : Nat → Int} {x : Stp} {hand at_ old v : Int} (c0 : w.cell? ⟨b, 0, none⟩ = some (.int .i64 hand)) (hl : b < w.heap.size) (hm : IsMem w bm bw n f) (hp : 0 ≤ (⟨hand, 5, at_, old, v, true⟩ : Stp).put ∧ (⟨hand, 5, at_, old, v, true⟩ : Stp).put ≤ 18446744073709551615)
  (hx : stepOf n f ⟨hand, 5, at_, old, v, true⟩ = x) (hf' : wordsOf n f ⟨hand, 5, at_, old, v, true⟩ = f') :
  Calls Tryz.prog 139 #[.pointer (some ⟨b, 0, none⟩), .pointer (some ⟨bm, 0, none⟩), .int .i64 at_, .int .u64 old, .int .u64 v] w fun e w' => e = .returned x.val ∧ IsMem w' bm bw n f' ∧ w.grownBy w' (some bw) := by
 have lw := hm.row.lt
 have lm := hm.head.lt
 have K := do_mem (hm.alloc (.cells #[.int .i64 0, .int .i64 0, .int .i64 0, .int .u64 0, .int .u64 0, .bool false] 69)) ⟨hand, 5, at_, old, v, true⟩ hp
 rw [hx, hf'] at K
 have K0 := hide K
 have RW := hide (row0 w)
 clear hm hx hf' hp K
 go_enter Tryz.func139, Tryz.ntmps139
 go_wp2_with fail
 refine K0.out.mono ?_
 rintro e w1 ⟨rfl, hm1, hg1⟩
 simp only [Stp.val]
 have s1 := hg1.size
 simp only [World.size_alloc] at s1
 have RR := hide (RW.out.of_block (hg1.block w.heap.size (by simp) (by simp; omega)))
 have M1 := hide hm1
 have G1 := hide (grown_trans (grown_alloc (grown_refl w (some bw)) (.cells #[.int .i64 0, .int .i64 0, .int .i64 0, .int .u64 0, .int .u64 0, .bool false] 69)) hg1)
 clear hm1 hg1 K0 RW
 have l2 : w.heap.size < w1.heap.size := by omega
 obtain ⟨⟨r0, rf0⟩, ⟨r1, rf1⟩, ⟨r2, rf2⟩, ⟨r3, rf3⟩, ⟨r4, rf4⟩, r5, rf5⟩ := res_facts RR.out
 go_wp2_with fail
 go_light
 refine bodyPost_ret (v := x.val) ?res rfl ⟨rfl, ?mem, ?gro⟩
 case mem =>
  repeat (first | (with_reducible apply IsMem.alloc) | (with_reducible apply IsMem.drew) | ((with_reducible refine IsMem.setOther ?_ ?_ ?_ _); rotate_left; (simp; omega); (simp; omega)))
  with_reducible exact M1.out
 case gro =>
  repeat (with_reducible refine grown_setCell ?_ _ (.inr (Nat.le_refl _)) _)
  with_reducible exact G1.out
 case res => simp [results, Tryz.results139, go_sem, Stp.val, *]
theorem store_any {w : World} {b bm bw n : Nat} {f f' : Nat → Int} {x : Stp} {hand at_ v : Int} (c0 : w.cell? ⟨b, 0, none⟩ = some (.int .i64 hand)) (hl : b < w.heap.size) (hm : IsMem w bm bw n f) (hp : 0 ≤ (⟨hand, 2, at_, 0, v, true⟩ : Stp).put ∧ (⟨hand, 2, at_, 0, v, true⟩ : Stp).put ≤ 18446744073709551615)
  (hx : stepOf n f ⟨hand, 2, at_, 0, v, true⟩ = x) (hf' : wordsOf n f ⟨hand, 2, at_, 0, v, true⟩ = f') :
  Calls Tryz.prog 104 #[.pointer (some ⟨b, 0, none⟩), .pointer (some ⟨bm, 0, none⟩), .int .i64 at_, .int .u64 v] w fun e w' => e = .returned x.val ∧ IsMem w' bm bw n f' ∧ w.grownBy w' (some bw) := by
 have lw := hm.row.lt
 have lm := hm.head.lt
 have K := do_mem (hm.alloc (.cells #[.int .i64 0, .int .i64 0, .int .i64 0, .int .u64 0, .int .u64 0, .bool false] 69)) ⟨hand, 2, at_, 0, v, true⟩ hp
 rw [hx, hf'] at K
 have K0 := hide K
 have RW := hide (row0 w)
 clear hm hx hf' hp K
 go_enter Tryz.func104, Tryz.ntmps104
 go_wp2_with fail
 refine K0.out.mono ?_
 rintro e w1 ⟨rfl, hm1, hg1⟩
 simp only [Stp.val]
 have s1 := hg1.size
 simp only [World.size_alloc] at s1
 have RR := hide (RW.out.of_block (hg1.block w.heap.size (by simp) (by simp; omega)))
 have M1 := hide hm1
 have G1 := hide (grown_trans (grown_alloc (grown_refl w (some bw)) (.cells #[.int .i64 0, .int .i64 0, .int .i64 0, .int .u64 0, .int .u64 0, .bool false] 69)) hg1)
 clear hm1 hg1 K0 RW
 have l2 : w.heap.size < w1.heap.size := by omega
 obtain ⟨⟨r0, rf0⟩, ⟨r1, rf1⟩, ⟨r2, rf2⟩, ⟨r3, rf3⟩, ⟨r4, rf4⟩, r5, rf5⟩ := res_facts RR.out
 go_wp2_with fail
 go_light
 refine bodyPost_ret (v := x.val) ?res rfl ⟨rfl, ?mem, ?gro⟩
 case mem =>
  repeat (first | (with_reducible apply IsMem.alloc) | (with_reducible apply IsMem.drew) | ((with_reducible refine IsMem.setOther ?_ ?_ ?_ _); rotate_left; (simp; omega); (simp; omega)))
  with_reducible exact M1.out
 case gro =>
  repeat (with_reducible refine grown_setCell ?_ _ (.inr (Nat.le_refl _)) _)
  with_reducible exact G1.out
 case res => simp [results, Tryz.results104, go_sem, Stp.val, *]
theorem add_any {w : World} {b bm bw n : Nat} {f f' : Nat → Int} {x : Stp} {hand at_ v : Int} (c0 : w.cell? ⟨b, 0, none⟩ = some (.int .i64 hand)) (hl : b < w.heap.size) (hm : IsMem w bm bw n f) (hp : 0 ≤ (⟨hand, 4, at_, 0, v, true⟩ : Stp).put ∧ (⟨hand, 4, at_, 0, v, true⟩ : Stp).put ≤ 18446744073709551615)
  (hx : stepOf n f ⟨hand, 4, at_, 0, v, true⟩ = x) (hf' : wordsOf n f ⟨hand, 4, at_, 0, v, true⟩ = f') :
  Calls Tryz.prog 136 #[.pointer (some ⟨b, 0, none⟩), .pointer (some ⟨bm, 0, none⟩), .int .i64 at_, .int .u64 v] w fun e w' => e = .returned x.val ∧ IsMem w' bm bw n f' ∧ w.grownBy w' (some bw) := by
 have lw := hm.row.lt
 have lm := hm.head.lt
 have K := do_mem (hm.alloc (.cells #[.int .i64 0, .int .i64 0, .int .i64 0, .int .u64 0, .int .u64 0, .bool false] 69)) ⟨hand, 4, at_, 0, v, true⟩ hp
 rw [hx, hf'] at K
 have K0 := hide K
 have RW := hide (row0 w)
 clear hm hx hf' hp K
 go_enter Tryz.func136, Tryz.ntmps136
 go_wp2_with fail
 refine K0.out.mono ?_
 rintro e w1 ⟨rfl, hm1, hg1⟩
 simp only [Stp.val]
 have s1 := hg1.size
 simp only [World.size_alloc] at s1
 have RR := hide (RW.out.of_block (hg1.block w.heap.size (by simp) (by simp; omega)))
 have M1 := hide hm1
 have G1 := hide (grown_trans (grown_alloc (grown_refl w (some bw)) (.cells #[.int .i64 0, .int .i64 0, .int .i64 0, .int .u64 0, .int .u64 0, .bool false] 69)) hg1)
 clear hm1 hg1 K0 RW
 have l2 : w.heap.size < w1.heap.size := by omega
 obtain ⟨⟨r0, rf0⟩, ⟨r1, rf1⟩, ⟨r2, rf2⟩, ⟨r3, rf3⟩, ⟨r4, rf4⟩, r5, rf5⟩ := res_facts RR.out
 go_wp2_with fail
 go_light
 refine bodyPost_ret (v := x.val) ?res rfl ⟨rfl, ?mem, ?gro⟩
 case mem =>
  repeat (first | (with_reducible apply IsMem.alloc) | (with_reducible apply IsMem.drew) | ((with_reducible refine IsMem.setOther ?_ ?_ ?_ _); rotate_left; (simp; omega); (simp; omega)))
  with_reducible exact M1.out
 case gro =>
  repeat (with_reducible refine grown_setCell ?_ _ (.inr (Nat.le_refl _)) _)
  with_reducible exact G1.out
 case res => simp [results, Tryz.results136, go_sem, Stp.val, *]
theorem goOn_any {w : World} {b T nc : Nat} {C : Nat → Value} (F : FuncId) (h : w.rowIs b T nc C) (hn : 1 < nc) :
  Calls Tryz.prog 65 #[.pointer (some ⟨b, 0, none⟩), .func (.func F) #[.pointer (some ⟨b, 0, none⟩)] #[]] w fun e w' => e = .returned (.int .i64 0) ∧ w'.rowIs b T nc (fun i => if i = 1 then .func (.func F) #[.pointer (some ⟨b, 0, none⟩)] #[] else C i) ∧ Touch w w' (fun k => k = b) := by
 have c1 := h.cell (i := 1) hn
 have f1 := h.frozen 1
 have hl := h.lt
 have R := hide (h.set 1 (.func (.func F) #[.pointer (some ⟨b, 0, none⟩)] #[]))
 have T0 := hide ((Touch.refl w (fun k => k = b)).setCell ⟨b, 1, none⟩ (.inl rfl) (.func (.func F) #[.pointer (some ⟨b, 0, none⟩)] #[]))
 have rs : ∀ w1 : World, (store ⟨b, 1, none⟩ (.func (.func F) #[.pointer (some ⟨b, 0, none⟩)] #[])).run Tryz.prog w1 = stored Tryz.prog w1 ⟨b, 1, none⟩ (.func (.func F) #[.pointer (some ⟨b, 0, none⟩)] #[]) .plain := fun w1 => run_store Tryz.prog w1 _ _ _ rfl
 clear h
 go_enter Tryz.func65, Tryz.ntmps65
 go_wp2_with fail
 go_ret
 exact ⟨rfl, R.out, T0.out⟩
theorem refuse_any (p : Value) (w : World) : Calls Tryz.prog 64 #[p] w fun e w' => e = .returned (.int .i64 1) ∧ w' = w := by
 go_enter Tryz.func64, Tryz.ntmps64
 go_wp2_with fail
 go_ret
 exact ⟨rfl, rfl⟩
theorem aggB (w : World) : (isAgg 4).run Tryz.prog w = .ok false w := by simp [go_sem]
theorem ex_not {ev : Operand → Value} {o : Oper} {w : World} {x : Operand} {v : Bool} (ho : o.op = .unOp .not 4 x) (hx : ev x = .bool v) : (execOp ev o).run Tryz.prog w = .ok (.value (.bool (!v))) w := by
 simp [execOp, ho, hx, go_sem]
theorem ex_eqm {ev : Operand → Value} {o : Oper} {w : World} {x y : Operand} {v c : Int} {r : Bool} (ho : o.op = .binOp .eql 3 x y 3) (hx : ev x = .int .i64 v) (hy : ev y = .int .i64 c) (hr : (v == c) = r) : (execOp ev o).run Tryz.prog w = .ok (.value (.bool r)) w := by
 subst hr
 simp [execOp, ho, hx, hy, go_sem]
theorem stp6 {w : World} {q : Nat} {x : Stp} (h : w.rangeAt q 0 x.cells) : w.cell? ⟨q, 0, none⟩ = some (.int .i64 x.hand) ∧ w.cell? ⟨q, 1, none⟩ = some (.int .i64 x.act) ∧ w.cell? ⟨q, 2, none⟩ = some (.int .i64 x.at_) ∧ w.cell? ⟨q, 3, none⟩ = some (.int .u64 x.had) ∧ w.cell? ⟨q, 4, none⟩ = some (.int .u64 x.put) ∧ w.cell? ⟨q, 5, none⟩ = some (.bool x.ok) :=
 ⟨by simpa using h 0 _ rfl, by simpa using h 1 _ rfl, by simpa using h 2 _ rfl, by simpa using h 3 _ rfl, by simpa using h 4 _ rfl, by simpa using h 5 _ rfl⟩
theorem SWq {b T nc : Nat} {C : Nat → Value} {bm bw n : Nat} {f f' : Nat → Int} {X : Stp} {r : Nat} {w0 w w' : World} {c al st : Bool} {v : Value} (h : RG.SW b T nc C bm bw n f f' X r w0 c al st v w) (hb : Below w.heap.size w w') : RG.SW b T nc C bm bw n f f' X r w0 c al st v w' :=
 ⟨h.row.of_block (hb.block _ h.row.lt), ⟨h.mem.head.of_block (hb.block _ h.mem.head.lt), h.mem.row.of_block (hb.block _ h.mem.row.lt), h.mem.most, h.mem.word⟩, h.res.of_block (hb.block _ h.res.lt), h.tch.trans' (S' := fun _ => False) ⟨hb.os, hb.tape, hb.output, hb.size, fun k hk _ => hb.block k hk⟩ (fun _ _ e => e.elim), h.lts, fun ha => by obtain ⟨q, e, h1, h2, h3, h4⟩ := h.own ha; exact ⟨q, e, h1, Nat.lt_of_lt_of_le h2 hb.size, fun e => (h3 e).of_block (hb.block _ h2), fun e => rangeAt_block (h4 e) (hb.block _ h2)⟩, h.dep⟩
theorem SXq {b T nc : Nat} {C : Bool → Bool → Nat → Value} {bm bw n : Nat} {f f' : Nat → Int} {X : Stp} {r : Nat} {q : Option Nat} {w0 w w' : World} {c g st : Bool} (h : RG.SX b T nc C bm bw n f f' X r q w0 c g st w) (hb : Below w.heap.size w w') : RG.SX b T nc C bm bw n f f' X r q w0 c g st w' :=
 h.turn (S := fun _ => False) (h.row.of_block (hb.block _ h.row.lt)) ⟨h.mem.head.of_block (hb.block _ h.mem.head.lt), h.mem.row.of_block (hb.block _ h.mem.row.lt), h.mem.most, h.mem.word⟩ ⟨hb.os, hb.tape, hb.output, hb.size, fun k hk _ => hb.block k hk⟩ (fun k e => e.elim)
structure SQ (b T nc : Nat) (C : Nat → Value) (w0 w : World) : Prop where
 row : w.rowIs b T nc C
 bel : Below w0.heap.size w0 w
theorem SQ.start {b T nc : Nat} {C : Nat → Value} {w0 : World} (h : w0.rowIs b T nc C) : SQ b T nc C w0 { w0 with drawn := w0.drawn + 1 } := ⟨h.drew, (Below.refl _ w0).drew⟩
theorem SQq {b T nc : Nat} {C : Nat → Value} {w0 w w' : World} (h : SQ b T nc C w0 w) (hb : Below w.heap.size w w') : SQ b T nc C w0 w' := ⟨h.row.of_block (hb.block _ h.row.lt), h.bel.trans (hb.mono h.bel.size)⟩
theorem row_act {w : World} {b T nc bm bw n : Nat} {C : Nat → Value} {f' : Nat → Int} {x : Stp} {fd : FuncId} {args : Array Value} (h : w.rowIs b T nc C) (h2 : b ≠ bw) (hc : Calls Tryz.prog fd args w fun e w' => e = .returned x.val ∧ IsMem w' bm bw n f' ∧ w.grownBy w' (some bw)) :
  Calls Tryz.prog fd args w fun e w' => e = .returned x.val ∧ w'.rowIs b T nc C ∧ IsMem w' bm bw n f' ∧ Touch w w' (fun k => k = b ∨ k = bw) := by
 refine hc.mono ?_
 rintro e w' ⟨rfl, a1, a2⟩
 exact ⟨rfl, h.of_block (a2.block b h.lt (by simpa using h2)), a1, (Touch.refl w _).trans' (Touch.of_grown a2) (fun k _ e => .inr (by simpa using e))⟩
theorem fieldLs0 (w : World) (b : Nat) : (Instr.fieldAt 148 (.pointer (some ⟨b, 0, none⟩)) 0).run Tryz.prog w = .ok (.pointer (some ⟨b, 0, none⟩)) w := by simp [go_sem]
theorem fieldLs1 (w : World) (b : Nat) : (Instr.fieldAt 148 (.pointer (some ⟨b, 0, none⟩)) 1).run Tryz.prog w = .ok (.pointer (some ⟨b, 6, none⟩)) w := by simp [go_sem]
theorem end_any {w : World} {b T nc : Nat} {C : Nat → Value} {i : Int} (hi : 0 ≤ i ∧ i ≤ 18446744073709551615) (h : w.rowIs b T nc C) (hn : 5 < nc) :
  Calls Tryz.prog 129 #[.pointer (some ⟨b, 0, none⟩), .int .u64 i] w fun e w' => e = .returned (.int .i64 1) ∧ w'.rowIs b T nc (fun k => if k = 5 then .int .u64 i else if k = 4 then .bool true else C k) ∧ Touch w w' (fun k => k = b) := by
 have c3 := h.cell (i := 4) (by omega)
 have f3 := h.frozen 4
 have c4 := h.cell (i := 5) (by omega)
 have f4 := h.frozen 5
 have hl := h.lt
 have R := hide ((h.set 4 (.bool true)).set 5 (.int .u64 i))
 have T0 := hide (((Touch.refl w (fun k => k = b)).setCell ⟨b, 4, none⟩ (.inl rfl) (.bool true)).setCell ⟨b, 5, none⟩ (.inl rfl) (.int .u64 i))
 have g1 : IntKind.u64.wrap i = i := by rw [IntKind.wrap_u64]; omega
 clear h
 go_enter Tryz.func129, Tryz.ntmps129
 go_wp2_with fail
 go_ret
 exact ⟨rfl, R.out, T0.out⟩
theorem first_any {w : World} {b : Nat} {g : Int} (c2 : w.cell? ⟨b, 7, none⟩ = some (.int .u64 g)) (hl : b < w.heap.size) (hg : 0 ≤ g ∧ g ≤ 18446744073709551615) :
  Calls Tryz.prog 95 #[.pointer (some ⟨b, 0, none⟩)] w fun e w' => e = .returned (.int .i64 (idx g)) ∧ w' = w := by
 have IX := hide (fun w1 : World => index_any g hg.1 (by omega) w1)
 clear hg
 go_enter Tryz.func95, Tryz.ntmps95
 go_wp2_with fail
 refine (IX.out _).mono ?_
 rintro e w1 ⟨rfl, rfl⟩
 go_wp2_with fail
 go_ret
 exact ⟨rfl, rfl⟩
end Hp
end
section
namespace RG
def opAt (ops : Array Oper) (i : Nat) : Oper := ops[i]?.getD ⟨none, .move (.tmp 0), 0, "", #[], none⟩
def backB (ops : Array Oper) : Bool := (List.range ops.size).all fun i => (opAt ops i).after.all fun e => !(Region.binds .any e) || decide (e.on < i)
def okB (n : Nat) (ops : Array Oper) : Bool := ops.size == n && (ops.all fun o => o.guard.isNone) && backB ops
theorem opAt_of {ops : Array Oper} {i : Nat} {o : Oper} (h : ops[i]? = some o) : opAt ops i = o := by unfold opAt; rw [h]; rfl
theorem regionB {P : Program} {id : Nat} {ops : Array Oper} {Q : Exit → Act → World → Prop} {ks : List (Nat × Nat)} {vals : Nat → Value} {x : Nat} {WI : (Nat → Bool) → Value → World → Prop} {w0 : World} {a0 : Act} (n : Nat)
  (hm : P.follows .mixedOrders = true) (hk : okB n ops = true)
  (hgood : (ks.all fun p => (ks.all fun q => p.1 == q.1 || p.2 != q.2) && p.2 != x) = true) (hD : (ks.all fun p => decide (p.2 < a0.tmps.size)) = true) (hx : decide (x < a0.tmps.size) = true) (hW0 : WI (fun _ => false) (a0.eval (.tmp x)) { w0 with drawn := w0.drawn + 1 })
  (does : ∀ (i : Nat) (o : Oper), ops[i]? = some o → Does P Q ks vals x WI a0 i o)
  (fin : ∀ L a w, In ks vals x WI a0 L a w → (∀ i, i < ops.size → L i = true) → Q .normal a w) :
  (Code.region id ops true).wp P Q a0 w0 := by
 simp only [okB, Bool.and_eq_true, beq_iff_eq] at hk
 obtain ⟨⟨hn, hg⟩, hb⟩ := hk
 refine region hm ?_ ?_ hgood ?_ (of_decide_eq_true hx) hW0 does fin
 ·intro i o ho
  obtain ⟨h, e⟩ := Array.getElem?_eq_some_iff.1 ho
  have := Array.all_eq_true.1 hg i h
  rw [e] at this
  simpa using this
 ·intro i o ho e he hbd
  have hi := (Array.getElem?_eq_some_iff.1 ho).1
  have h1 := List.all_eq_true.1 hb i (List.mem_range.2 hi)
  simp only [opAt_of ho] at h1
  obtain ⟨q, hq, e2⟩ := Array.mem_iff_getElem.1 he
  have h2 := Array.all_eq_true.1 h1 q hq
  rw [e2, hbd] at h2
  simpa using h2
 ·intro k hk
  simp only [RetN.D, List.any_eq_true, beq_iff_eq] at hk
  obtain ⟨p, hp, rfl⟩ := hk
  exact of_decide_eq_true (List.all_eq_true.1 hD p hp)
theorem lt_of {ops : Array Oper} {i n : Nat} {o : Oper} (h : ops[i]? = some o) (hn : ops.size = n) : i < n := hn ▸ (Array.getElem?_eq_some_iff.1 h).1
theorem In.fx {ks : List (Nat × Nat)} {vals : Nat → Value} {x : Nat} {WI : (Nat → Bool) → Value → World → Prop} {a0 : Act} {L : Nat → Bool} {a : Act} {w : World} (hI : In ks vals x WI a0 L a w) (k : Nat) (h : ((ks.any fun p => p.2 == k) || k == x) = false) : a.eval (.tmp k) = a0.eval (.tmp k) := by
 simp only [Bool.or_eq_false_iff] at h
 exact hI.fix k (Reg.notD h.1) (by simpa using h.2)
section
variable {P : Program} {Q : Exit → Act → World → Prop} {ks : List (Nat × Nat)} {vals : Nat → Value} {x : Nat} {a0 : Act} {i : Nat} {o : Oper} {b T nc bm bw n r : Nat} {f f' : Nat → Int} {X : Stp} {w0 : World}
theorem rW {C : Nat → Value} {kc ia is : Nat} (hd : o.dst = Reg.look ks i) (hn : (kc == i || ia == i || is == i) = false) (h : ∀ L a w, In ks vals x (fun L v w' => SW b T nc C bm bw n f f' X r w0 (L kc) (L ia) (L is) v w') a0 L a w → (∀ e ∈ o.after, Region.binds .any e = true → L e.on = true) → (execOp a.eval o).run P w = .ok (.value (vals i)) w) : Does P Q ks vals x (fun L v w' => SW b T nc C bm bw n f f' X r w0 (L kc) (L ia) (L is) v w') a0 i o :=
 Does.read hd (fun L v w h => by simp only [Bool.or_eq_false_iff, beq_eq_false_iff_ne] at hn; exact SW.skip hn.1.1 hn.1.2 hn.2 h) h
theorem rX {C : Bool → Bool → Nat → Value} {q : Option Nat} {kc ia is : Nat} (hd : o.dst = Reg.look ks i) (hn : (kc == i || ia == i || is == i) = false) (h : ∀ L a w, In ks vals x (fun L v w' => SX b T nc C bm bw n f f' X r q w0 (L kc) (L ia) (L is) w') a0 L a w → (∀ e ∈ o.after, Region.binds .any e = true → L e.on = true) → (execOp a.eval o).run P w = .ok (.value (vals i)) w) : Does P Q ks vals x (fun L v w' => SX b T nc C bm bw n f f' X r q w0 (L kc) (L ia) (L is) w') a0 i o :=
 Does.read hd (fun L v w h => by simp only [Bool.or_eq_false_iff, beq_eq_false_iff_ne] at hn; exact SX.skip hn.1.1 hn.1.2 hn.2 h) h
theorem rX2 {C : Bool → Bool → Nat → Value} {q : Option Nat} {c : Bool} {ia is : Nat} (hd : o.dst = Reg.look ks i) (hn : (ia == i || is == i) = false) (h : ∀ L a w, In ks vals x (fun L v w' => SX b T nc C bm bw n f f' X r q w0 c (L ia) (L is) w') a0 L a w → (∀ e ∈ o.after, Region.binds .any e = true → L e.on = true) → (execOp a.eval o).run P w = .ok (.value (vals i)) w) : Does P Q ks vals x (fun L v w' => SX b T nc C bm bw n f f' X r q w0 c (L ia) (L is) w') a0 i o :=
 Does.read hd (fun L v w h => by simp only [Bool.or_eq_false_iff, beq_eq_false_iff_ne] at hn; exact SX.skip2 hn.1 hn.2 h) h
end
end RG
end
section
namespace Ls
open Hp
def lC (hand : Int) (fn v2 v3 : Value) (t : Ans) (lst g ix bh : Int) : Nat → Value := fun k => match k with | 0 => .int .i64 hand | 1 => fn | 2 => v2 | 3 => v3 | 4 => .bool t.ok | 5 => .int .u64 t.val | 6 => .int .i64 lst | 7 => .int .u64 g | 8 => .int .i64 ix | _ => .int .i64 bh
def dC (sh : Shp) (hand : Int) (fn v2 v3 : Value) (t : Ans) (lst g bl : Int) : Nat → Value := fun k => match k with | 0 => .int .i64 hand | 1 => fn | 2 => v2 | 3 => v3 | 4 => .bool t.ok | 5 => .int .u64 t.val | 6 => .int .i64 lst | 7 => .int .u64 g | 8 => .int .i64 sh.a | 9 => .int .i64 sh.b | 10 => .int .i64 sh.c | 11 => .int .i64 sh.d | 12 => .int .i64 sh.e | 13 => .int .i64 sh.f | _ => .int .i64 bl
theorem fieldL0 (w : World) (b : Nat) : (Instr.fieldAt 200 (.pointer (some ⟨b, 0, none⟩)) 0).run Tryz.prog w = .ok (.pointer (some ⟨b, 0, none⟩)) w := by simp [go_sem]
theorem fieldL1 (w : World) (b : Nat) : (Instr.fieldAt 200 (.pointer (some ⟨b, 0, none⟩)) 1).run Tryz.prog w = .ok (.pointer (some ⟨b, 8, none⟩)) w := by simp [go_sem]
theorem fieldL2 (w : World) (b : Nat) : (Instr.fieldAt 200 (.pointer (some ⟨b, 0, none⟩)) 2).run Tryz.prog w = .ok (.pointer (some ⟨b, 9, none⟩)) w := by simp [go_sem]
theorem l_fn (hand : Int) (fn v2 v3 : Value) (t : Ans) (lst g : Int) (ix bh : Int) (y : Value) (k : Nat) (hk : k < 10) : (fun k => if k = 1 then y else lC hand fn v2 v3 t lst g ix bh k) k = lC hand y v2 v3 t lst g ix bh k := by
 match k, hk with
 | 0, _ | 1, _ | 2, _ | 3, _ | 4, _ | 5, _ | 6, _ | 7, _ | 8, _ | 9, _ => rfl
theorem l_g (hand : Int) (fn v2 v3 : Value) (t : Ans) (lst g : Int) (ix bh : Int) (y : Int) (k : Nat) (hk : k < 10) : (fun k => if k = 7 then Value.int .u64 y else lC hand fn v2 v3 t lst g ix bh k) k = lC hand fn v2 v3 t lst y ix bh k := by
 match k, hk with
 | 0, _ | 1, _ | 2, _ | 3, _ | 4, _ | 5, _ | 6, _ | 7, _ | 8, _ | 9, _ => rfl
theorem l_told (hand : Int) (fn v2 v3 : Value) (t : Ans) (lst g : Int) (ix bh : Int) (y : Int) (k : Nat) (hk : k < 10) : (fun k => if k = 5 then Value.int .u64 y else if k = 4 then .bool true else lC hand fn v2 v3 t lst g ix bh k) k = lC hand fn v2 v3 ⟨true, y⟩ lst g ix bh k := by
 match k, hk with
 | 0, _ | 1, _ | 2, _ | 3, _ | 4, _ | 5, _ | 6, _ | 7, _ | 8, _ | 9, _ => rfl
theorem fieldD0 (w : World) (b : Nat) : (Instr.fieldAt 150 (.pointer (some ⟨b, 0, none⟩)) 0).run Tryz.prog w = .ok (.pointer (some ⟨b, 0, none⟩)) w := by simp [go_sem]
theorem fieldD1 (w : World) (b : Nat) : (Instr.fieldAt 150 (.pointer (some ⟨b, 0, none⟩)) 1).run Tryz.prog w = .ok (.pointer (some ⟨b, 8, none⟩)) w := by simp [go_sem]
theorem fieldD2 (w : World) (b : Nat) : (Instr.fieldAt 150 (.pointer (some ⟨b, 0, none⟩)) 2).run Tryz.prog w = .ok (.pointer (some ⟨b, 14, none⟩)) w := by simp [go_sem]
theorem d_fn (sh : Shp) (hand : Int) (fn v2 v3 : Value) (t : Ans) (lst g : Int) (bl : Int) (y : Value) (k : Nat) (hk : k < 15) : (fun k => if k = 1 then y else dC sh hand fn v2 v3 t lst g bl k) k = dC sh hand y v2 v3 t lst g bl k := by
 match k, hk with
 | 0, _ | 1, _ | 2, _ | 3, _ | 4, _ | 5, _ | 6, _ | 7, _ | 8, _ | 9, _ | 10, _ | 11, _ | 12, _ | 13, _ | 14, _ => rfl
theorem d_g (sh : Shp) (hand : Int) (fn v2 v3 : Value) (t : Ans) (lst g : Int) (bl : Int) (y : Int) (k : Nat) (hk : k < 15) : (fun k => if k = 7 then Value.int .u64 y else dC sh hand fn v2 v3 t lst g bl k) k = dC sh hand fn v2 v3 t lst y bl k := by
 match k, hk with
 | 0, _ | 1, _ | 2, _ | 3, _ | 4, _ | 5, _ | 6, _ | 7, _ | 8, _ | 9, _ | 10, _ | 11, _ | 12, _ | 13, _ | 14, _ => rfl
theorem d_bl (sh : Shp) (hand : Int) (fn v2 v3 : Value) (t : Ans) (lst g : Int) (bl : Int) (y : Int) (k : Nat) (hk : k < 15) : (fun k => if k = 14 then Value.int .i64 y else dC sh hand fn v2 v3 t lst g bl k) k = dC sh hand fn v2 v3 t lst g y k := by
 match k, hk with
 | 0, _ | 1, _ | 2, _ | 3, _ | 4, _ | 5, _ | 6, _ | 7, _ | 8, _ | 9, _ | 10, _ | 11, _ | 12, _ | 13, _ | 14, _ => rfl
theorem d_told (sh : Shp) (hand : Int) (fn v2 v3 : Value) (t : Ans) (lst g : Int) (bl : Int) (y : Int) (k : Nat) (hk : k < 15) : (fun k => if k = 5 then Value.int .u64 y else if k = 4 then .bool true else dC sh hand fn v2 v3 t lst g bl k) k = dC sh hand fn v2 v3 ⟨true, y⟩ lst g bl k := by
 match k, hk with
 | 0, _ | 1, _ | 2, _ | 3, _ | 4, _ | 5, _ | 6, _ | 7, _ | 8, _ | 9, _ | 10, _ | 11, _ | 12, _ | 13, _ | 14, _ => rfl
theorem turnHead_any {w : World} {b bm bw n : Nat} {f f' : Nat → Int} {x : Stp} {hand at_ g i : Int} (c0 : w.cell? ⟨b, 0, none⟩ = some (.int .i64 hand)) (c6 : w.cell? ⟨b, 6, none⟩ = some (.int .i64 at_)) (c7 : w.cell? ⟨b, 7, none⟩ = some (.int .u64 g)) (hl : b < w.heap.size) (h2 : b ≠ bw) (hg : 0 ≤ g ∧ g ≤ 18446744073709551615) (hm : IsMem w bm bw n f) (hx : stepOf n f ⟨hand, 5, at_, g, bmp g i, true⟩ = x) (hf' : wordsOf n f ⟨hand, 5, at_, g, bmp g i, true⟩ = f') :
  Calls Tryz.prog 128 #[.pointer (some ⟨b, 0, none⟩), .pointer (some ⟨bm, 0, none⟩), .int .i64 i] w fun e w' => e = .returned x.val ∧ IsMem w' bm bw n f' ∧ w.grownBy w' (some bw) := by
 have lw := hm.row.lt
 have lm := hm.head.lt
 have KC := hide (fun (w1 : World) (h1 : IsMem w1 bm bw n f) (h2 : w1.cell? ⟨b, 0, none⟩ = some (.int .i64 hand)) (h3 : b < w1.heap.size) => cas_any h2 h3 h1 ⟨bmp_lo g i, bmp_hi g i⟩ hx hf')
 have BP := hide (fun w1 : World => bump_any g i hg.1 (by omega) w1)
 obtain ⟨W1, hW1⟩ : ∃ W1, w.alloc (.cells #[.int .i64 0, .int .i64 0, .int .i64 0, .int .u64 0, .int .u64 0, .bool false] 69) = W1 := ⟨_, rfl⟩
 have RZ := hide (show W1.rowIs w.heap.size 69 6 zcell from by rw [← hW1]; exact row0 w)
 have M := hide (show IsMem W1 bm bw n f from by rw [← hW1]; exact hm.alloc _)
 have B0 : Below w.heap.size w W1 := by rw [← hW1]; exact (Below.refl _ w).alloc (Nat.le_refl _) _
 have e0 : W1.cell? ⟨b, 0, none⟩ = some (.int .i64 hand) := (B0.cell (p := ⟨b, 0, none⟩) hl).trans c0
 have e6 : W1.cell? ⟨b, 6, none⟩ = some (.int .i64 at_) := (B0.cell (p := ⟨b, 6, none⟩) hl).trans c6
 have e7 : W1.cell? ⟨b, 7, none⟩ = some (.int .u64 g) := (B0.cell (p := ⟨b, 7, none⟩) hl).trans c7
 clear B0
 have sz : W1.heap.size = w.heap.size + 1 := by rw [← hW1]; simp
 have lb : b < W1.heap.size := by omega
 have G0 := hide (show w.grownBy W1 (some bw) from by rw [← hW1]; exact grown_alloc (grown_refl w (some bw)) _)
 clear hm hx hf' hg
 go_enter Tryz.func128, Tryz.ntmps128
 go_wp2_with fail
 clear hW1 c0 c6 c7
 have hn4 : w.heap.size ≠ bw := by omega
 have hn3 : w.heap.size ≠ b := by omega
 have hn6 : b ≠ w.heap.size := by omega
 have hn7 : bm ≠ w.heap.size := by omega
 have hn8 : bw ≠ w.heap.size := by omega
 go_region_held (fun w' => w'.cell? ⟨b, 6, none⟩ = some (.int .i64 at_) ∧ w'.cell? ⟨b, 7, none⟩ = some (.int .u64 g)) (go_keep) (first | (go_at_call 140; refine (BP.out _).mono ?_; rintro e wq ⟨rfl, hwq⟩; obtain rfl := hwq.symm) | (go_at_call 139; refine (KC.out _ (by with_reducible exact M.out.drew) (by simpa using e0) (by simpa using lb)).mono ?_; rintro e w1 ⟨rfl, hm1, hg1⟩; have G1 := hide (grown_trans (grown_drew G0.out) hg1); have M1 := hide hm1; have RR := hide (RZ.out.drew.of_block (hg1.block w.heap.size (by simp; omega) (by simpa using hn4))); have s1 := hg1.size; have k6 : w1.cell? ⟨b, 6, none⟩ = some (.int .i64 at_) := (cell_of_block (hg1.block b (by simpa using lb) (by simpa using h2)) 6).trans (by simpa using e6); have k7 : w1.cell? ⟨b, 7, none⟩ = some (.int .u64 g) := (cell_of_block (hg1.block b (by simpa using lb) (by simpa using h2)) 7).trans (by simpa using e7); have l2 : w.heap.size < w1.heap.size := (by simp only [World.size_drew] at s1; omega); obtain ⟨⟨r0, rf0⟩, ⟨r1, rf1⟩, ⟨r2, rf2⟩, ⟨r3, rf3⟩, ⟨r4, rf4⟩, r5, rf5⟩ := res_facts RR.out; simp only [Stp.val]; clear hm1 hg1))
 all_goals go_wp2_with fail
 all_goals go_light
 all_goals refine bodyPost_ret (v := x.val) ?res rfl ⟨rfl, ?mem, ?gro⟩
 case mem =>
  repeat (first | (with_reducible apply IsMem.alloc) | (with_reducible apply IsMem.drew) | ((with_reducible refine IsMem.setOther ?_ ?_ ?_ _); rotate_left; (simp; omega); (simp; omega)))
  with_reducible exact M1.out
 case gro =>
  repeat (with_reducible refine grown_setCell ?_ _ (.inr (Nat.le_refl _)) _)
  with_reducible exact G1.out
 case res => simp [results, Tryz.results128, go_sem, Stp.val, *]
theorem l_loadHead {w : World} {b bm bw n : Nat} {f f' : Nat → Int} {x : Stp} {hand : Int} {fn v2 v3 : Value} {t : Ans} {lst g : Int} {ix bh : Int} (h_ : w.rowIs b 200 10 (lC hand fn v2 v3 t lst g ix bh)) (hm : IsMem w bm bw n f) (h1 : b ≠ bm) (h2 : b ≠ bw)
  (hx : stepOf n f (⟨hand, 1, lst, 0, 0, true⟩ : Stp) = x) (hf' : wordsOf n f (⟨hand, 1, lst, 0, 0, true⟩ : Stp) = f') :
  Calls Tryz.prog 94 #[.pointer (some ⟨b, 0, none⟩), .pointer (some ⟨bm, 0, none⟩)] w fun e w' => e = .returned x.val ∧
   w'.rowIs b 200 10 (lC hand fn v2 v3 t lst x.had ix bh) ∧ IsMem w' bm bw n f' ∧ Touch w w' (fun k => k = b ∨ k = bw) := by
 have hl := h_.lt
 have lw := hm.row.lt
 have lm := hm.head.lt
 have hn3 : w.heap.size ≠ b := by omega
 have hn4 : w.heap.size ≠ bw := by omega
 have hn5 : w.heap.size ≠ bm := by omega
 obtain ⟨W1, hW1⟩ : ∃ W1, w.alloc (.cells #[.int .i64 0, .int .i64 0, .int .i64 0, .int .u64 0, .int .u64 0, .bool false] 69) = W1 := ⟨_, rfl⟩
 have R := hide (show W1.rowIs b 200 10 (lC hand fn v2 v3 t lst g ix bh) from by rw [← hW1]; exact h_.alloc _)
 have M := hide (show IsMem W1 bm bw n f from by rw [← hW1]; exact hm.alloc _)
 have RZ := hide (show W1.rowIs w.heap.size 69 6 zcell from by rw [← hW1]; exact row0 w)
 have T0 := hide (show Touch w W1 (fun k => k = b ∨ k = bw) from by rw [← hW1]; exact (Touch.refl w _).alloc _)
 have sz : W1.heap.size = w.heap.size + 1 := by rw [← hW1]; simp
 have lW1 : b < W1.heap.size := by omega
 obtain ⟨dS, hdS1, hdS2⟩ := row46
 have HD := hide (And.intro hdS1 hdS2)
 obtain ⟨dG, hdG1, hdG2⟩ := rowSh
 have HDS := hide (And.intro hdG1 hdG2)
 have HX := hide hx
 have HF := hide hf'
 have HW : Hid (0 ≤ ((⟨hand, 1, lst, 0, 0, true⟩ : Stp) : Stp).put ∧ ((⟨hand, 1, lst, 0, 0, true⟩ : Stp) : Stp).put ≤ 18446744073709551615) := ⟨by show (0 : Int) ≤ 0; omega, by show (0 : Int) ≤ 18446744073709551615; omega⟩
 clear hm h_ hx hf' hdS1 hdS2 hdG1 hdG2
 go_enter Tryz.func94, Tryz.ntmps94
 go_wp2_with fail
 clear hW1
 refine RG.regionB 11 (ks := [(0, 6), (1, 7), (2, 8), (3, 9), (4, 10), (5, 11), (6, 12), (7, 13), (8, 14)]) (vals := fun i => match i with
   | 0 => .pointer (some ⟨b, 0, none⟩)
   | 1 => .pointer (some ⟨b, 0, none⟩)
   | 2 => .pointer (some ⟨b, 0, none⟩)
   | 3 => .pointer (some ⟨bm, 0, none⟩)
   | 4 => .pointer (some ⟨b, 0, none⟩)
   | 5 => .pointer (some ⟨b, 0, none⟩)
   | 6 => .pointer (some ⟨b, 6, none⟩)
   | 7 => .int .i64 lst
   | 8 => x.val
   | _ => undef) (x := 5) (WI := fun L v_ w' => RG.SW b 200 10 (lC hand fn v2 v3 t lst g ix bh) bm bw n f f' x w.heap.size W1 (L 8) (L 9) (L 10) v_ w') (by kernel_rfl) (by kernel_rfl) rfl (by kernel_rfl) (by kernel_rfl) (RG.SW.start R.out M.out RZ.out) ?does ?fin
 case does =>
  intro i o ho
  have hi : i < 11 := RG.lt_of ho rfl
  match i, hi with
  | 0, _ => cases ho; exact RG.rW rfl rfl (fun L a w' hI hd => ex_move rfl (hI.fx 0 rfl))
  | 1, _ => cases ho; exact RG.rW rfl rfl (fun L a w' hI hd => ex_nil rfl (hI.pure 0 _ _ rfl (hd ⟨0, .data⟩ (by simp) rfl)))
  | 2, _ => cases ho; exact RG.rW rfl rfl (fun L a w' hI hd => ex_field rfl (hI.pure 1 _ _ rfl (hd ⟨1, .data⟩ (by simp) rfl)) (fieldLs0 w' _))
  | 3, _ => cases ho; exact RG.rW rfl rfl (fun L a w' hI hd => ex_move rfl (hI.fx 1 rfl))
  | 4, _ => cases ho; exact RG.rW rfl rfl (fun L a w' hI hd => ex_move rfl (hI.fx 0 rfl))
  | 5, _ => cases ho; exact RG.rW rfl rfl (fun L a w' hI hd => ex_nil rfl (hI.pure 4 _ _ rfl (hd ⟨4, .data⟩ (by simp) rfl)))
  | 6, _ => cases ho; exact RG.rW rfl rfl (fun L a w' hI hd => ex_field rfl (hI.pure 5 _ _ rfl (hd ⟨5, .data⟩ (by simp) rfl)) (fieldLs1 w' _))
  | 7, _ => cases ho; exact RG.rW rfl rfl (fun L a w' hI hd => ex_load rfl (hI.pure 6 _ _ rfl (hd ⟨6, .data⟩ (by simp) rfl)) (aggI w') (hI.world.row.cell (i := 6) (by omega)))
  | 8, _ => cases ho; exact RG.Does.call rfl (fun L a w' hI hd => call3 rfl (hI.pure 2 _ _ rfl (hd ⟨2, .data⟩ (by simp) rfl)) (hI.pure 3 _ _ rfl (hd ⟨3, .data⟩ (by simp) rfl)) (hI.pure 7 _ _ rfl (hd ⟨7, .data⟩ (by simp) rfl)) rfl (by simp [go_sem])) (SWcalls h2 hn4 (by decide) (by decide) (fun w2 R2 M2 => load_any (R2.cell (i := 0) (by omega)) R2.lt M2 HW.out HX.out HF.out))
  | 9, _ => cases ho; exact RG.Does.make (u := fun w' => .pointer (some ⟨w'.heap.size, 0, none⟩)) rfl rfl (fun ev w' => alloc46 rfl) (fun L v_ w' h hL => by have := RG.SW.make h hL; rw [← upd_same L 9 true] at this; simpa only [upd_other _ _ (show 8 ≠ 9 by decide), upd_other _ _ (show 10 ≠ 9 by decide)] using this)
  | 10, _ => cases ho; exact RG.Does.put (ls := x.cells) rfl rfl rfl size46 (by simp [Stp.cells, Value.oneCell']) (fun L a w' hI hL hd => ⟨(hI.pure 8 _ _ rfl (hd ⟨8, .data⟩ (by simp) rfl)), by obtain ⟨q, e1, e2, e3⟩ := RG.SW.put hI.world (hd ⟨8, .data⟩ (by simp) rfl) (hd ⟨9, .data⟩ (by simp) rfl) hL; exact ⟨q, 0, e1, e2, by rw [← upd_same L 10 true] at e3; simpa only [upd_other _ _ (show 8 ≠ 10 by decide), upd_other _ _ (show 9 ≠ 10 by decide)] using e3⟩⟩)
 case fin =>
  intro L a' w1 hI hall
  have hw := hI.world
  simp only [hall 8 (by decide), hall 9 (by decide), hall 10 (by decide), if_true] at hw
  obtain ⟨q, hq, hq1, hq2, _, hr⟩ := hw.own rfl
  replace hr := hr rfl
  have ea := act_all a' 21 (by rw [hI.sz]; rfl) hI.df
  simp only [List.range, List.range.loop, List.map] at ea
  rw [hI.fx 0 rfl, hI.fx 1 rfl, hI.fx 2 rfl, hI.fx 3 rfl, hI.fx 4 rfl, hI.fx 15 rfl, hI.fx 16 rfl, hI.fx 17 rfl, hI.fx 18 rfl, hI.fx 19 rfl, hI.fx 20 rfl, hq] at ea
  clear hI hall
  obtain ⟨us, hus⟩ : ∃ us : Nat → Value, ∀ k, a'.eval (.tmp k) = us k := ⟨_, fun _ => rfl⟩
  simp only [hus] at ea
  simp only [show ∀ (ts : Array Value) (ds) (i : Nat), (Act.mk ts ds).eval (.tmp i) = ts.getD i undef from fun _ _ _ => rfl] at ea
  simp at ea
  subst ea
  have M1 := hide (show IsMem w1 bm bw n f' from by simpa using hw.mem)
  have R1 := hide hw.row
  have RR := hide hw.res
  have T1 := hide (T0.out.trans' hw.tch (fun k _ h => .inr h))
  have RQ := hide hr
  have hqb : q ≠ b := by omega
  have hqr : q ≠ w.heap.size := by omega
  have hqm : q ≠ bm ∧ q ≠ bw := by omega
  have lw1 := hw.tch.size
  have l1 : b < w1.heap.size := by omega
  have l2 : w.heap.size < w1.heap.size := by omega
  have l3 : q < w1.heap.size := by omega
  clear hw hr hq
  obtain ⟨s0, s1, s2, s3, s4, s5⟩ := stp6 RQ.out
  obtain ⟨⟨r0, rf0⟩, ⟨r1, rf1⟩, ⟨r2, rf2⟩, ⟨r3, rf3⟩, ⟨r4, rf4⟩, r5, rf5⟩ := res_facts RR.out
  have d7 := R1.out.cell (i := 7) (by omega)
  have df7 := R1.out.frozen 7
  have hnm : bm ≠ w.heap.size ∧ bw ≠ w.heap.size := by omega
  go_wp2_with fail
  go_light
  refine bodyPost_ret (v := x.val) ?res rfl ⟨rfl, ?row, ?mem, ?tch⟩
  case row =>
   refine World.rowIs.congr (f := fun k => if k = 7 then Value.int .u64 x.had else lC hand fn v2 v3 t lst g ix bh k) ?_ (fun i hi => l_g hand fn v2 v3 t lst g ix bh x.had i hi)
   repeat (first | (with_reducible apply World.rowIs.alloc) | (with_reducible refine World.rowIs.setOther ?_ ?side _; case side => (simp; omega)))
   with_reducible refine World.rowIs.set ?_ 7 _
   repeat (first | (with_reducible apply World.rowIs.alloc) | (with_reducible refine World.rowIs.setOther ?_ ?side _; case side => (simp; omega)))
   with_reducible exact R1.out
  case mem =>
   repeat (first | (with_reducible apply IsMem.alloc) | ((with_reducible refine IsMem.setOther ?_ ?_ ?_ _); rotate_left; (simp; omega); (simp; omega)))
   with_reducible exact M1.out
  case tch =>
   repeat (first | (with_reducible apply Touch.alloc) | (with_reducible refine Touch.setCell ?_ _ ?side _; case side => (first | (simp; done) | (simp; omega))))
   with_reducible exact T1.out
  case res => simp [results, Tryz.results94, go_sem, Stp.val, *]
theorem d_loadHead {w : World} {b bm bw n : Nat} {f f' : Nat → Int} {x : Stp} {sh : Shp} {hand : Int} {fn v2 v3 : Value} {t : Ans} {lst g : Int} {bl : Int} (h_ : w.rowIs b 150 15 (dC sh hand fn v2 v3 t lst g bl)) (hm : IsMem w bm bw n f) (h1 : b ≠ bm) (h2 : b ≠ bw)
  (hx : stepOf n f (⟨hand, 1, lst, 0, 0, true⟩ : Stp) = x) (hf' : wordsOf n f (⟨hand, 1, lst, 0, 0, true⟩ : Stp) = f') :
  Calls Tryz.prog 94 #[.pointer (some ⟨b, 0, none⟩), .pointer (some ⟨bm, 0, none⟩)] w fun e w' => e = .returned x.val ∧
   w'.rowIs b 150 15 (dC sh hand fn v2 v3 t lst x.had bl) ∧ IsMem w' bm bw n f' ∧ Touch w w' (fun k => k = b ∨ k = bw) := by
 have hl := h_.lt
 have lw := hm.row.lt
 have lm := hm.head.lt
 have hn3 : w.heap.size ≠ b := by omega
 have hn4 : w.heap.size ≠ bw := by omega
 have hn5 : w.heap.size ≠ bm := by omega
 obtain ⟨W1, hW1⟩ : ∃ W1, w.alloc (.cells #[.int .i64 0, .int .i64 0, .int .i64 0, .int .u64 0, .int .u64 0, .bool false] 69) = W1 := ⟨_, rfl⟩
 have R := hide (show W1.rowIs b 150 15 (dC sh hand fn v2 v3 t lst g bl) from by rw [← hW1]; exact h_.alloc _)
 have M := hide (show IsMem W1 bm bw n f from by rw [← hW1]; exact hm.alloc _)
 have RZ := hide (show W1.rowIs w.heap.size 69 6 zcell from by rw [← hW1]; exact row0 w)
 have T0 := hide (show Touch w W1 (fun k => k = b ∨ k = bw) from by rw [← hW1]; exact (Touch.refl w _).alloc _)
 have sz : W1.heap.size = w.heap.size + 1 := by rw [← hW1]; simp
 have lW1 : b < W1.heap.size := by omega
 obtain ⟨dS, hdS1, hdS2⟩ := row46
 have HD := hide (And.intro hdS1 hdS2)
 obtain ⟨dG, hdG1, hdG2⟩ := rowSh
 have HDS := hide (And.intro hdG1 hdG2)
 have HX := hide hx
 have HF := hide hf'
 have HW : Hid (0 ≤ ((⟨hand, 1, lst, 0, 0, true⟩ : Stp) : Stp).put ∧ ((⟨hand, 1, lst, 0, 0, true⟩ : Stp) : Stp).put ≤ 18446744073709551615) := ⟨by show (0 : Int) ≤ 0; omega, by show (0 : Int) ≤ 18446744073709551615; omega⟩
 clear hm h_ hx hf' hdS1 hdS2 hdG1 hdG2
 go_enter Tryz.func94, Tryz.ntmps94
 go_wp2_with fail
 clear hW1
 refine RG.regionB 11 (ks := [(0, 6), (1, 7), (2, 8), (3, 9), (4, 10), (5, 11), (6, 12), (7, 13), (8, 14)]) (vals := fun i => match i with
   | 0 => .pointer (some ⟨b, 0, none⟩)
   | 1 => .pointer (some ⟨b, 0, none⟩)
   | 2 => .pointer (some ⟨b, 0, none⟩)
   | 3 => .pointer (some ⟨bm, 0, none⟩)
   | 4 => .pointer (some ⟨b, 0, none⟩)
   | 5 => .pointer (some ⟨b, 0, none⟩)
   | 6 => .pointer (some ⟨b, 6, none⟩)
   | 7 => .int .i64 lst
   | 8 => x.val
   | _ => undef) (x := 5) (WI := fun L v_ w' => RG.SW b 150 15 (dC sh hand fn v2 v3 t lst g bl) bm bw n f f' x w.heap.size W1 (L 8) (L 9) (L 10) v_ w') (by kernel_rfl) (by kernel_rfl) rfl (by kernel_rfl) (by kernel_rfl) (RG.SW.start R.out M.out RZ.out) ?does ?fin
 case does =>
  intro i o ho
  have hi : i < 11 := RG.lt_of ho rfl
  match i, hi with
  | 0, _ => cases ho; exact RG.rW rfl rfl (fun L a w' hI hd => ex_move rfl (hI.fx 0 rfl))
  | 1, _ => cases ho; exact RG.rW rfl rfl (fun L a w' hI hd => ex_nil rfl (hI.pure 0 _ _ rfl (hd ⟨0, .data⟩ (by simp) rfl)))
  | 2, _ => cases ho; exact RG.rW rfl rfl (fun L a w' hI hd => ex_field rfl (hI.pure 1 _ _ rfl (hd ⟨1, .data⟩ (by simp) rfl)) (fieldLs0 w' _))
  | 3, _ => cases ho; exact RG.rW rfl rfl (fun L a w' hI hd => ex_move rfl (hI.fx 1 rfl))
  | 4, _ => cases ho; exact RG.rW rfl rfl (fun L a w' hI hd => ex_move rfl (hI.fx 0 rfl))
  | 5, _ => cases ho; exact RG.rW rfl rfl (fun L a w' hI hd => ex_nil rfl (hI.pure 4 _ _ rfl (hd ⟨4, .data⟩ (by simp) rfl)))
  | 6, _ => cases ho; exact RG.rW rfl rfl (fun L a w' hI hd => ex_field rfl (hI.pure 5 _ _ rfl (hd ⟨5, .data⟩ (by simp) rfl)) (fieldLs1 w' _))
  | 7, _ => cases ho; exact RG.rW rfl rfl (fun L a w' hI hd => ex_load rfl (hI.pure 6 _ _ rfl (hd ⟨6, .data⟩ (by simp) rfl)) (aggI w') (hI.world.row.cell (i := 6) (by omega)))
  | 8, _ => cases ho; exact RG.Does.call rfl (fun L a w' hI hd => call3 rfl (hI.pure 2 _ _ rfl (hd ⟨2, .data⟩ (by simp) rfl)) (hI.pure 3 _ _ rfl (hd ⟨3, .data⟩ (by simp) rfl)) (hI.pure 7 _ _ rfl (hd ⟨7, .data⟩ (by simp) rfl)) rfl (by simp [go_sem])) (SWcalls h2 hn4 (by decide) (by decide) (fun w2 R2 M2 => load_any (R2.cell (i := 0) (by omega)) R2.lt M2 HW.out HX.out HF.out))
  | 9, _ => cases ho; exact RG.Does.make (u := fun w' => .pointer (some ⟨w'.heap.size, 0, none⟩)) rfl rfl (fun ev w' => alloc46 rfl) (fun L v_ w' h hL => by have := RG.SW.make h hL; rw [← upd_same L 9 true] at this; simpa only [upd_other _ _ (show 8 ≠ 9 by decide), upd_other _ _ (show 10 ≠ 9 by decide)] using this)
  | 10, _ => cases ho; exact RG.Does.put (ls := x.cells) rfl rfl rfl size46 (by simp [Stp.cells, Value.oneCell']) (fun L a w' hI hL hd => ⟨(hI.pure 8 _ _ rfl (hd ⟨8, .data⟩ (by simp) rfl)), by obtain ⟨q, e1, e2, e3⟩ := RG.SW.put hI.world (hd ⟨8, .data⟩ (by simp) rfl) (hd ⟨9, .data⟩ (by simp) rfl) hL; exact ⟨q, 0, e1, e2, by rw [← upd_same L 10 true] at e3; simpa only [upd_other _ _ (show 8 ≠ 10 by decide), upd_other _ _ (show 9 ≠ 10 by decide)] using e3⟩⟩)
 case fin =>
  intro L a' w1 hI hall
  have hw := hI.world
  simp only [hall 8 (by decide), hall 9 (by decide), hall 10 (by decide), if_true] at hw
  obtain ⟨q, hq, hq1, hq2, _, hr⟩ := hw.own rfl
  replace hr := hr rfl
  have ea := act_all a' 21 (by rw [hI.sz]; rfl) hI.df
  simp only [List.range, List.range.loop, List.map] at ea
  rw [hI.fx 0 rfl, hI.fx 1 rfl, hI.fx 2 rfl, hI.fx 3 rfl, hI.fx 4 rfl, hI.fx 15 rfl, hI.fx 16 rfl, hI.fx 17 rfl, hI.fx 18 rfl, hI.fx 19 rfl, hI.fx 20 rfl, hq] at ea
  clear hI hall
  obtain ⟨us, hus⟩ : ∃ us : Nat → Value, ∀ k, a'.eval (.tmp k) = us k := ⟨_, fun _ => rfl⟩
  simp only [hus] at ea
  simp only [show ∀ (ts : Array Value) (ds) (i : Nat), (Act.mk ts ds).eval (.tmp i) = ts.getD i undef from fun _ _ _ => rfl] at ea
  simp at ea
  subst ea
  have M1 := hide (show IsMem w1 bm bw n f' from by simpa using hw.mem)
  have R1 := hide hw.row
  have RR := hide hw.res
  have T1 := hide (T0.out.trans' hw.tch (fun k _ h => .inr h))
  have RQ := hide hr
  have hqb : q ≠ b := by omega
  have hqr : q ≠ w.heap.size := by omega
  have hqm : q ≠ bm ∧ q ≠ bw := by omega
  have lw1 := hw.tch.size
  have l1 : b < w1.heap.size := by omega
  have l2 : w.heap.size < w1.heap.size := by omega
  have l3 : q < w1.heap.size := by omega
  clear hw hr hq
  obtain ⟨s0, s1, s2, s3, s4, s5⟩ := stp6 RQ.out
  obtain ⟨⟨r0, rf0⟩, ⟨r1, rf1⟩, ⟨r2, rf2⟩, ⟨r3, rf3⟩, ⟨r4, rf4⟩, r5, rf5⟩ := res_facts RR.out
  have d7 := R1.out.cell (i := 7) (by omega)
  have df7 := R1.out.frozen 7
  have hnm : bm ≠ w.heap.size ∧ bw ≠ w.heap.size := by omega
  go_wp2_with fail
  go_light
  refine bodyPost_ret (v := x.val) ?res rfl ⟨rfl, ?row, ?mem, ?tch⟩
  case row =>
   refine World.rowIs.congr (f := fun k => if k = 7 then Value.int .u64 x.had else dC sh hand fn v2 v3 t lst g bl k) ?_ (fun i hi => d_g sh hand fn v2 v3 t lst g bl x.had i hi)
   repeat (first | (with_reducible apply World.rowIs.alloc) | (with_reducible refine World.rowIs.setOther ?_ ?side _; case side => (simp; omega)))
   with_reducible refine World.rowIs.set ?_ 7 _
   repeat (first | (with_reducible apply World.rowIs.alloc) | (with_reducible refine World.rowIs.setOther ?_ ?side _; case side => (simp; omega)))
   with_reducible exact R1.out
  case mem =>
   repeat (first | (with_reducible apply IsMem.alloc) | ((with_reducible refine IsMem.setOther ?_ ?_ ?_ _); rotate_left; (simp; omega); (simp; omega)))
   with_reducible exact M1.out
  case tch =>
   repeat (first | (with_reducible apply Touch.alloc) | (with_reducible refine Touch.setCell ?_ _ ?side _; case side => (first | (simp; done) | (simp; omega))))
   with_reducible exact T1.out
  case res => simp [results, Tryz.results94, go_sem, Stp.val, *]
end Ls
end
section
namespace Ls
open Hp
theorem meet_any {w : World} {b bm bw n : Nat} {f f' : Nat → Int} {x : Stp} {hand : Int} {fn v2 v3 : Value} {t : Ans} {lst g : Int} {ix bh : Int} (h_ : w.rowIs b 200 10 (lC hand fn v2 v3 t lst g ix bh)) (hm : IsMem w bm bw n f) (h1 : b ≠ bm) (h2 : b ≠ bw)
  (hx : stepOf n f ⟨hand, 1, lst, 0, 0, true⟩ = x) (hf' : wordsOf n f ⟨hand, 1, lst, 0, 0, true⟩ = f') :
  Calls Tryz.prog 138 #[.pointer (some ⟨b, 0, none⟩), .pointer (some ⟨bm, 0, none⟩)] w fun e w' => e = .returned (.tuple #[x.val, .int .i64 0]) ∧
   w'.rowIs b 200 10 (lC hand (.func (.func 144) #[.pointer (some ⟨b, 0, none⟩)] #[]) v2 v3 t lst x.had ix bh) ∧ IsMem w' bm bw n f' ∧ Touch w w' (fun k => k = b ∨ k = bw) := by
 have hl := h_.lt
 have lw := hm.row.lt
 have lm := hm.head.lt
 have hn3 : w.heap.size ≠ b := by omega
 have hn4 : w.heap.size ≠ bw := by omega
 have hn5 : w.heap.size ≠ bm := by omega
 obtain ⟨W1, hW1⟩ : ∃ W1, w.alloc (.cells #[.int .i64 0, .int .i64 0, .int .i64 0, .int .u64 0, .int .u64 0, .bool false] 69) = W1 := ⟨_, rfl⟩
 have R := hide (show W1.rowIs b 200 10 (lC hand fn v2 v3 t lst g ix bh) from by rw [← hW1]; exact h_.alloc _)
 have M := hide (show IsMem W1 bm bw n f from by rw [← hW1]; exact hm.alloc _)
 have RZ := hide (show W1.rowIs w.heap.size 69 6 zcell from by rw [← hW1]; exact row0 w)
 have T0 := hide (show Touch w W1 (fun k => k = b ∨ k = bw) from by rw [← hW1]; exact (Touch.refl w _).alloc _)
 have sz : W1.heap.size = w.heap.size + 1 := by rw [← hW1]; simp
 have lW1 : b < W1.heap.size := by omega
 obtain ⟨dS, hdS1, hdS2⟩ := row46
 have HD := hide (And.intro hdS1 hdS2)
 obtain ⟨dG, hdG1, hdG2⟩ := rowSh
 have HDS := hide (And.intro hdG1 hdG2)
 have HX := hide hx
 have HF := hide hf'
 have HW : Hid (0 ≤ (⟨hand, 1, lst, 0, 0, true⟩ : Stp).put ∧ (⟨hand, 1, lst, 0, 0, true⟩ : Stp).put ≤ 18446744073709551615) := ⟨by show (0 : Int) ≤ 0; omega, by show (0 : Int) ≤ 18446744073709551615; omega⟩
 clear hm h_ hx hf' hdS1 hdS2 hdG1 hdG2
 go_enter Tryz.func138, Tryz.ntmps138
 go_wp2_with fail
 clear hW1
 have RW1 := R
 have MW1 := M
 have QW1 := RZ
 have TW1 := T0
 refine RG.regionB 14 (ks := [(0, 6), (1, 7), (2, 8), (3, 9), (4, 10), (5, 11), (6, 12), (7, 13), (8, 14), (9, 15), (10, 16), (11, 17), (13, 5)]) (vals := fun i => match i with
    | 0 => .pointer (some ⟨b, 0, none⟩)
    | 1 => .pointer (some ⟨b, 0, none⟩)
    | 2 => .pointer (some ⟨b, 0, none⟩)
    | 3 => .pointer (some ⟨bm, 0, none⟩)
    | 4 => x.val
    | 5 => .pointer (some ⟨b, 0, none⟩)
    | 6 => .pointer (some ⟨b, 0, none⟩)
    | 7 => .pointer (some ⟨b, 0, none⟩)
    | 8 => .pointer (some ⟨b, 0, none⟩)
    | 9 => .pointer (some ⟨b, 0, none⟩)
    | 10 => .func (.func 144) #[.pointer (some ⟨b, 0, none⟩)] #[]
    | 11 => .int .i64 0
    | 13 => .int .i64 0
    | _ => undef) (x := 2) (WI := fun L v_ w' => RG.SX b 200 10 (fun c_ g_ => lC hand (if g_ = true then (.func (.func 144) #[.pointer (some ⟨b, 0, none⟩)] #[]) else fn) v2 v3 t lst (if c_ = true then x.had else g) ix bh) bm bw n f f' x w.heap.size none W1 (L 4) (L 11) (L 12) w') (by kernel_rfl) (by kernel_rfl) rfl (by kernel_rfl) (by kernel_rfl) (RG.SX.start (c := false) (g := false) RW1.out (by simpa using MW1.out) QW1.out ⟨h1, h2, hn3, hn5, hn4⟩ (fun k e => by cases e)) ?does ?fin
 case does =>
  intro i o ho
  have hi : i < 14 := RG.lt_of ho rfl
  match i, hi with
  | 0, _ => cases ho; exact RG.rX rfl rfl (fun L a w' hI hd => ex_move rfl (hI.fx 0 rfl))
  | 1, _ => cases ho; exact RG.rX rfl rfl (fun L a w' hI hd => ex_nil rfl (hI.pure 0 _ _ rfl (hd ⟨0, .data⟩ (by simp) rfl)))
  | 2, _ => cases ho; exact RG.rX rfl rfl (fun L a w' hI hd => ex_field rfl (hI.pure 1 _ _ rfl (hd ⟨1, .data⟩ (by simp) rfl)) (fieldL0 w' _))
  | 3, _ => cases ho; exact RG.rX rfl rfl (fun L a w' hI hd => ex_move rfl (hI.fx 1 rfl))
  | 4, _ => cases ho; exact RG.Does.call rfl (fun L a w' hI hd => call2 rfl (hI.pure 2 _ _ rfl (hd ⟨2, .data⟩ (by simp) rfl)) (hI.pure 3 _ _ rfl (hd ⟨3, .data⟩ (by simp) rfl)) rfl (by simp [go_sem])) (fun L v_ w2 hI hL => by have h3 := hI; rw [hL] at h3; refine (l_loadHead h3.row (by simpa using h3.mem) h1 h2 HX.out HF.out).mono ?_; rintro e w3 ⟨rfl, r3, m3, t3⟩; refine ⟨rfl, ?_⟩; rw [upd_same, upd_other _ _ (show 11 ≠ 4 by decide), upd_other _ _ (show 12 ≠ 4 by decide)]; exact h3.turn (c' := true) (r3.congr (fun i hi => (fun _ _ => rfl) i hi)) (by simpa using m3) t3 (fun k e => e))
  | 5, _ => cases ho; exact RG.rX rfl rfl (fun L a w' hI hd => ex_move rfl (hI.fx 0 rfl))
  | 6, _ => cases ho; exact RG.rX rfl rfl (fun L a w' hI hd => ex_nil rfl (hI.pure 5 _ _ rfl (hd ⟨5, .data⟩ (by simp) rfl)))
  | 7, _ => cases ho; exact RG.rX rfl rfl (fun L a w' hI hd => ex_field rfl (hI.pure 6 _ _ rfl (hd ⟨6, .data⟩ (by simp) rfl)) (fieldL0 w' _))
  | 8, _ => cases ho; exact RG.rX rfl rfl (fun L a w' hI hd => ex_field rfl (hI.pure 7 _ _ rfl (hd ⟨7, .data⟩ (by simp) rfl)) (fieldLs0 w' _))
  | 9, _ => cases ho; exact RG.rX rfl rfl (fun L a w' hI hd => ex_move rfl (hI.fx 0 rfl))
  | 10, _ => cases ho; exact RG.rX rfl rfl (fun L a w' hI hd => ex_func rfl (hI.pure 9 _ _ rfl (hd ⟨9, .data⟩ (by simp) rfl)))
  | 11, _ => cases ho; exact RG.Does.call rfl (fun L a w' hI hd => call2 rfl (hI.pure 8 _ _ rfl (hd ⟨8, .data⟩ (by simp) rfl)) (hI.pure 10 _ _ rfl (hd ⟨10, .data⟩ (by simp) rfl)) rfl (by simp [go_sem])) (fun L v_ w2 hI hL => by have h3 := hI; rw [hL] at h3; refine (goOn_any 144 h3.row (by omega)).mono ?_; rintro e w3 ⟨rfl, r3, t3⟩; refine ⟨rfl, ?_⟩; rw [upd_same, upd_other _ _ (show 4 ≠ 11 by decide), upd_other _ _ (show 12 ≠ 11 by decide)]; exact h3.turn (g' := true) (r3.congr (fun i hi => l_fn _ _ _ _ _ _ _ _ _ _ i hi)) ⟨h3.mem.head.of_block (t3.block _ h3.mem.head.lt (fun e => h1 e.symm)), h3.mem.row.of_block (t3.block _ h3.mem.row.lt (fun e => h2 e.symm)), h3.mem.most, h3.mem.word⟩ t3 (fun k e => .inl e))
  | 12, _ => cases ho; exact RG.Does.put (ls := x.cells) rfl rfl rfl size46 (by simp [Stp.cells, Value.oneCell']) (fun L a w' hI hL hdd => ⟨(hI.pure 4 _ _ rfl (hdd ⟨4, .data⟩ (by simp) rfl)), by obtain ⟨e2, e3⟩ := RG.SX.put hI.world; exact ⟨w.heap.size, 0, hI.fx 4 rfl, e2, by show RG.SX b 200 10 (fun c_ g_ => lC hand (if g_ = true then (.func (.func 144) #[.pointer (some ⟨b, 0, none⟩)] #[]) else fn) v2 v3 t lst (if c_ = true then x.had else g) ix bh) bm bw n f f' x w.heap.size none W1 (upd L 12 true 4) (upd L 12 true 11) (upd L 12 true 12) _; rw [upd_same, upd_other _ _ (show 4 ≠ 12 by decide), upd_other _ _ (show 11 ≠ 12 by decide)]; exact e3⟩⟩)
  | 13, _ => cases ho; exact RG.rX rfl rfl (fun L a w' hI hd => ex_assign rfl (hI.pure 11 _ _ rfl (hd ⟨11, .data⟩ (by simp) rfl)))
 case fin =>
  intro L a' w' hI hall
  rename_i K2 hK2
  refine hK2 _ _ ?_
  have hw := hI.world
  simp only [hall 4 (by decide), hall 11 (by decide), hall 12 (by decide)] at hw
  have rE := hw.sto rfl
  have pE : a'.eval (.tmp 4) = .pointer (some ⟨w.heap.size, 0, none⟩) := hI.fx 4 rfl
  have pe : a'.eval (.tmp 5) = .int .i64 0 := hI.pure 13 5 _ rfl (hall 13 (by decide))
  have hdf : a'.defers = [] := hI.df
  have hS := run_loadVar_mid (P := Tryz.prog) w' w.heap.size 0 _ _ dS rE HD.out.1 HD.out.2 size46
  have hres := results_ct (Q := Tryz.prog) (fn := Tryz.f138) (tmps := a'.tmps) (t := 4) (t' := 5) (W := w') (by rfl) pE hS
  rw [show a'.tmps.getD 5 undef = .int .i64 0 from pe] at hres
  go_wp2
  exact bodyPost_ret (v := .tuple #[x.val, .int .i64 0]) hres hdf ⟨rfl, hw.row, by simpa using hw.mem, TW1.out.trans' hw.tch (fun k hk h => by rcases h with h | h | h; exact .inl h; exact .inr h; omega)⟩
theorem tie_any {w : World} {b bm bw n : Nat} {f f' : Nat → Int} {x : Stp} {hand : Int} {fn v2 v3 : Value} {t : Ans} {lst g : Int} {ix bh : Int} (h_ : w.rowIs b 200 10 (lC hand fn v2 v3 t lst g ix bh)) (hm : IsMem w bm bw n f) (h1 : b ≠ bm) (h2 : b ≠ bw) (hg : 0 ≤ g ∧ g ≤ 18446744073709551615)
  (hx : stepOf n f ⟨hand, 2, bh, 0, idx g, true⟩ = x) (hf' : wordsOf n f ⟨hand, 2, bh, 0, idx g, true⟩ = f') :
  Calls Tryz.prog 144 #[.pointer (some ⟨b, 0, none⟩), .pointer (some ⟨bm, 0, none⟩)] w fun e w' => e = .returned (.tuple #[x.val, .int .i64 0]) ∧
   w'.rowIs b 200 10 (lC hand (.func (.func 146) #[.pointer (some ⟨b, 0, none⟩)] #[]) v2 v3 t lst g ix bh) ∧ IsMem w' bm bw n f' ∧ Touch w w' (fun k => k = b ∨ k = bw) := by
 have hl := h_.lt
 have lw := hm.row.lt
 have lm := hm.head.lt
 have hn3 : w.heap.size ≠ b := by omega
 have hn4 : w.heap.size ≠ bw := by omega
 have hn5 : w.heap.size ≠ bm := by omega
 obtain ⟨W1, hW1⟩ : ∃ W1, w.alloc (.cells #[.int .i64 0, .int .i64 0, .int .i64 0, .int .u64 0, .int .u64 0, .bool false] 69) = W1 := ⟨_, rfl⟩
 have R := hide (show W1.rowIs b 200 10 (lC hand fn v2 v3 t lst g ix bh) from by rw [← hW1]; exact h_.alloc _)
 have M := hide (show IsMem W1 bm bw n f from by rw [← hW1]; exact hm.alloc _)
 have RZ := hide (show W1.rowIs w.heap.size 69 6 zcell from by rw [← hW1]; exact row0 w)
 have T0 := hide (show Touch w W1 (fun k => k = b ∨ k = bw) from by rw [← hW1]; exact (Touch.refl w _).alloc _)
 have sz : W1.heap.size = w.heap.size + 1 := by rw [← hW1]; simp
 have lW1 : b < W1.heap.size := by omega
 obtain ⟨dS, hdS1, hdS2⟩ := row46
 have HD := hide (And.intro hdS1 hdS2)
 obtain ⟨dG, hdG1, hdG2⟩ := rowSh
 have HDS := hide (And.intro hdG1 hdG2)
 have HX := hide hx
 have HF := hide hf'
 have HW : Hid (0 ≤ (⟨hand, 2, bh, 0, idx g, true⟩ : Stp).put ∧ (⟨hand, 2, bh, 0, idx g, true⟩ : Stp).put ≤ 18446744073709551615) := ⟨idx_lo g, by have := idx_hi g; show idx g ≤ _; omega⟩
 have HG := hide hg
 clear hm h_ hx hf' hdS1 hdS2 hdG1 hdG2 hg
 go_enter Tryz.func144, Tryz.ntmps144
 go_wp2_with fail
 clear hW1
 have RW1 := R
 have MW1 := M
 have QW1 := RZ
 have TW1 := T0
 refine RG.regionB 24 (ks := [(0, 6), (1, 7), (2, 8), (3, 9), (4, 10), (5, 11), (6, 12), (7, 13), (8, 14), (9, 15), (10, 16), (11, 17), (12, 18), (13, 19), (14, 20), (15, 21), (16, 22), (17, 23), (18, 24), (19, 25), (20, 26), (21, 27), (23, 5)]) (vals := fun i => match i with
    | 0 => .pointer (some ⟨b, 0, none⟩)
    | 1 => .pointer (some ⟨b, 0, none⟩)
    | 2 => .pointer (some ⟨b, 0, none⟩)
    | 3 => .pointer (some ⟨b, 0, none⟩)
    | 4 => .pointer (some ⟨bm, 0, none⟩)
    | 5 => .pointer (some ⟨b, 0, none⟩)
    | 6 => .pointer (some ⟨b, 0, none⟩)
    | 7 => .pointer (some ⟨b, 9, none⟩)
    | 8 => .int .i64 bh
    | 9 => .pointer (some ⟨b, 0, none⟩)
    | 10 => .pointer (some ⟨b, 0, none⟩)
    | 11 => .pointer (some ⟨b, 0, none⟩)
    | 12 => .int .i64 (idx g)
    | 13 => .int .u64 (idx g)
    | 14 => x.val
    | 15 => .pointer (some ⟨b, 0, none⟩)
    | 16 => .pointer (some ⟨b, 0, none⟩)
    | 17 => .pointer (some ⟨b, 0, none⟩)
    | 18 => .pointer (some ⟨b, 0, none⟩)
    | 19 => .pointer (some ⟨b, 0, none⟩)
    | 20 => .func (.func 146) #[.pointer (some ⟨b, 0, none⟩)] #[]
    | 21 => .int .i64 0
    | 23 => .int .i64 0
    | _ => undef) (x := 2) (WI := fun L v_ w' => RG.SX b 200 10 (fun c_ g_ => lC hand (if g_ = true then (.func (.func 146) #[.pointer (some ⟨b, 0, none⟩)] #[]) else fn) v2 v3 t lst g ix bh) bm bw n f f' x w.heap.size none W1 (L 14) (L 21) (L 22) w') (by kernel_rfl) (by kernel_rfl) rfl (by kernel_rfl) (by kernel_rfl) (RG.SX.start (c := false) (g := false) RW1.out (by simpa using MW1.out) QW1.out ⟨h1, h2, hn3, hn5, hn4⟩ (fun k e => by cases e)) ?does ?fin
 case does =>
  intro i o ho
  have hi : i < 24 := RG.lt_of ho rfl
  match i, hi with
  | 0, _ => cases ho; exact RG.rX rfl rfl (fun L a w' hI hd => ex_move rfl (hI.fx 0 rfl))
  | 1, _ => cases ho; exact RG.rX rfl rfl (fun L a w' hI hd => ex_nil rfl (hI.pure 0 _ _ rfl (hd ⟨0, .data⟩ (by simp) rfl)))
  | 2, _ => cases ho; exact RG.rX rfl rfl (fun L a w' hI hd => ex_field rfl (hI.pure 1 _ _ rfl (hd ⟨1, .data⟩ (by simp) rfl)) (fieldL0 w' _))
  | 3, _ => cases ho; exact RG.rX rfl rfl (fun L a w' hI hd => ex_field rfl (hI.pure 2 _ _ rfl (hd ⟨2, .data⟩ (by simp) rfl)) (fieldLs0 w' _))
  | 4, _ => cases ho; exact RG.rX rfl rfl (fun L a w' hI hd => ex_move rfl (hI.fx 1 rfl))
  | 5, _ => cases ho; exact RG.rX rfl rfl (fun L a w' hI hd => ex_move rfl (hI.fx 0 rfl))
  | 6, _ => cases ho; exact RG.rX rfl rfl (fun L a w' hI hd => ex_nil rfl (hI.pure 5 _ _ rfl (hd ⟨5, .data⟩ (by simp) rfl)))
  | 7, _ => cases ho; exact RG.rX rfl rfl (fun L a w' hI hd => ex_field rfl (hI.pure 6 _ _ rfl (hd ⟨6, .data⟩ (by simp) rfl)) (fieldL2 w' _))
  | 8, _ => cases ho; exact RG.rX rfl rfl (fun L a w' hI hd => ex_load rfl (hI.pure 7 _ _ rfl (hd ⟨7, .data⟩ (by simp) rfl)) (aggI w') (hI.world.row.cell (i := 9) (by omega)))
  | 9, _ => cases ho; exact RG.rX rfl rfl (fun L a w' hI hd => ex_move rfl (hI.fx 0 rfl))
  | 10, _ => cases ho; exact RG.rX rfl rfl (fun L a w' hI hd => ex_nil rfl (hI.pure 9 _ _ rfl (hd ⟨9, .data⟩ (by simp) rfl)))
  | 11, _ => cases ho; exact RG.rX rfl rfl (fun L a w' hI hd => ex_field rfl (hI.pure 10 _ _ rfl (hd ⟨10, .data⟩ (by simp) rfl)) (fieldL0 w' _))
  | 12, _ => cases ho; exact RG.Does.call rfl (fun L a w' hI hd => call1 rfl (hI.pure 11 _ _ rfl (hd ⟨11, .data⟩ (by simp) rfl)) rfl (by simp [go_sem])) (fun L v_ w2 hI hL => (first_any (show World.cell? w2 ⟨b, 7, none⟩ = some (.int .u64 g) from hI.row.cell (i := 7) (by omega)) hI.row.lt HG.out).mono (by rintro e w3 ⟨rfl, rfl⟩; exact ⟨rfl, RG.SX.skip (by decide) (by decide) (by decide)  hI⟩))
  | 13, _ => cases ho; exact RG.rX rfl rfl (fun L a w' hI hd => ex_convu rfl (hI.pure 12 _ _ rfl (hd ⟨12, .data⟩ (by simp) rfl)) (by have := idx_lo g; omega) (by have := idx_hi g; omega))
  | 14, _ => cases ho; exact RG.Does.call rfl (fun L a w' hI hd => call4 rfl (hI.pure 3 _ _ rfl (hd ⟨3, .data⟩ (by simp) rfl)) (hI.pure 4 _ _ rfl (hd ⟨4, .data⟩ (by simp) rfl)) (hI.pure 8 _ _ rfl (hd ⟨8, .data⟩ (by simp) rfl)) (hI.pure 13 _ _ rfl (hd ⟨13, .data⟩ (by simp) rfl)) rfl (by simp [go_sem])) (fun L v_ w2 hI hL => by have h3 := hI; rw [hL] at h3; refine (row_act h3.row h2 (store_any (show World.cell? w2 ⟨b, 0, none⟩ = some (.int .i64 hand) from h3.row.cell (i := 0) (by omega)) h3.row.lt (by simpa using h3.mem) HW.out HX.out HF.out)).mono ?_; rintro e w3 ⟨rfl, r3, m3, t3⟩; refine ⟨rfl, ?_⟩; rw [upd_same, upd_other _ _ (show 21 ≠ 14 by decide), upd_other _ _ (show 22 ≠ 14 by decide)]; exact h3.turn (c' := true) (r3.congr (fun i hi => (fun _ _ => rfl) i hi)) (by simpa using m3) t3 (fun k e => e))
  | 15, _ => cases ho; exact RG.rX rfl rfl (fun L a w' hI hd => ex_move rfl (hI.fx 0 rfl))
  | 16, _ => cases ho; exact RG.rX rfl rfl (fun L a w' hI hd => ex_nil rfl (hI.pure 15 _ _ rfl (hd ⟨15, .data⟩ (by simp) rfl)))
  | 17, _ => cases ho; exact RG.rX rfl rfl (fun L a w' hI hd => ex_field rfl (hI.pure 16 _ _ rfl (hd ⟨16, .data⟩ (by simp) rfl)) (fieldL0 w' _))
  | 18, _ => cases ho; exact RG.rX rfl rfl (fun L a w' hI hd => ex_field rfl (hI.pure 17 _ _ rfl (hd ⟨17, .data⟩ (by simp) rfl)) (fieldLs0 w' _))
  | 19, _ => cases ho; exact RG.rX rfl rfl (fun L a w' hI hd => ex_move rfl (hI.fx 0 rfl))
  | 20, _ => cases ho; exact RG.rX rfl rfl (fun L a w' hI hd => ex_func rfl (hI.pure 19 _ _ rfl (hd ⟨19, .data⟩ (by simp) rfl)))
  | 21, _ => cases ho; exact RG.Does.call rfl (fun L a w' hI hd => call2 rfl (hI.pure 18 _ _ rfl (hd ⟨18, .data⟩ (by simp) rfl)) (hI.pure 20 _ _ rfl (hd ⟨20, .data⟩ (by simp) rfl)) rfl (by simp [go_sem])) (fun L v_ w2 hI hL => by have h3 := hI; rw [hL] at h3; refine (goOn_any 146 h3.row (by omega)).mono ?_; rintro e w3 ⟨rfl, r3, t3⟩; refine ⟨rfl, ?_⟩; rw [upd_same, upd_other _ _ (show 14 ≠ 21 by decide), upd_other _ _ (show 22 ≠ 21 by decide)]; exact h3.turn (g' := true) (r3.congr (fun i hi => l_fn _ _ _ _ _ _ _ _ _ _ i hi)) ⟨h3.mem.head.of_block (t3.block _ h3.mem.head.lt (fun e => h1 e.symm)), h3.mem.row.of_block (t3.block _ h3.mem.row.lt (fun e => h2 e.symm)), h3.mem.most, h3.mem.word⟩ t3 (fun k e => .inl e))
  | 22, _ => cases ho; exact RG.Does.put (ls := x.cells) rfl rfl rfl size46 (by simp [Stp.cells, Value.oneCell']) (fun L a w' hI hL hdd => ⟨(hI.pure 14 _ _ rfl (hdd ⟨14, .data⟩ (by simp) rfl)), by obtain ⟨e2, e3⟩ := RG.SX.put hI.world; exact ⟨w.heap.size, 0, hI.fx 4 rfl, e2, by show RG.SX b 200 10 (fun c_ g_ => lC hand (if g_ = true then (.func (.func 146) #[.pointer (some ⟨b, 0, none⟩)] #[]) else fn) v2 v3 t lst g ix bh) bm bw n f f' x w.heap.size none W1 (upd L 22 true 14) (upd L 22 true 21) (upd L 22 true 22) _; rw [upd_same, upd_other _ _ (show 14 ≠ 22 by decide), upd_other _ _ (show 21 ≠ 22 by decide)]; exact e3⟩⟩)
  | 23, _ => cases ho; exact RG.rX rfl rfl (fun L a w' hI hd => ex_assign rfl (hI.pure 21 _ _ rfl (hd ⟨21, .data⟩ (by simp) rfl)))
 case fin =>
  intro L a' w' hI hall
  rename_i K2 hK2
  refine hK2 _ _ ?_
  have hw := hI.world
  simp only [hall 14 (by decide), hall 21 (by decide), hall 22 (by decide)] at hw
  have rE := hw.sto rfl
  have pE : a'.eval (.tmp 4) = .pointer (some ⟨w.heap.size, 0, none⟩) := hI.fx 4 rfl
  have pe : a'.eval (.tmp 5) = .int .i64 0 := hI.pure 23 5 _ rfl (hall 23 (by decide))
  have hdf : a'.defers = [] := hI.df
  have hS := run_loadVar_mid (P := Tryz.prog) w' w.heap.size 0 _ _ dS rE HD.out.1 HD.out.2 size46
  have hres := results_ct (Q := Tryz.prog) (fn := Tryz.f144) (tmps := a'.tmps) (t := 4) (t' := 5) (W := w') (by rfl) pE hS
  rw [show a'.tmps.getD 5 undef = .int .i64 0 from pe] at hres
  go_wp2
  exact bodyPost_ret (v := .tuple #[x.val, .int .i64 0]) hres hdf ⟨rfl, hw.row, by simpa using hw.mem, TW1.out.trans' hw.tch (fun k hk h => by rcases h with h | h | h; exact .inl h; exact .inr h; omega)⟩
theorem lay_yes {w : World} {b bm bw n : Nat} {f f' : Nat → Int} {x : Stp} {hand : Int} {fn v2 v3 : Value} {t : Ans} {lst g : Int} {ix bh : Int} (h_ : w.rowIs b 200 10 (lC hand fn v2 v3 t lst g ix bh)) (hm : IsMem w bm bw n f) (h1 : b ≠ bm) (h2 : b ≠ bw) (hg : 0 ≤ g ∧ g ≤ 18446744073709551615) (hok : x.ok = true)
  (hx : stepOf n f ⟨hand, 5, lst, g, bmp g ix, true⟩ = x) (hf' : wordsOf n f ⟨hand, 5, lst, g, bmp g ix, true⟩ = f') :
  Calls Tryz.prog 146 #[.pointer (some ⟨b, 0, none⟩), .pointer (some ⟨bm, 0, none⟩)] w fun e w' => e = .returned (.tuple #[x.val, .int .i64 1]) ∧
   w'.rowIs b 200 10 (lC hand fn v2 v3 ⟨true, 0⟩ lst g ix bh) ∧ IsMem w' bm bw n f' ∧ Touch w w' (fun k => k = b ∨ k = bw) := by
 have hl := h_.lt
 have lw := hm.row.lt
 have lm := hm.head.lt
 have hn3 : w.heap.size ≠ b := by omega
 have hn4 : w.heap.size ≠ bw := by omega
 have hn5 : w.heap.size ≠ bm := by omega
 obtain ⟨W1, hW1⟩ : ∃ W1, w.alloc (.cells #[.int .i64 0, .int .i64 0, .int .i64 0, .int .u64 0, .int .u64 0, .bool false] 69) = W1 := ⟨_, rfl⟩
 have R := hide (show W1.rowIs b 200 10 (lC hand fn v2 v3 t lst g ix bh) from by rw [← hW1]; exact h_.alloc _)
 have M := hide (show IsMem W1 bm bw n f from by rw [← hW1]; exact hm.alloc _)
 have RZ := hide (show W1.rowIs w.heap.size 69 6 zcell from by rw [← hW1]; exact row0 w)
 have T0 := hide (show Touch w W1 (fun k => k = b ∨ k = bw) from by rw [← hW1]; exact (Touch.refl w _).alloc _)
 have sz : W1.heap.size = w.heap.size + 1 := by rw [← hW1]; simp
 have lW1 : b < W1.heap.size := by omega
 obtain ⟨dS, hdS1, hdS2⟩ := row46
 have HD := hide (And.intro hdS1 hdS2)
 obtain ⟨dG, hdG1, hdG2⟩ := rowSh
 have HDS := hide (And.intro hdG1 hdG2)
 have HX := hide hx
 have HF := hide hf'
 have HW : Hid (0 ≤ (⟨hand, 5, lst, g, bmp g ix, true⟩ : Stp).put ∧ (⟨hand, 5, lst, g, bmp g ix, true⟩ : Stp).put ≤ 18446744073709551615) := ⟨bmp_lo _ _, bmp_hi _ _⟩
 have HG := hide hg
 clear hm h_ hx hf' hdS1 hdS2 hdG1 hdG2 hg
 go_enter Tryz.func146, Tryz.ntmps146
 go_wp2_with fail
 clear hW1
 refine RG.regionB 11 (ks := [(0, 7), (1, 8), (2, 9), (3, 10), (4, 11), (5, 12), (6, 13), (7, 14), (8, 15)]) (vals := fun i => match i with
   | 0 => .pointer (some ⟨b, 0, none⟩)
   | 1 => .pointer (some ⟨b, 0, none⟩)
   | 2 => .pointer (some ⟨b, 0, none⟩)
   | 3 => .pointer (some ⟨bm, 0, none⟩)
   | 4 => .pointer (some ⟨b, 0, none⟩)
   | 5 => .pointer (some ⟨b, 0, none⟩)
   | 6 => .pointer (some ⟨b, 8, none⟩)
   | 7 => .int .i64 ix
   | 8 => x.val
   | _ => undef) (x := 6) (WI := fun L v_ w' => RG.SW b 200 10 (lC hand fn v2 v3 t lst g ix bh) bm bw n f f' x w.heap.size W1 (L 8) (L 9) (L 10) v_ w') (by kernel_rfl) (by kernel_rfl) rfl (by kernel_rfl) (by kernel_rfl) (RG.SW.start R.out M.out RZ.out) ?does ?fin
 case does =>
  intro i o ho
  have hi : i < 11 := RG.lt_of ho rfl
  match i, hi with
  | 0, _ => cases ho; exact RG.rW rfl rfl (fun L a w' hI hd => ex_move rfl (hI.fx 0 rfl))
  | 1, _ => cases ho; exact RG.rW rfl rfl (fun L a w' hI hd => ex_nil rfl (hI.pure 0 _ _ rfl (hd ⟨0, .data⟩ (by simp) rfl)))
  | 2, _ => cases ho; exact RG.rW rfl rfl (fun L a w' hI hd => ex_field rfl (hI.pure 1 _ _ rfl (hd ⟨1, .data⟩ (by simp) rfl)) (fieldL0 w' _))
  | 3, _ => cases ho; exact RG.rW rfl rfl (fun L a w' hI hd => ex_move rfl (hI.fx 1 rfl))
  | 4, _ => cases ho; exact RG.rW rfl rfl (fun L a w' hI hd => ex_move rfl (hI.fx 0 rfl))
  | 5, _ => cases ho; exact RG.rW rfl rfl (fun L a w' hI hd => ex_nil rfl (hI.pure 4 _ _ rfl (hd ⟨4, .data⟩ (by simp) rfl)))
  | 6, _ => cases ho; exact RG.rW rfl rfl (fun L a w' hI hd => ex_field rfl (hI.pure 5 _ _ rfl (hd ⟨5, .data⟩ (by simp) rfl)) (fieldL1 w' _))
  | 7, _ => cases ho; exact RG.rW rfl rfl (fun L a w' hI hd => ex_load rfl (hI.pure 6 _ _ rfl (hd ⟨6, .data⟩ (by simp) rfl)) (aggI w') (hI.world.row.cell (i := 8) (by omega)))
  | 8, _ => cases ho; exact RG.Does.call rfl (fun L a w' hI hd => call3 rfl (hI.pure 2 _ _ rfl (hd ⟨2, .data⟩ (by simp) rfl)) (hI.pure 3 _ _ rfl (hd ⟨3, .data⟩ (by simp) rfl)) (hI.pure 7 _ _ rfl (hd ⟨7, .data⟩ (by simp) rfl)) rfl (by simp [go_sem])) (SWcalls h2 hn4 (by decide) (by decide) (fun w2 R2 M2 => turnHead_any (R2.cell (i := 0) (by omega)) (R2.cell (i := 6) (by omega)) (R2.cell (i := 7) (by omega)) R2.lt h2 HG.out M2 HX.out HF.out))
  | 9, _ => cases ho; exact RG.Does.make (u := fun w' => .pointer (some ⟨w'.heap.size, 0, none⟩)) rfl rfl (fun ev w' => alloc46 rfl) (fun L v_ w' h hL => by have := RG.SW.make h hL; rw [← upd_same L 9 true] at this; simpa only [upd_other _ _ (show 8 ≠ 9 by decide), upd_other _ _ (show 10 ≠ 9 by decide)] using this)
  | 10, _ => cases ho; exact RG.Does.put (ls := x.cells) rfl rfl rfl size46 (by simp [Stp.cells, Value.oneCell']) (fun L a w' hI hL hd => ⟨(hI.pure 8 _ _ rfl (hd ⟨8, .data⟩ (by simp) rfl)), by obtain ⟨q, e1, e2, e3⟩ := RG.SW.put hI.world (hd ⟨8, .data⟩ (by simp) rfl) (hd ⟨9, .data⟩ (by simp) rfl) hL; exact ⟨q, 0, e1, e2, by rw [← upd_same L 10 true] at e3; simpa only [upd_other _ _ (show 8 ≠ 10 by decide), upd_other _ _ (show 9 ≠ 10 by decide)] using e3⟩⟩)
 case fin =>
  intro L a' w1 hI hall
  have hw := hI.world
  simp only [hall 8 (by decide), hall 9 (by decide), hall 10 (by decide), if_true] at hw
  obtain ⟨q, hq, hq1, hq2, _, hr⟩ := hw.own rfl
  replace hr := hr rfl
  have ea := act_all a' 33 (by rw [hI.sz]; rfl) hI.df
  simp only [List.range, List.range.loop, List.map] at ea
  rw [hI.fx 0 rfl, hI.fx 1 rfl, hI.fx 2 rfl, hI.fx 3 rfl, hI.fx 4 rfl, hI.fx 5 rfl, hI.fx 16 rfl, hI.fx 17 rfl, hI.fx 18 rfl, hI.fx 19 rfl, hI.fx 20 rfl, hI.fx 21 rfl, hI.fx 22 rfl, hI.fx 23 rfl, hI.fx 24 rfl, hI.fx 25 rfl, hI.fx 26 rfl, hI.fx 27 rfl, hI.fx 28 rfl, hI.fx 29 rfl, hI.fx 30 rfl, hI.fx 31 rfl, hI.fx 32 rfl, hq] at ea
  clear hI hall
  obtain ⟨us, hus⟩ : ∃ us : Nat → Value, ∀ k, a'.eval (.tmp k) = us k := ⟨_, fun _ => rfl⟩
  simp only [hus] at ea
  simp only [show ∀ (ts : Array Value) (ds) (i : Nat), (Act.mk ts ds).eval (.tmp i) = ts.getD i undef from fun _ _ _ => rfl] at ea
  simp at ea
  subst ea
  have M1 := hide (show IsMem w1 bm bw n f' from by simpa using hw.mem)
  have R1 := hide hw.row
  have RR := hide hw.res
  have T1 := hide (T0.out.trans' hw.tch (fun k _ h => .inr h))
  have RQ := hide hr
  have hqb : q ≠ b := by omega
  have hqr : q ≠ w.heap.size := by omega
  have hqm : q ≠ bm ∧ q ≠ bw := by omega
  have lw1 := hw.tch.size
  have l1 : b < w1.heap.size := by omega
  have l2 : w.heap.size < w1.heap.size := by omega
  have l3 : q < w1.heap.size := by omega
  clear hw hr hq
  obtain ⟨s0, s1, s2, s3, s4, s5⟩ := stp6 RQ.out
  have Rw1 := R1
  have Mw1 := M1
  have Qw1 := RR
  have Sw1 := RQ
  have Tw1 := T1
  have s5' : w1.cell? ⟨q, 5, none⟩ = some (.bool true) := by rw [s5, hok]
  have HOK := hide hok
  clear s5 hok
  go_wp2_with fail
  clear s0 s1 s2 s3 s4 s5'
  refine RG.regionB 8 (ks := [(0, 27), (1, 28), (2, 29), (3, 30), (4, 31), (5, 32), (7, 5)]) (vals := fun i => match i with
     | 0 => x.val
     | 1 => .pointer (some ⟨b, 0, none⟩)
     | 2 => .pointer (some ⟨b, 0, none⟩)
     | 3 => .pointer (some ⟨b, 0, none⟩)
     | 4 => .pointer (some ⟨b, 0, none⟩)
     | 5 => .int .i64 1
     | 7 => .int .i64 1
     | _ => undef) (x := 2) (WI := fun L v_ w' => RG.SX b 200 10 (fun c_ g_ => lC hand fn v2 v3 (if g_ = true then ⟨true, 0⟩ else t) lst g ix bh) bm bw n f' f' x w.heap.size (some q) w1 true (L 5) (L 6) w') (by kernel_rfl) (by kernel_rfl) rfl (by kernel_rfl) (by kernel_rfl) (RG.SX.start (c := true) (g := false) Rw1.out (by simpa using Mw1.out) Qw1.out ⟨h1, h2, hn3, hn5, hn4⟩ (fun k e => by cases e; exact ⟨Sw1.out, by omega, hqb, hqm.2, hqr⟩)) ?does ?fin
  case does =>
   intro i o ho
   have hi : i < 8 := RG.lt_of ho rfl
   match i, hi with
   | 0, _ => cases ho; exact RG.rX2 rfl rfl (fun L a w' hI hd => ex_load_row rfl (hI.fx 6 rfl) (hI.world.var _ rfl).1 HD.out.1 HD.out.2 size46)
   | 1, _ => cases ho; exact RG.rX2 rfl rfl (fun L a w' hI hd => ex_move rfl (hI.fx 0 rfl))
   | 2, _ => cases ho; exact RG.rX2 rfl rfl (fun L a w' hI hd => ex_nil rfl (hI.pure 1 _ _ rfl (hd ⟨1, .data⟩ (by simp) rfl)))
   | 3, _ => cases ho; exact RG.rX2 rfl rfl (fun L a w' hI hd => ex_field rfl (hI.pure 2 _ _ rfl (hd ⟨2, .data⟩ (by simp) rfl)) (fieldL0 w' _))
   | 4, _ => cases ho; exact RG.rX2 rfl rfl (fun L a w' hI hd => ex_field rfl (hI.pure 3 _ _ rfl (hd ⟨3, .data⟩ (by simp) rfl)) (fieldLs0 w' _))
   | 5, _ => cases ho; exact RG.Does.call rfl (fun L a w' hI hd => call2 rfl (hI.pure 4 _ _ rfl (hd ⟨4, .data⟩ (by simp) rfl)) rfl rfl (by simp [go_sem])) (fun L v_ w2 hI hL => by have h3 := hI; rw [hL] at h3; refine (end_any ⟨by omega, by omega⟩ h3.row (by omega)).mono ?_; rintro e w3 ⟨rfl, r3, t3⟩; refine ⟨rfl, ?_⟩; rw [upd_same, upd_other _ _ (show 6 ≠ 5 by decide)]; exact h3.turn (g' := true) (r3.congr (fun i hi => l_told _ _ _ _ _ _ _ _ _ _ i hi)) ⟨h3.mem.head.of_block (t3.block _ h3.mem.head.lt (fun e => h1 e.symm)), h3.mem.row.of_block (t3.block _ h3.mem.row.lt (fun e => h2 e.symm)), h3.mem.most, h3.mem.word⟩ t3 (fun k e => .inl e))
   | 6, _ => cases ho; exact RG.Does.put (ls := x.cells) rfl rfl rfl size46 (by simp [Stp.cells, Value.oneCell']) (fun L a w' hI hL hdd => ⟨(hI.pure 0 _ _ rfl (hdd ⟨0, .data⟩ (by simp) rfl)), by obtain ⟨e2, e3⟩ := RG.SX.put hI.world; exact ⟨w.heap.size, 0, hI.fx 4 rfl, e2, by show RG.SX b 200 10 (fun c_ g_ => lC hand fn v2 v3 (if g_ = true then ⟨true, 0⟩ else t) lst g ix bh) bm bw n f' f' x w.heap.size (some q) w1 true (upd L 6 true 5) (upd L 6 true 6) _; rw [upd_same, upd_other _ _ (show 5 ≠ 6 by decide)]; exact e3⟩⟩)
   | 7, _ => cases ho; exact RG.rX2 rfl rfl (fun L a w' hI hd => ex_assign rfl (hI.pure 5 _ _ rfl (hd ⟨5, .data⟩ (by simp) rfl)))
  case fin =>
   intro L a' w' hI hall
   rename_i K2 hK2
   refine hK2 _ _ ?_
   have hw := hI.world
   simp only [hall 5 (by decide), hall 6 (by decide)] at hw
   have rE := hw.sto rfl
   have pE : a'.eval (.tmp 4) = .pointer (some ⟨w.heap.size, 0, none⟩) := hI.fx 4 rfl
   have pe : a'.eval (.tmp 5) = .int .i64 1 := hI.pure 7 5 _ rfl (hall 7 (by decide))
   have hdf : a'.defers = [] := hI.df
   have hS := run_loadVar_mid (P := Tryz.prog) w' w.heap.size 0 _ _ dS rE HD.out.1 HD.out.2 size46
   have hres := results_ct (Q := Tryz.prog) (fn := Tryz.f146) (tmps := a'.tmps) (t := 4) (t' := 5) (W := w') (by rfl) pE hS
   rw [show a'.tmps.getD 5 undef = .int .i64 1 from pe] at hres
   go_wp2
   exact bodyPost_ret (v := .tuple #[x.val, .int .i64 1]) hres hdf ⟨rfl, hw.row, by simpa using hw.mem, Tw1.out.trans' hw.tch (fun k hk h => by rcases h with h | h | h; exact .inl h; exact .inr h; omega)⟩
theorem lay_no {w : World} {b bm bw n : Nat} {f f' : Nat → Int} {x : Stp} {hand : Int} {fn v2 v3 : Value} {t : Ans} {lst g : Int} {ix bh : Int} (h_ : w.rowIs b 200 10 (lC hand fn v2 v3 t lst g ix bh)) (hm : IsMem w bm bw n f) (h1 : b ≠ bm) (h2 : b ≠ bw) (hg : 0 ≤ g ∧ g ≤ 18446744073709551615) (hok : x.ok = false)
  (hx : stepOf n f ⟨hand, 5, lst, g, bmp g ix, true⟩ = x) (hf' : wordsOf n f ⟨hand, 5, lst, g, bmp g ix, true⟩ = f') :
  Calls Tryz.prog 146 #[.pointer (some ⟨b, 0, none⟩), .pointer (some ⟨bm, 0, none⟩)] w fun e w' => e = .returned (.tuple #[x.val, .int .i64 0]) ∧
   w'.rowIs b 200 10 (lC hand (.func (.func 138) #[.pointer (some ⟨b, 0, none⟩)] #[]) v2 v3 t lst g ix bh) ∧ IsMem w' bm bw n f' ∧ Touch w w' (fun k => k = b ∨ k = bw) := by
 have hl := h_.lt
 have lw := hm.row.lt
 have lm := hm.head.lt
 have hn3 : w.heap.size ≠ b := by omega
 have hn4 : w.heap.size ≠ bw := by omega
 have hn5 : w.heap.size ≠ bm := by omega
 obtain ⟨W1, hW1⟩ : ∃ W1, w.alloc (.cells #[.int .i64 0, .int .i64 0, .int .i64 0, .int .u64 0, .int .u64 0, .bool false] 69) = W1 := ⟨_, rfl⟩
 have R := hide (show W1.rowIs b 200 10 (lC hand fn v2 v3 t lst g ix bh) from by rw [← hW1]; exact h_.alloc _)
 have M := hide (show IsMem W1 bm bw n f from by rw [← hW1]; exact hm.alloc _)
 have RZ := hide (show W1.rowIs w.heap.size 69 6 zcell from by rw [← hW1]; exact row0 w)
 have T0 := hide (show Touch w W1 (fun k => k = b ∨ k = bw) from by rw [← hW1]; exact (Touch.refl w _).alloc _)
 have sz : W1.heap.size = w.heap.size + 1 := by rw [← hW1]; simp
 have lW1 : b < W1.heap.size := by omega
 obtain ⟨dS, hdS1, hdS2⟩ := row46
 have HD := hide (And.intro hdS1 hdS2)
 obtain ⟨dG, hdG1, hdG2⟩ := rowSh
 have HDS := hide (And.intro hdG1 hdG2)
 have HX := hide hx
 have HF := hide hf'
 have HW : Hid (0 ≤ (⟨hand, 5, lst, g, bmp g ix, true⟩ : Stp).put ∧ (⟨hand, 5, lst, g, bmp g ix, true⟩ : Stp).put ≤ 18446744073709551615) := ⟨bmp_lo _ _, bmp_hi _ _⟩
 have HG := hide hg
 clear hm h_ hx hf' hdS1 hdS2 hdG1 hdG2 hg
 go_enter Tryz.func146, Tryz.ntmps146
 go_wp2_with fail
 clear hW1
 refine RG.regionB 11 (ks := [(0, 7), (1, 8), (2, 9), (3, 10), (4, 11), (5, 12), (6, 13), (7, 14), (8, 15)]) (vals := fun i => match i with
   | 0 => .pointer (some ⟨b, 0, none⟩)
   | 1 => .pointer (some ⟨b, 0, none⟩)
   | 2 => .pointer (some ⟨b, 0, none⟩)
   | 3 => .pointer (some ⟨bm, 0, none⟩)
   | 4 => .pointer (some ⟨b, 0, none⟩)
   | 5 => .pointer (some ⟨b, 0, none⟩)
   | 6 => .pointer (some ⟨b, 8, none⟩)
   | 7 => .int .i64 ix
   | 8 => x.val
   | _ => undef) (x := 6) (WI := fun L v_ w' => RG.SW b 200 10 (lC hand fn v2 v3 t lst g ix bh) bm bw n f f' x w.heap.size W1 (L 8) (L 9) (L 10) v_ w') (by kernel_rfl) (by kernel_rfl) rfl (by kernel_rfl) (by kernel_rfl) (RG.SW.start R.out M.out RZ.out) ?does ?fin
 case does =>
  intro i o ho
  have hi : i < 11 := RG.lt_of ho rfl
  match i, hi with
  | 0, _ => cases ho; exact RG.rW rfl rfl (fun L a w' hI hd => ex_move rfl (hI.fx 0 rfl))
  | 1, _ => cases ho; exact RG.rW rfl rfl (fun L a w' hI hd => ex_nil rfl (hI.pure 0 _ _ rfl (hd ⟨0, .data⟩ (by simp) rfl)))
  | 2, _ => cases ho; exact RG.rW rfl rfl (fun L a w' hI hd => ex_field rfl (hI.pure 1 _ _ rfl (hd ⟨1, .data⟩ (by simp) rfl)) (fieldL0 w' _))
  | 3, _ => cases ho; exact RG.rW rfl rfl (fun L a w' hI hd => ex_move rfl (hI.fx 1 rfl))
  | 4, _ => cases ho; exact RG.rW rfl rfl (fun L a w' hI hd => ex_move rfl (hI.fx 0 rfl))
  | 5, _ => cases ho; exact RG.rW rfl rfl (fun L a w' hI hd => ex_nil rfl (hI.pure 4 _ _ rfl (hd ⟨4, .data⟩ (by simp) rfl)))
  | 6, _ => cases ho; exact RG.rW rfl rfl (fun L a w' hI hd => ex_field rfl (hI.pure 5 _ _ rfl (hd ⟨5, .data⟩ (by simp) rfl)) (fieldL1 w' _))
  | 7, _ => cases ho; exact RG.rW rfl rfl (fun L a w' hI hd => ex_load rfl (hI.pure 6 _ _ rfl (hd ⟨6, .data⟩ (by simp) rfl)) (aggI w') (hI.world.row.cell (i := 8) (by omega)))
  | 8, _ => cases ho; exact RG.Does.call rfl (fun L a w' hI hd => call3 rfl (hI.pure 2 _ _ rfl (hd ⟨2, .data⟩ (by simp) rfl)) (hI.pure 3 _ _ rfl (hd ⟨3, .data⟩ (by simp) rfl)) (hI.pure 7 _ _ rfl (hd ⟨7, .data⟩ (by simp) rfl)) rfl (by simp [go_sem])) (SWcalls h2 hn4 (by decide) (by decide) (fun w2 R2 M2 => turnHead_any (R2.cell (i := 0) (by omega)) (R2.cell (i := 6) (by omega)) (R2.cell (i := 7) (by omega)) R2.lt h2 HG.out M2 HX.out HF.out))
  | 9, _ => cases ho; exact RG.Does.make (u := fun w' => .pointer (some ⟨w'.heap.size, 0, none⟩)) rfl rfl (fun ev w' => alloc46 rfl) (fun L v_ w' h hL => by have := RG.SW.make h hL; rw [← upd_same L 9 true] at this; simpa only [upd_other _ _ (show 8 ≠ 9 by decide), upd_other _ _ (show 10 ≠ 9 by decide)] using this)
  | 10, _ => cases ho; exact RG.Does.put (ls := x.cells) rfl rfl rfl size46 (by simp [Stp.cells, Value.oneCell']) (fun L a w' hI hL hd => ⟨(hI.pure 8 _ _ rfl (hd ⟨8, .data⟩ (by simp) rfl)), by obtain ⟨q, e1, e2, e3⟩ := RG.SW.put hI.world (hd ⟨8, .data⟩ (by simp) rfl) (hd ⟨9, .data⟩ (by simp) rfl) hL; exact ⟨q, 0, e1, e2, by rw [← upd_same L 10 true] at e3; simpa only [upd_other _ _ (show 8 ≠ 10 by decide), upd_other _ _ (show 9 ≠ 10 by decide)] using e3⟩⟩)
 case fin =>
  intro L a' w1 hI hall
  have hw := hI.world
  simp only [hall 8 (by decide), hall 9 (by decide), hall 10 (by decide), if_true] at hw
  obtain ⟨q, hq, hq1, hq2, _, hr⟩ := hw.own rfl
  replace hr := hr rfl
  have ea := act_all a' 33 (by rw [hI.sz]; rfl) hI.df
  simp only [List.range, List.range.loop, List.map] at ea
  rw [hI.fx 0 rfl, hI.fx 1 rfl, hI.fx 2 rfl, hI.fx 3 rfl, hI.fx 4 rfl, hI.fx 5 rfl, hI.fx 16 rfl, hI.fx 17 rfl, hI.fx 18 rfl, hI.fx 19 rfl, hI.fx 20 rfl, hI.fx 21 rfl, hI.fx 22 rfl, hI.fx 23 rfl, hI.fx 24 rfl, hI.fx 25 rfl, hI.fx 26 rfl, hI.fx 27 rfl, hI.fx 28 rfl, hI.fx 29 rfl, hI.fx 30 rfl, hI.fx 31 rfl, hI.fx 32 rfl, hq] at ea
  clear hI hall
  obtain ⟨us, hus⟩ : ∃ us : Nat → Value, ∀ k, a'.eval (.tmp k) = us k := ⟨_, fun _ => rfl⟩
  simp only [hus] at ea
  simp only [show ∀ (ts : Array Value) (ds) (i : Nat), (Act.mk ts ds).eval (.tmp i) = ts.getD i undef from fun _ _ _ => rfl] at ea
  simp at ea
  subst ea
  have M1 := hide (show IsMem w1 bm bw n f' from by simpa using hw.mem)
  have R1 := hide hw.row
  have RR := hide hw.res
  have T1 := hide (T0.out.trans' hw.tch (fun k _ h => .inr h))
  have RQ := hide hr
  have hqb : q ≠ b := by omega
  have hqr : q ≠ w.heap.size := by omega
  have hqm : q ≠ bm ∧ q ≠ bw := by omega
  have lw1 := hw.tch.size
  have l1 : b < w1.heap.size := by omega
  have l2 : w.heap.size < w1.heap.size := by omega
  have l3 : q < w1.heap.size := by omega
  clear hw hr hq
  obtain ⟨s0, s1, s2, s3, s4, s5⟩ := stp6 RQ.out
  have Rw1 := R1
  have Mw1 := M1
  have Qw1 := RR
  have Sw1 := RQ
  have Tw1 := T1
  have s5' : w1.cell? ⟨q, 5, none⟩ = some (.bool false) := by rw [s5, hok]
  have HOK := hide hok
  clear s5 hok
  go_wp2_with fail
  clear s0 s1 s2 s3 s4 s5'
  refine RG.regionB 10 (ks := [(0, 19), (1, 20), (2, 21), (3, 22), (4, 23), (5, 24), (6, 25), (7, 26), (9, 5)]) (vals := fun i => match i with
     | 0 => x.val
     | 1 => .pointer (some ⟨b, 0, none⟩)
     | 2 => .pointer (some ⟨b, 0, none⟩)
     | 3 => .pointer (some ⟨b, 0, none⟩)
     | 4 => .pointer (some ⟨b, 0, none⟩)
     | 5 => .pointer (some ⟨b, 0, none⟩)
     | 6 => .func (.func 138) #[.pointer (some ⟨b, 0, none⟩)] #[]
     | 7 => .int .i64 0
     | 9 => .int .i64 0
     | _ => undef) (x := 2) (WI := fun L v_ w' => RG.SX b 200 10 (fun c_ g_ => lC hand (if g_ = true then (.func (.func 138) #[.pointer (some ⟨b, 0, none⟩)] #[]) else fn) v2 v3 t lst g ix bh) bm bw n f' f' x w.heap.size (some q) w1 true (L 7) (L 8) w') (by kernel_rfl) (by kernel_rfl) rfl (by kernel_rfl) (by kernel_rfl) (RG.SX.start (c := true) (g := false) Rw1.out (by simpa using Mw1.out) Qw1.out ⟨h1, h2, hn3, hn5, hn4⟩ (fun k e => by cases e; exact ⟨Sw1.out, by omega, hqb, hqm.2, hqr⟩)) ?does ?fin
  case does =>
   intro i o ho
   have hi : i < 10 := RG.lt_of ho rfl
   match i, hi with
   | 0, _ => cases ho; exact RG.rX2 rfl rfl (fun L a w' hI hd => ex_load_row rfl (hI.fx 6 rfl) (hI.world.var _ rfl).1 HD.out.1 HD.out.2 size46)
   | 1, _ => cases ho; exact RG.rX2 rfl rfl (fun L a w' hI hd => ex_move rfl (hI.fx 0 rfl))
   | 2, _ => cases ho; exact RG.rX2 rfl rfl (fun L a w' hI hd => ex_nil rfl (hI.pure 1 _ _ rfl (hd ⟨1, .data⟩ (by simp) rfl)))
   | 3, _ => cases ho; exact RG.rX2 rfl rfl (fun L a w' hI hd => ex_field rfl (hI.pure 2 _ _ rfl (hd ⟨2, .data⟩ (by simp) rfl)) (fieldL0 w' _))
   | 4, _ => cases ho; exact RG.rX2 rfl rfl (fun L a w' hI hd => ex_field rfl (hI.pure 3 _ _ rfl (hd ⟨3, .data⟩ (by simp) rfl)) (fieldLs0 w' _))
   | 5, _ => cases ho; exact RG.rX2 rfl rfl (fun L a w' hI hd => ex_move rfl (hI.fx 0 rfl))
   | 6, _ => cases ho; exact RG.rX2 rfl rfl (fun L a w' hI hd => ex_func rfl (hI.pure 5 _ _ rfl (hd ⟨5, .data⟩ (by simp) rfl)))
   | 7, _ => cases ho; exact RG.Does.call rfl (fun L a w' hI hd => call2 rfl (hI.pure 4 _ _ rfl (hd ⟨4, .data⟩ (by simp) rfl)) (hI.pure 6 _ _ rfl (hd ⟨6, .data⟩ (by simp) rfl)) rfl (by simp [go_sem])) (fun L v_ w2 hI hL => by have h3 := hI; rw [hL] at h3; refine (goOn_any 138 h3.row (by omega)).mono ?_; rintro e w3 ⟨rfl, r3, t3⟩; refine ⟨rfl, ?_⟩; rw [upd_same, upd_other _ _ (show 8 ≠ 7 by decide)]; exact h3.turn (g' := true) (r3.congr (fun i hi => l_fn _ _ _ _ _ _ _ _ _ _ i hi)) ⟨h3.mem.head.of_block (t3.block _ h3.mem.head.lt (fun e => h1 e.symm)), h3.mem.row.of_block (t3.block _ h3.mem.row.lt (fun e => h2 e.symm)), h3.mem.most, h3.mem.word⟩ t3 (fun k e => .inl e))
   | 8, _ => cases ho; exact RG.Does.put (ls := x.cells) rfl rfl rfl size46 (by simp [Stp.cells, Value.oneCell']) (fun L a w' hI hL hdd => ⟨(hI.pure 0 _ _ rfl (hdd ⟨0, .data⟩ (by simp) rfl)), by obtain ⟨e2, e3⟩ := RG.SX.put hI.world; exact ⟨w.heap.size, 0, hI.fx 4 rfl, e2, by show RG.SX b 200 10 (fun c_ g_ => lC hand (if g_ = true then (.func (.func 138) #[.pointer (some ⟨b, 0, none⟩)] #[]) else fn) v2 v3 t lst g ix bh) bm bw n f' f' x w.heap.size (some q) w1 true (upd L 8 true 7) (upd L 8 true 8) _; rw [upd_same, upd_other _ _ (show 7 ≠ 8 by decide)]; exact e3⟩⟩)
   | 9, _ => cases ho; exact RG.rX2 rfl rfl (fun L a w' hI hd => ex_assign rfl (hI.pure 7 _ _ rfl (hd ⟨7, .data⟩ (by simp) rfl)))
  case fin =>
   intro L a' w' hI hall
   rename_i K2 hK2
   refine hK2 _ _ ?_
   have hw := hI.world
   simp only [hall 7 (by decide), hall 8 (by decide)] at hw
   have rE := hw.sto rfl
   have pE : a'.eval (.tmp 4) = .pointer (some ⟨w.heap.size, 0, none⟩) := hI.fx 4 rfl
   have pe : a'.eval (.tmp 5) = .int .i64 0 := hI.pure 9 5 _ rfl (hall 9 (by decide))
   have hdf : a'.defers = [] := hI.df
   have hS := run_loadVar_mid (P := Tryz.prog) w' w.heap.size 0 _ _ dS rE HD.out.1 HD.out.2 size46
   have hres := results_ct (Q := Tryz.prog) (fn := Tryz.f146) (tmps := a'.tmps) (t := 4) (t' := 5) (W := w') (by rfl) pE hS
   rw [show a'.tmps.getD 5 undef = .int .i64 0 from pe] at hres
   go_wp2
   exact bodyPost_ret (v := .tuple #[x.val, .int .i64 0]) hres hdf ⟨rfl, hw.row, by simpa using hw.mem, Tw1.out.trans' hw.tch (fun k hk h => by rcases h with h | h | h; exact .inl h; exact .inr h; omega)⟩
end Ls
end
section
namespace Shape
theorem rng {w' : World} {b : Nat} {v0 v1 v2 v3 v4 v5 : Value} (y0 : w'.cell? ⟨b, 0, none⟩ = some v0) (y1 : w'.cell? ⟨b, 1, none⟩ = some v1) (y2 : w'.cell? ⟨b, 2, none⟩ = some v2) (y3 : w'.cell? ⟨b, 3, none⟩ = some v3) (y4 : w'.cell? ⟨b, 4, none⟩ = some v4) (y5 : w'.cell? ⟨b, 5, none⟩ = some v5) : w'.rangeAt b 0 [v0, v1, v2, v3, v4, v5] := by
 intro j v hv
 match j, hv with
 | 0, hv => cases hv; simpa using y0
 | 1, hv => cases hv; simpa using y1
 | 2, hv => cases hv; simpa using y2
 | 3, hv => cases hv; simpa using y3
 | 4, hv => cases hv; simpa using y4
 | 5, hv => cases hv; simpa using y5
end Shape
end
section
namespace Shape
theorem slot_bad {s0 s1 s2 s3 s4 s5 : Int} {a b : Int} (H : ¬ R5 s0 s1 s2 s3 s4) (w : World) : Calls Tryz.prog 101 #[.agg #[.int .i64 s0, .int .i64 s1, .int .i64 s2, .int .i64 s3, .int .i64 s4, .int .i64 s5], .int .i64 a, .int .i64 b] w fun e w' => e = .returned (.tuple #[.int .i64 0, .int .i64 120]) ∧ Below w.heap.size w w' := by
 have HH := hide H
 clear H
 obtain ⟨q1, T1⟩ : ∃ q1, Hid (∀ w1 : World, Calls Tryz.prog 41 #[.int .i64 a, .int .i64 1, .int .i64 s0] w1 fun e w' => e = .returned (.bool q1) ∧ w' = w1) := ⟨_, fun w1 => within_any w1⟩
 obtain ⟨q2, T2⟩ : ∃ q2, Hid (∀ w1 : World, Calls Tryz.prog 119 #[.int .i64 b, .int .i64 s1] w1 fun e w' => e = .returned (.bool q2) ∧ w' = w1) := ⟨_, fun w1 => isn_any w1⟩
 obtain ⟨W0, hW0, B0, K⟩ := box w s0 s1 s2 s3 s4 s5
 have HB := hide B0
 obtain ⟨-, l0, x0, x1, x2, x3, x4, x5⟩ := K.out W0 (Below.refl _ _)
 clear B0
 cases q1
 ·go_enter Tryz.func101, Tryz.ntmps101
  go_wp2_with fail
  refine Lt.region (ks := [(0, 9), (1, 10), (2, 11), (3, 12), (4, 13), (5, 14), (6, 15), (7, 16), (8, 17), (9, 18), (10, 19), (11, 20), (12, 8)]) (vals := fun iv => match iv with
    | 0 => .agg #[.int .i64 s0, .int .i64 s1, .int .i64 s2, .int .i64 s3, .int .i64 s4, .int .i64 s5]
    | 1 => .int .i64 a
    | 2 => .pointer (some ⟨w.heap.size, 0, none⟩)
    | 3 => .int .i64 s0
    | 4 => .bool false
    | 5 => .bool false
    | 6 => undef
    | 7 => undef
    | 8 => undef
    | 9 => undef
    | 10 => .bool false
    | 11 => .int .i64 120
    | 12 => .int .i64 120
    | _ => undef) (WI := fun w' => Below W0.heap.size W0 w') (by kernel_rfl) ?bk rfl ?dd (⟨rfl, rfl, rfl, Nat.le_refl _, fun _ _ => rfl⟩) ?does ?fin
  case bk =>
   intro iq oq ho
   have hiq : iq < 13 := by have := (Array.getElem?_eq_some_iff.1 ho).1; simpa using this
   match iq, hiq with
   | 0, _ | 1, _ | 2, _ | 3, _ | 4, _ | 5, _ | 6, _ | 7, _ | 8, _ | 9, _ | 10, _ | 11, _ | 12, _ => injection ho with ho; subst ho; simp [Region.binds]
  case dd =>
   intro k hk
   have hk' : k < 30 := by
    simp [Lt.D] at hk
    omega
   simpa using hk'
  case does =>
   intro iq oq ho
   have hiq : iq < 13 := by have := (Array.getElem?_eq_some_iff.1 ho).1; simpa using this
   match iq, hiq with
   | 0, _ => injection ho with ho; subst ho; exact Lt.Does.read rfl (fun Lq aq w' hI hq => Lt.wn0 rfl) (fun Lq aq w' hI hq => Lt.ex_load_row rfl (hI.fix 3 (Lt.notD rfl)) (by obtain ⟨-, -, y0, y1, y2, y3, y4, y5⟩ := K.out w' hI.world; exact rng y0 y1 y2 y3 y4 y5) (by kernel_rfl) (by kernel_rfl))
   | 1, _ => injection ho with ho; subst ho; exact Lt.Does.read rfl (fun Lq aq w' hI hq => Lt.wn0 rfl) (fun Lq aq w' hI hq => Lt.ex_move rfl (hI.fix 1 (Lt.notD rfl)))
   | 2, _ => injection ho with ho; subst ho; exact Lt.Does.read rfl (fun Lq aq w' hI hq => Lt.wn0 rfl) (fun Lq aq w' hI hq => Lt.ex_field rfl (hI.fix 3 (Lt.notD rfl)) (by simp [go_sem]))
   | 3, _ => injection ho with ho; subst ho; exact Lt.Does.read rfl (fun Lq aq w' hI hq => Lt.wn0 rfl) (fun Lq aq w' hI hq => Lt.ex_load rfl (hI.pure 2 _ _ rfl (hq ⟨2, .data⟩ (by simp) rfl)) (by simp [go_sem]) (by obtain ⟨-, -, y0, y1, y2, y3, y4, y5⟩ := K.out w' hI.world; exact y0))
   | 4, _ => injection ho with ho; subst ho; exact Lt.Does.call rfl (fun Lq aq w' hI hq => Lt.wn0 rfl) (fun Lq aq w' hI hq => Lt.call3 rfl (hI.pure 1 _ _ rfl (hq ⟨1, .data⟩ (by simp) rfl)) rfl (hI.pure 3 _ _ rfl (hq ⟨3, .data⟩ (by simp) rfl)) rfl (by simp [go_sem])) (fun w1 hw1 => (T1.out w1).mono (by rintro e w2 ⟨rfl, hw2⟩; obtain rfl := hw2.symm; exact ⟨rfl, hw1⟩))
   | 5, _ => injection ho with ho; subst ho; exact Lt.Does.read rfl (fun Lq aq w' hI hq => Lt.wn0 rfl) (fun Lq aq w' hI hq => Lt.ex_move rfl (hI.pure 4 _ _ rfl (hq ⟨4, .data⟩ (by simp) rfl)))
   | 6, _ => injection ho with ho; subst ho; exact .skip rfl (fun Lq aq w' hI hq => Lt.wnG (d := 14) (c := false) rfl rfl (hI.pure 5 _ _ rfl (hq ⟨5, .guard⟩ (by simp) rfl)) rfl) rfl
   | 7, _ => injection ho with ho; subst ho; exact .skip rfl (fun Lq aq w' hI hq => Lt.wnG (d := 14) (c := false) rfl rfl (hI.pure 5 _ _ rfl (hq ⟨5, .guard⟩ (by simp) rfl)) rfl) rfl
   | 8, _ => injection ho with ho; subst ho; exact .skip rfl (fun Lq aq w' hI hq => Lt.wnG (d := 14) (c := false) rfl rfl (hI.pure 5 _ _ rfl (hq ⟨5, .guard⟩ (by simp) rfl)) rfl) rfl
   | 9, _ => injection ho with ho; subst ho; exact .skip rfl (fun Lq aq w' hI hq => Lt.wnG (d := 14) (c := false) rfl rfl (hI.pure 5 _ _ rfl (hq ⟨5, .guard⟩ (by simp) rfl)) rfl) rfl
   | 10, _ => injection ho with ho; subst ho; exact Lt.Does.read rfl (fun Lq aq w' hI hq => Lt.wn0 rfl) (fun Lq aq w' hI hq => Lt.ex_pick (b := false) rfl (hI.pure 5 _ _ rfl (hq ⟨5, .data⟩ (by simp) rfl)) (by first | exact rfl | simpa using rfl))
   | 11, _ => injection ho with ho; subst ho; exact Lt.Does.call rfl (fun Lq aq w' hI hq => Lt.wn0 rfl) (fun Lq aq w' hI hq => Lt.call2 rfl (hI.pure 0 _ _ rfl (hq ⟨0, .data⟩ (by simp) rfl)) (hI.pure 10 _ _ rfl (hq ⟨10, .data⟩ (by simp) rfl)) rfl (by simp [go_sem])) (fun w1 hw1 => (cw_bad HH.out _ w1).mono (by rintro e w2 ⟨rfl, hb⟩; exact ⟨rfl, hw1.trans (hb.mono hw1.size)⟩))
   | 12, _ => injection ho with ho; subst ho; exact Lt.Does.read rfl (fun Lq aq w' hI hq => Lt.wn0 rfl) (fun Lq aq w' hI hq => Lt.ex_assign rfl (hI.pure 11 _ _ rfl (hq ⟨11, .data⟩ (by simp) rfl)))
  case fin =>
   intro Lq a' w' hI hall
   have hw := hI.world
   obtain rfl : a' = ⟨#[.agg #[.int .i64 s0, .int .i64 s1, .int .i64 s2, .int .i64 s3, .int .i64 s4, .int .i64 s5], .int .i64 a, .int .i64 b, .pointer (some ⟨w.heap.size, 0, none⟩), undef, undef, .int .i64 0, .int .i64 0, .int .i64 120, .agg #[.int .i64 s0, .int .i64 s1, .int .i64 s2, .int .i64 s3, .int .i64 s4, .int .i64 s5], .int .i64 a, .pointer (some ⟨w.heap.size, 0, none⟩), .int .i64 s0, .bool false, .bool false, undef, undef, undef, undef, .bool false, .int .i64 120, undef, undef, undef, undef, undef, undef, undef, undef, undef], []⟩ := Lt.act_eq a' [.agg #[.int .i64 s0, .int .i64 s1, .int .i64 s2, .int .i64 s3, .int .i64 s4, .int .i64 s5], .int .i64 a, .int .i64 b, .pointer (some ⟨w.heap.size, 0, none⟩), undef, undef, .int .i64 0, .int .i64 0, .int .i64 120, .agg #[.int .i64 s0, .int .i64 s1, .int .i64 s2, .int .i64 s3, .int .i64 s4, .int .i64 s5], .int .i64 a, .pointer (some ⟨w.heap.size, 0, none⟩), .int .i64 s0, .bool false, .bool false, undef, undef, undef, undef, .bool false, .int .i64 120, undef, undef, undef, undef, undef, undef, undef, undef, undef] hI.df (by rw [hI.sz]; rfl) (fun k hk => by
    have hk' : k < 30 := hk
    match k, hk' with
    | 0, _ => exact hI.fix 0 (Lt.notD rfl)
    | 1, _ => exact hI.fix 1 (Lt.notD rfl)
    | 2, _ => exact hI.fix 2 (Lt.notD rfl)
    | 3, _ => exact hI.fix 3 (Lt.notD rfl)
    | 4, _ => exact hI.fix 4 (Lt.notD rfl)
    | 5, _ => exact hI.fix 5 (Lt.notD rfl)
    | 6, _ => exact hI.fix 6 (Lt.notD rfl)
    | 7, _ => exact hI.fix 7 (Lt.notD rfl)
    | 8, _ => exact hI.pure 12 8 _ rfl (hall 12 (by decide))
    | 9, _ => exact hI.pure 0 9 _ rfl (hall 0 (by decide))
    | 10, _ => exact hI.pure 1 10 _ rfl (hall 1 (by decide))
    | 11, _ => exact hI.pure 2 11 _ rfl (hall 2 (by decide))
    | 12, _ => exact hI.pure 3 12 _ rfl (hall 3 (by decide))
    | 13, _ => exact hI.pure 4 13 _ rfl (hall 4 (by decide))
    | 14, _ => exact hI.pure 5 14 _ rfl (hall 5 (by decide))
    | 15, _ => exact hI.pure 6 15 _ rfl (hall 6 (by decide))
    | 16, _ => exact hI.pure 7 16 _ rfl (hall 7 (by decide))
    | 17, _ => exact hI.pure 8 17 _ rfl (hall 8 (by decide))
    | 18, _ => exact hI.pure 9 18 _ rfl (hall 9 (by decide))
    | 19, _ => exact hI.pure 10 19 _ rfl (hall 10 (by decide))
    | 20, _ => exact hI.pure 11 20 _ rfl (hall 11 (by decide))
    | 21, _ => exact hI.fix 21 (Lt.notD rfl)
    | 22, _ => exact hI.fix 22 (Lt.notD rfl)
    | 23, _ => exact hI.fix 23 (Lt.notD rfl)
    | 24, _ => exact hI.fix 24 (Lt.notD rfl)
    | 25, _ => exact hI.fix 25 (Lt.notD rfl)
    | 26, _ => exact hI.fix 26 (Lt.notD rfl)
    | 27, _ => exact hI.fix 27 (Lt.notD rfl)
    | 28, _ => exact hI.fix 28 (Lt.notD rfl)
    | 29, _ => exact hI.fix 29 (Lt.notD rfl)
    | q + 30, hq => exact absurd hq (by omega))
   rename_i K2 hK2
   refine hK2 _ _ ?_
   go_wp2_with fail
   go_ret2
   exact ⟨rfl, (K.out _ hw).1⟩
 ·go_enter Tryz.func101, Tryz.ntmps101
  go_wp2_with fail
  go_region_held (fun w' => w'.cell? ⟨w.heap.size, 0, none⟩ = some (.int .i64 s0) ∧ w'.cell? ⟨w.heap.size, 1, none⟩ = some (.int .i64 s1) ∧ w'.cell? ⟨w.heap.size, 2, none⟩ = some (.int .i64 s2) ∧ w'.cell? ⟨w.heap.size, 3, none⟩ = some (.int .i64 s3) ∧ w'.cell? ⟨w.heap.size, 4, none⟩ = some (.int .i64 s4) ∧ w'.cell? ⟨w.heap.size, 5, none⟩ = some (.int .i64 s5)) (go_keep) (first | (go_at_call 41; refine (T1.out _).mono ?_; rintro e wq ⟨rfl, hwq⟩; obtain rfl := hwq.symm) | (go_at_call 119; refine (T2.out _).mono ?_; rintro e wq ⟨rfl, hwq⟩; obtain rfl := hwq.symm) | (go_at_call 40; refine (cw_bad HH.out _ _).mono ?_; rintro e w1 ⟨rfl, hb1⟩; have HB1 := hide (show Below W0.heap.size W0 w1 from ⟨hb1.os, hb1.tape, hb1.output, hb1.size, hb1.block⟩); clear hb1; obtain ⟨-, m1, y10, y11, y12, y13, y14, y15⟩ := K.out w1 HB1.out))
  all_goals go_wp2_with fail
  all_goals go_ret2
  all_goals exact ⟨rfl, (K.out _ HB1.out).1⟩
theorem slot_arg1 {s0 s1 s2 s3 s4 s5 : Int} {a b : Int} (H : R5 s0 s1 s2 s3 s4) (ha : ¬ (1 ≤ a ∧ a ≤ s0)) (w : World) : Calls Tryz.prog 101 #[.agg #[.int .i64 s0, .int .i64 s1, .int .i64 s2, .int .i64 s3, .int .i64 s4, .int .i64 s5], .int .i64 a, .int .i64 b] w fun e w' => e = .returned (.tuple #[.int .i64 0, .int .i64 2]) ∧ Below w.heap.size w w' := by
 have HH := hide H
 have T1 := hide (fun w1 : World => within_f ha w1)
 clear H ha
 obtain ⟨W0, hW0, B0, K⟩ := box w s0 s1 s2 s3 s4 s5
 have HB := hide B0
 obtain ⟨-, l0, x0, x1, x2, x3, x4, x5⟩ := K.out W0 (Below.refl _ _)
 clear B0
 go_enter Tryz.func101, Tryz.ntmps101
 go_wp2_with fail
 refine Lt.region (ks := [(0, 9), (1, 10), (2, 11), (3, 12), (4, 13), (5, 14), (6, 15), (7, 16), (8, 17), (9, 18), (10, 19), (11, 20), (12, 8)]) (vals := fun iv => match iv with
   | 0 => .agg #[.int .i64 s0, .int .i64 s1, .int .i64 s2, .int .i64 s3, .int .i64 s4, .int .i64 s5]
   | 1 => .int .i64 a
   | 2 => .pointer (some ⟨w.heap.size, 0, none⟩)
   | 3 => .int .i64 s0
   | 4 => .bool false
   | 5 => .bool false
   | 6 => undef
   | 7 => undef
   | 8 => undef
   | 9 => undef
   | 10 => .bool false
   | 11 => .int .i64 2
   | 12 => .int .i64 2
   | _ => undef) (WI := fun w' => Below W0.heap.size W0 w') (by kernel_rfl) ?bk rfl ?dd (⟨rfl, rfl, rfl, Nat.le_refl _, fun _ _ => rfl⟩) ?does ?fin
 case bk =>
  intro iq oq ho
  have hiq : iq < 13 := by have := (Array.getElem?_eq_some_iff.1 ho).1; simpa using this
  match iq, hiq with
  | 0, _ | 1, _ | 2, _ | 3, _ | 4, _ | 5, _ | 6, _ | 7, _ | 8, _ | 9, _ | 10, _ | 11, _ | 12, _ => injection ho with ho; subst ho; simp [Region.binds]
 case dd =>
  intro k hk
  have hk' : k < 30 := by
   simp [Lt.D] at hk
   omega
  simpa using hk'
 case does =>
  intro iq oq ho
  have hiq : iq < 13 := by have := (Array.getElem?_eq_some_iff.1 ho).1; simpa using this
  match iq, hiq with
  | 0, _ => injection ho with ho; subst ho; exact Lt.Does.read rfl (fun Lq aq w' hI hq => Lt.wn0 rfl) (fun Lq aq w' hI hq => Lt.ex_load_row rfl (hI.fix 3 (Lt.notD rfl)) (by obtain ⟨-, -, y0, y1, y2, y3, y4, y5⟩ := K.out w' hI.world; exact rng y0 y1 y2 y3 y4 y5) (by kernel_rfl) (by kernel_rfl))
  | 1, _ => injection ho with ho; subst ho; exact Lt.Does.read rfl (fun Lq aq w' hI hq => Lt.wn0 rfl) (fun Lq aq w' hI hq => Lt.ex_move rfl (hI.fix 1 (Lt.notD rfl)))
  | 2, _ => injection ho with ho; subst ho; exact Lt.Does.read rfl (fun Lq aq w' hI hq => Lt.wn0 rfl) (fun Lq aq w' hI hq => Lt.ex_field rfl (hI.fix 3 (Lt.notD rfl)) (by simp [go_sem]))
  | 3, _ => injection ho with ho; subst ho; exact Lt.Does.read rfl (fun Lq aq w' hI hq => Lt.wn0 rfl) (fun Lq aq w' hI hq => Lt.ex_load rfl (hI.pure 2 _ _ rfl (hq ⟨2, .data⟩ (by simp) rfl)) (by simp [go_sem]) (by obtain ⟨-, -, y0, y1, y2, y3, y4, y5⟩ := K.out w' hI.world; exact y0))
  | 4, _ => injection ho with ho; subst ho; exact Lt.Does.call rfl (fun Lq aq w' hI hq => Lt.wn0 rfl) (fun Lq aq w' hI hq => Lt.call3 rfl (hI.pure 1 _ _ rfl (hq ⟨1, .data⟩ (by simp) rfl)) rfl (hI.pure 3 _ _ rfl (hq ⟨3, .data⟩ (by simp) rfl)) rfl (by simp [go_sem])) (fun w1 hw1 => (T1.out w1).mono (by rintro e w2 ⟨rfl, hw2⟩; obtain rfl := hw2.symm; exact ⟨rfl, hw1⟩))
  | 5, _ => injection ho with ho; subst ho; exact Lt.Does.read rfl (fun Lq aq w' hI hq => Lt.wn0 rfl) (fun Lq aq w' hI hq => Lt.ex_move rfl (hI.pure 4 _ _ rfl (hq ⟨4, .data⟩ (by simp) rfl)))
  | 6, _ => injection ho with ho; subst ho; exact .skip rfl (fun Lq aq w' hI hq => Lt.wnG (d := 14) (c := false) rfl rfl (hI.pure 5 _ _ rfl (hq ⟨5, .guard⟩ (by simp) rfl)) rfl) rfl
  | 7, _ => injection ho with ho; subst ho; exact .skip rfl (fun Lq aq w' hI hq => Lt.wnG (d := 14) (c := false) rfl rfl (hI.pure 5 _ _ rfl (hq ⟨5, .guard⟩ (by simp) rfl)) rfl) rfl
  | 8, _ => injection ho with ho; subst ho; exact .skip rfl (fun Lq aq w' hI hq => Lt.wnG (d := 14) (c := false) rfl rfl (hI.pure 5 _ _ rfl (hq ⟨5, .guard⟩ (by simp) rfl)) rfl) rfl
  | 9, _ => injection ho with ho; subst ho; exact .skip rfl (fun Lq aq w' hI hq => Lt.wnG (d := 14) (c := false) rfl rfl (hI.pure 5 _ _ rfl (hq ⟨5, .guard⟩ (by simp) rfl)) rfl) rfl
  | 10, _ => injection ho with ho; subst ho; exact Lt.Does.read rfl (fun Lq aq w' hI hq => Lt.wn0 rfl) (fun Lq aq w' hI hq => Lt.ex_pick (b := false) rfl (hI.pure 5 _ _ rfl (hq ⟨5, .data⟩ (by simp) rfl)) (by first | exact rfl | simpa using rfl))
  | 11, _ => injection ho with ho; subst ho; exact Lt.Does.call rfl (fun Lq aq w' hI hq => Lt.wn0 rfl) (fun Lq aq w' hI hq => Lt.call2 rfl (hI.pure 0 _ _ rfl (hq ⟨0, .data⟩ (by simp) rfl)) (hI.pure 10 _ _ rfl (hq ⟨10, .data⟩ (by simp) rfl)) rfl (by simp [go_sem])) (fun w1 hw1 => (cw_arg HH.out w1).mono (by rintro e w2 ⟨rfl, hb⟩; exact ⟨rfl, hw1.trans (hb.mono hw1.size)⟩))
  | 12, _ => injection ho with ho; subst ho; exact Lt.Does.read rfl (fun Lq aq w' hI hq => Lt.wn0 rfl) (fun Lq aq w' hI hq => Lt.ex_assign rfl (hI.pure 11 _ _ rfl (hq ⟨11, .data⟩ (by simp) rfl)))
 case fin =>
  intro Lq a' w' hI hall
  have hw := hI.world
  obtain rfl : a' = ⟨#[.agg #[.int .i64 s0, .int .i64 s1, .int .i64 s2, .int .i64 s3, .int .i64 s4, .int .i64 s5], .int .i64 a, .int .i64 b, .pointer (some ⟨w.heap.size, 0, none⟩), undef, undef, .int .i64 0, .int .i64 0, .int .i64 2, .agg #[.int .i64 s0, .int .i64 s1, .int .i64 s2, .int .i64 s3, .int .i64 s4, .int .i64 s5], .int .i64 a, .pointer (some ⟨w.heap.size, 0, none⟩), .int .i64 s0, .bool false, .bool false, undef, undef, undef, undef, .bool false, .int .i64 2, undef, undef, undef, undef, undef, undef, undef, undef, undef], []⟩ := Lt.act_eq a' [.agg #[.int .i64 s0, .int .i64 s1, .int .i64 s2, .int .i64 s3, .int .i64 s4, .int .i64 s5], .int .i64 a, .int .i64 b, .pointer (some ⟨w.heap.size, 0, none⟩), undef, undef, .int .i64 0, .int .i64 0, .int .i64 2, .agg #[.int .i64 s0, .int .i64 s1, .int .i64 s2, .int .i64 s3, .int .i64 s4, .int .i64 s5], .int .i64 a, .pointer (some ⟨w.heap.size, 0, none⟩), .int .i64 s0, .bool false, .bool false, undef, undef, undef, undef, .bool false, .int .i64 2, undef, undef, undef, undef, undef, undef, undef, undef, undef] hI.df (by rw [hI.sz]; rfl) (fun k hk => by
   have hk' : k < 30 := hk
   match k, hk' with
   | 0, _ => exact hI.fix 0 (Lt.notD rfl)
   | 1, _ => exact hI.fix 1 (Lt.notD rfl)
   | 2, _ => exact hI.fix 2 (Lt.notD rfl)
   | 3, _ => exact hI.fix 3 (Lt.notD rfl)
   | 4, _ => exact hI.fix 4 (Lt.notD rfl)
   | 5, _ => exact hI.fix 5 (Lt.notD rfl)
   | 6, _ => exact hI.fix 6 (Lt.notD rfl)
   | 7, _ => exact hI.fix 7 (Lt.notD rfl)
   | 8, _ => exact hI.pure 12 8 _ rfl (hall 12 (by decide))
   | 9, _ => exact hI.pure 0 9 _ rfl (hall 0 (by decide))
   | 10, _ => exact hI.pure 1 10 _ rfl (hall 1 (by decide))
   | 11, _ => exact hI.pure 2 11 _ rfl (hall 2 (by decide))
   | 12, _ => exact hI.pure 3 12 _ rfl (hall 3 (by decide))
   | 13, _ => exact hI.pure 4 13 _ rfl (hall 4 (by decide))
   | 14, _ => exact hI.pure 5 14 _ rfl (hall 5 (by decide))
   | 15, _ => exact hI.pure 6 15 _ rfl (hall 6 (by decide))
   | 16, _ => exact hI.pure 7 16 _ rfl (hall 7 (by decide))
   | 17, _ => exact hI.pure 8 17 _ rfl (hall 8 (by decide))
   | 18, _ => exact hI.pure 9 18 _ rfl (hall 9 (by decide))
   | 19, _ => exact hI.pure 10 19 _ rfl (hall 10 (by decide))
   | 20, _ => exact hI.pure 11 20 _ rfl (hall 11 (by decide))
   | 21, _ => exact hI.fix 21 (Lt.notD rfl)
   | 22, _ => exact hI.fix 22 (Lt.notD rfl)
   | 23, _ => exact hI.fix 23 (Lt.notD rfl)
   | 24, _ => exact hI.fix 24 (Lt.notD rfl)
   | 25, _ => exact hI.fix 25 (Lt.notD rfl)
   | 26, _ => exact hI.fix 26 (Lt.notD rfl)
   | 27, _ => exact hI.fix 27 (Lt.notD rfl)
   | 28, _ => exact hI.fix 28 (Lt.notD rfl)
   | 29, _ => exact hI.fix 29 (Lt.notD rfl)
   | q + 30, hq => exact absurd hq (by omega))
  rename_i K2 hK2
  refine hK2 _ _ ?_
  go_wp2_with fail
  go_ret2
  exact ⟨rfl, (K.out _ hw).1⟩
theorem slot_arg2 {s0 s1 s2 s3 s4 s5 : Int} {a b : Int} (H : R5 s0 s1 s2 s3 s4) (ha : 1 ≤ a ∧ a ≤ s0) (hb : ¬ (0 ≤ b ∧ b < s1)) (w : World) : Calls Tryz.prog 101 #[.agg #[.int .i64 s0, .int .i64 s1, .int .i64 s2, .int .i64 s3, .int .i64 s4, .int .i64 s5], .int .i64 a, .int .i64 b] w fun e w' => e = .returned (.tuple #[.int .i64 0, .int .i64 2]) ∧ Below w.heap.size w w' := by
 have HH := hide H
 have T1 := hide (fun w1 : World => within_t ha.1 ha.2 w1)
 have T2 := hide (fun w1 : World => isn_f hb w1)
 clear H ha hb
 obtain ⟨W0, hW0, B0, K⟩ := box w s0 s1 s2 s3 s4 s5
 have HB := hide B0
 obtain ⟨-, l0, x0, x1, x2, x3, x4, x5⟩ := K.out W0 (Below.refl _ _)
 clear B0
 go_enter Tryz.func101, Tryz.ntmps101
 go_wp2_with fail
 go_region_held (fun w' => w'.cell? ⟨w.heap.size, 0, none⟩ = some (.int .i64 s0) ∧ w'.cell? ⟨w.heap.size, 1, none⟩ = some (.int .i64 s1) ∧ w'.cell? ⟨w.heap.size, 2, none⟩ = some (.int .i64 s2) ∧ w'.cell? ⟨w.heap.size, 3, none⟩ = some (.int .i64 s3) ∧ w'.cell? ⟨w.heap.size, 4, none⟩ = some (.int .i64 s4) ∧ w'.cell? ⟨w.heap.size, 5, none⟩ = some (.int .i64 s5)) (go_keep) (first | (go_at_call 41; refine (T1.out _).mono ?_; rintro e wq ⟨rfl, hwq⟩; obtain rfl := hwq.symm) | (go_at_call 119; refine (T2.out _).mono ?_; rintro e wq ⟨rfl, hwq⟩; obtain rfl := hwq.symm) | (go_at_call 40; refine (cw_arg HH.out _).mono ?_; rintro e w1 ⟨rfl, hb1⟩; have HB1 := hide (show Below W0.heap.size W0 w1 from ⟨hb1.os, hb1.tape, hb1.output, hb1.size, hb1.block⟩); clear hb1; obtain ⟨-, m1, y10, y11, y12, y13, y14, y15⟩ := K.out w1 HB1.out))
 all_goals go_wp2_with fail
 all_goals go_ret2
 all_goals exact ⟨rfl, (K.out _ HB1.out).1⟩
theorem slot_ok {o s h r k : Nat} {s5 : Int} {a b p q : Nat} (H : (⟨o, s, h, r, k⟩ : Sh).Ok) (hp : h * r = p) (ha1 : 1 ≤ a) (ha : a ≤ o) (hq : (a - 1) * (3 + s) = q) (hq2 : q ≤ 448) (hb : b < s) (w : World) : Calls Tryz.prog 101 #[.agg #[.int .i64 (o : Int), .int .i64 (s : Int), .int .i64 (h : Int), .int .i64 (r : Int), .int .i64 (k : Int), .int .i64 s5], .int .i64 (a : Int), .int .i64 (b : Int)] w fun e w' => e = .returned (.tuple #[.int .i64 (8 + (h : Int) + (p : Int) + (k : Int) + (q : Int) + 3 + (b : Int)), .int .i64 0]) ∧ Below w.heap.size w w' := by
 have HH := hide (r5 H)
 obtain ⟨b1, b2, b3, b4, b5, b6, b7, b8, b9, b10⟩ := bnds H
 rw [hp] at b6
 have T1 := hide (fun w1 : World => within_t (n := (a : Int)) (lo := 1) (hi := (o : Int)) (by omega) (by omega) w1)
 have T2 := hide (fun w1 : World => isn_t (n := (b : Int)) (c := (s : Int)) (by omega) (by omega) w1)
 have RA := hide (fun w1 => objectAt_any (o := o) (s := s) (h := h) (r := r) (k := k) (s5 := s5) (i := a) (p := p) (q := q) b3 b2 b5 hp (by omega) ha1 (by omega) hq hq2 w1)
 clear hp hq
 clear H b7
 obtain ⟨W0, hW0, B0, K⟩ := box w (o : Int) (s : Int) (h : Int) (r : Int) (k : Int) s5
 have HB := hide B0
 obtain ⟨-, l0, x0, x1, x2, x3, x4, x5⟩ := K.out W0 (Below.refl _ _)
 clear B0
 go_enter Tryz.func101, Tryz.ntmps101
 go_wp2_with fail
 go_region_held (fun w' => w'.cell? ⟨w.heap.size, 0, none⟩ = some (.int .i64 (o : Int)) ∧ w'.cell? ⟨w.heap.size, 1, none⟩ = some (.int .i64 (s : Int)) ∧ w'.cell? ⟨w.heap.size, 2, none⟩ = some (.int .i64 (h : Int)) ∧ w'.cell? ⟨w.heap.size, 3, none⟩ = some (.int .i64 (r : Int)) ∧ w'.cell? ⟨w.heap.size, 4, none⟩ = some (.int .i64 (k : Int)) ∧ w'.cell? ⟨w.heap.size, 5, none⟩ = some (.int .i64 s5)) (go_keep) (first | (go_at_call 41; refine (T1.out _).mono ?_; rintro e wq ⟨rfl, hwq⟩; obtain rfl := hwq.symm) | (go_at_call 119; refine (T2.out _).mono ?_; rintro e wq ⟨rfl, hwq⟩; obtain rfl := hwq.symm) | (go_at_call 40; refine (cw_ok HH.out _).mono ?_; rintro e w1 ⟨rfl, hb1⟩; have HB1 := hide (show Below W0.heap.size W0 w1 from ⟨hb1.os, hb1.tape, hb1.output, hb1.size, hb1.block⟩); clear hb1; obtain ⟨-, m1, y10, y11, y12, y13, y14, y15⟩ := K.out w1 HB1.out))
 all_goals go_wp2_with (go_at_call 42; refine (RA.out _).mono ?_; rintro e w2 ⟨rfl, hb2⟩; have HB2 := hide (HB1.out.trans (hb2.mono HB1.out.size)); clear hb2)
 all_goals go_ret2
 all_goals exact ⟨rfl, (K.out _ HB2.out).1⟩
end Shape
end
end Go.Proofs.YtppgbndoijppnaaGreat
