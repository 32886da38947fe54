/-
  Lemmas: HeapA.
-/
import Derived.Test.YtmikhglnomgbfaaGreatTp22
import Derived.Test.YtmikhglnomgbfaaGreatTp18
import Derived.Test.YtmikhglnomgbfaaGreatTp26
namespace Go.Proofs.YtmikhglnomgbfaaGreat
set_option maxHeartbeats 8000000
open Go.RowKit
set_option linter.unusedVariables false
set_option linter.unusedSimpArgs false
set_option maxRecDepth 20000
section
namespace Hp
theorem fieldS5 (w : World) (b : Nat) : (Instr.fieldAt 75 (.pointer (some ⟨b, 0, none⟩)) 5).run Tryz.prog w = .ok (.pointer (some ⟨b, 5, none⟩)) w := by simp [go_sem]
theorem aggI (w : World) : (isAgg 3).run Tryz.prog w = .ok false w := by simp [go_sem]
theorem aggU (w : World) : (isAgg 50).run Tryz.prog w = .ok false w := by simp [go_sem]
theorem call3 {ev : Operand → Value} {o : Oper} {w : World} {f : FuncId} {x0 x1 x2 : Operand} {ts : Array TypeId} {v0 v1 v2 : Value} (ho : o.op = Op.call { callee := Callee.value (Operand.func f), args := #[x0, x1, x2], argTypes := ts }) (h0 : ev x0 = v0) (h1 : ev x1 = v1) (h2 : ev x2 = v2) (hf : ev (Operand.func f) = .func (.func f) #[] #[]) (hcf : (callFunc f #[v0, v1, v2]).run Tryz.prog w = .ok (.enter f #[v0, v1, v2]) w) : (execOp ev o).run Tryz.prog w = .ok (.enter f #[v0, v1, v2]) w := by
 simp [execOp, ho, h0, h1, h2, hf, hcf, go_sem]
theorem SWcalls {b T nc : Nat} {C : Nat → Value} {bm bw n : Nat} {f f' : Nat → Int} {X : Stp} {r : Nat} {w0 : World} {fd : FuncId} {args : Array Value} {kc ia is : Nat} (hb : b ≠ bw) (hr : r ≠ bw) (n1 : ia ≠ kc) (n2 : is ≠ kc)
  (hc : ∀ w, w.rowIs b T nc C → IsMem w bm bw n f → Calls Tryz.prog fd args w fun e w' => e = .returned X.val ∧ IsMem w' bm bw n f' ∧ w.grownBy w' (some bw)) :
  ∀ (L : Nat → Bool) v w, RG.SW b T nc C bm bw n f f' X r w0 (L kc) (L ia) (L is) v w → L kc = false →
   Calls Tryz.prog fd args w fun e w' => e = .returned X.val ∧ RG.SW b T nc C bm bw n f f' X r w0 (upd L kc true kc) (upd L kc true ia) (upd L kc true is) v w' := by
 intro L v w h hL
 have hm := h.mem
 rw [hL, if_neg (by decide)] at hm
 refine (hc w h.row hm).mono ?_
 rintro e w' ⟨rfl, hm', hg⟩
 rw [upd_same, upd_other _ _ n1, upd_other _ _ n2]
 exact ⟨rfl, h.act hL hb hr hm' hg⟩
theorem cell_of_block {w w' : World} {b : Nat} (h : w'.heap[b]? = w.heap[b]?) (i : Nat) : w'.cell? ⟨b, i, none⟩ = w.cell? ⟨b, i, none⟩ := by simp only [World.cell?, h]
theorem sizeSh : (Tryz.prog.info? 23).map (·.size) = some 6 := by kernel_rfl
theorem rowSh : ∃ d, Tryz.prog.underlying 23 = some d ∧ d.isRow = true := by
 exact ⟨_, Tryz.underlying23, rfl⟩
theorem shrow {w : World} {b T nc : Nat} {C : Nat → Value} {sh : Shp} (hn : 10 < nc) (h5 : C 5 = .int .i64 sh.a) (h6 : C 6 = .int .i64 sh.b) (h7 : C 7 = .int .i64 sh.c) (h8 : C 8 = .int .i64 sh.d) (h9 : C 9 = .int .i64 sh.e) (h10 : C 10 = .int .i64 sh.f) (h : w.rowIs b T nc C) : w.rangeAt b 5 [.int .i64 sh.a, .int .i64 sh.b, .int .i64 sh.c, .int .i64 sh.d, .int .i64 sh.e, .int .i64 sh.f] := by
 intro j v hj
 have hj6 : j < 6 := (List.getElem?_eq_some_iff.1 hj).1
 rw [h.cell (i := 5 + j) (by omega)]
 match j, hj6 with
 | 0, _ => rw [show 5 + 0 = 5 from rfl, h5]; exact hj
 | 1, _ => rw [show 5 + 1 = 6 from rfl, h6]; exact hj
 | 2, _ => rw [show 5 + 2 = 7 from rfl, h7]; exact hj
 | 3, _ => rw [show 5 + 3 = 8 from rfl, h8]; exact hj
 | 4, _ => rw [show 5 + 4 = 9 from rfl, h9]; exact hj
 | 5, _ => rw [show 5 + 5 = 10 from rfl, h10]; exact hj
theorem res_facts {w : World} {r : Nat} (h : w.rowIs r 75 6 zcell) : (w.cell? ⟨r, 0, none⟩ = some (.int .i64 0) ∧ w.frozen? ⟨r, 0, none⟩ = false) ∧ (w.cell? ⟨r, 1, none⟩ = some (.int .i64 0) ∧ w.frozen? ⟨r, 1, none⟩ = false) ∧ (w.cell? ⟨r, 2, none⟩ = some (.int .i64 0) ∧ w.frozen? ⟨r, 2, none⟩ = false) ∧ (w.cell? ⟨r, 3, none⟩ = some (.int .u64 0) ∧ w.frozen? ⟨r, 3, none⟩ = false) ∧ (w.cell? ⟨r, 4, none⟩ = some (.int .u64 0) ∧ w.frozen? ⟨r, 4, none⟩ = false) ∧ (w.cell? ⟨r, 5, none⟩ = some (.bool false) ∧ w.frozen? ⟨r, 5, none⟩ = false) :=
 ⟨⟨h.cell (i := 0) (by omega), h.frozen 0⟩, ⟨h.cell (i := 1) (by omega), h.frozen 1⟩, ⟨h.cell (i := 2) (by omega), h.frozen 2⟩, ⟨h.cell (i := 3) (by omega), h.frozen 3⟩, ⟨h.cell (i := 4) (by omega), h.frozen 4⟩, ⟨h.cell (i := 5) (by omega), h.frozen 5⟩⟩
theorem load_any {w : World} {b bm bw n : Nat} {f f' : Nat → Int} {x : Stp} {hand at_ : Int} (c0 : w.cell? ⟨b, 0, none⟩ = some (.int .i64 hand)) (hl : b < w.heap.size) (hm : IsMem w bm bw n f) (hp : 0 ≤ (⟨hand, 1, at_, 0, 0, true⟩ : Stp).put ∧ (⟨hand, 1, at_, 0, 0, true⟩ : Stp).put ≤ 18446744073709551615)
  (hx : stepOf n f ⟨hand, 1, at_, 0, 0, true⟩ = x) (hf' : wordsOf n f ⟨hand, 1, at_, 0, 0, true⟩ = f') :
  Calls Tryz.prog 86 #[.pointer (some ⟨b, 0, none⟩), .pointer (some ⟨bm, 0, none⟩), .int .i64 at_] w fun e w' => e = .returned x.val ∧ IsMem w' bm bw n f' ∧ w.grownBy w' (some bw) := by
 have lw := hm.row.lt
 have lm := hm.head.lt
 have K := do_mem (hm.alloc (.cells #[.int .i64 0, .int .i64 0, .int .i64 0, .int .u64 0, .int .u64 0, .bool false] 75)) ⟨hand, 1, at_, 0, 0, true⟩ hp
 rw [hx, hf'] at K
 have K0 := hide K
 have RW := hide (row0 w)
 clear hm hx hf' hp K
 go_enter Tryz.func86, Tryz.ntmps86
 go_wp2_with fail
 refine K0.out.mono ?_
 rintro e w1 ⟨rfl, hm1, hg1⟩
 simp only [Stp.val]
 have s1 := hg1.size
 simp only [World.size_alloc] at s1
 have RR := hide (RW.out.of_block (hg1.block w.heap.size (by simp) (by simp; omega)))
 have M1 := hide hm1
 have G1 := hide (grown_trans (grown_alloc (grown_refl w (some bw)) (.cells #[.int .i64 0, .int .i64 0, .int .i64 0, .int .u64 0, .int .u64 0, .bool false] 75)) hg1)
 clear hm1 hg1 K0 RW
 have l2 : w.heap.size < w1.heap.size := by omega
 obtain ⟨⟨r0, rf0⟩, ⟨r1, rf1⟩, ⟨r2, rf2⟩, ⟨r3, rf3⟩, ⟨r4, rf4⟩, r5, rf5⟩ := res_facts RR.out
 go_wp2_with fail
 go_light
 refine bodyPost_ret (v := x.val) ?res rfl ⟨rfl, ?mem, ?gro⟩
 case mem =>
  repeat (first | (with_reducible apply IsMem.alloc) | (with_reducible apply IsMem.drew) | ((with_reducible refine IsMem.setOther ?_ ?_ ?_ _); rotate_left; (simp; omega); (simp; omega)))
  with_reducible exact M1.out
 case gro =>
  repeat (with_reducible refine grown_setCell ?_ _ (.inr (Nat.le_refl _)) _)
  with_reducible exact G1.out
 case res => simp [results, Tryz.results86, go_sem, Stp.val, *]
theorem cas_any {w : World} {b bm bw n : Nat} {f f' : Nat → Int} {x : Stp} {hand at_ old v : Int} (c0 : w.cell? ⟨b, 0, none⟩ = some (.int .i64 hand)) (hl : b < w.heap.size) (hm : IsMem w bm bw n f) (hp : 0 ≤ (⟨hand, 5, at_, old, v, true⟩ : Stp).put ∧ (⟨hand, 5, at_, old, v, true⟩ : Stp).put ≤ 18446744073709551615)
  (hx : stepOf n f ⟨hand, 5, at_, old, v, true⟩ = x) (hf' : wordsOf n f ⟨hand, 5, at_, old, v, true⟩ = f') :
  Calls Tryz.prog 118 #[.pointer (some ⟨b, 0, none⟩), .pointer (some ⟨bm, 0, none⟩), .int .i64 at_, .int .u64 old, .int .u64 v] w fun e w' => e = .returned x.val ∧ IsMem w' bm bw n f' ∧ w.grownBy w' (some bw) := by
 have lw := hm.row.lt
 have lm := hm.head.lt
 have K := do_mem (hm.alloc (.cells #[.int .i64 0, .int .i64 0, .int .i64 0, .int .u64 0, .int .u64 0, .bool false] 75)) ⟨hand, 5, at_, old, v, true⟩ hp
 rw [hx, hf'] at K
 have K0 := hide K
 have RW := hide (row0 w)
 clear hm hx hf' hp K
 go_enter Tryz.func118, Tryz.ntmps118
 go_wp2_with fail
 refine K0.out.mono ?_
 rintro e w1 ⟨rfl, hm1, hg1⟩
 simp only [Stp.val]
 have s1 := hg1.size
 simp only [World.size_alloc] at s1
 have RR := hide (RW.out.of_block (hg1.block w.heap.size (by simp) (by simp; omega)))
 have M1 := hide hm1
 have G1 := hide (grown_trans (grown_alloc (grown_refl w (some bw)) (.cells #[.int .i64 0, .int .i64 0, .int .i64 0, .int .u64 0, .int .u64 0, .bool false] 75)) hg1)
 clear hm1 hg1 K0 RW
 have l2 : w.heap.size < w1.heap.size := by omega
 obtain ⟨⟨r0, rf0⟩, ⟨r1, rf1⟩, ⟨r2, rf2⟩, ⟨r3, rf3⟩, ⟨r4, rf4⟩, r5, rf5⟩ := res_facts RR.out
 go_wp2_with fail
 go_light
 refine bodyPost_ret (v := x.val) ?res rfl ⟨rfl, ?mem, ?gro⟩
 case mem =>
  repeat (first | (with_reducible apply IsMem.alloc) | (with_reducible apply IsMem.drew) | ((with_reducible refine IsMem.setOther ?_ ?_ ?_ _); rotate_left; (simp; omega); (simp; omega)))
  with_reducible exact M1.out
 case gro =>
  repeat (with_reducible refine grown_setCell ?_ _ (.inr (Nat.le_refl _)) _)
  with_reducible exact G1.out
 case res => simp [results, Tryz.results118, go_sem, Stp.val, *]
theorem store_any {w : World} {b bm bw n : Nat} {f f' : Nat → Int} {x : Stp} {hand at_ v : Int} (c0 : w.cell? ⟨b, 0, none⟩ = some (.int .i64 hand)) (hl : b < w.heap.size) (hm : IsMem w bm bw n f) (hp : 0 ≤ (⟨hand, 2, at_, 0, v, true⟩ : Stp).put ∧ (⟨hand, 2, at_, 0, v, true⟩ : Stp).put ≤ 18446744073709551615)
  (hx : stepOf n f ⟨hand, 2, at_, 0, v, true⟩ = x) (hf' : wordsOf n f ⟨hand, 2, at_, 0, v, true⟩ = f') :
  Calls Tryz.prog 95 #[.pointer (some ⟨b, 0, none⟩), .pointer (some ⟨bm, 0, none⟩), .int .i64 at_, .int .u64 v] w fun e w' => e = .returned x.val ∧ IsMem w' bm bw n f' ∧ w.grownBy w' (some bw) := by
 have lw := hm.row.lt
 have lm := hm.head.lt
 have K := do_mem (hm.alloc (.cells #[.int .i64 0, .int .i64 0, .int .i64 0, .int .u64 0, .int .u64 0, .bool false] 75)) ⟨hand, 2, at_, 0, v, true⟩ hp
 rw [hx, hf'] at K
 have K0 := hide K
 have RW := hide (row0 w)
 clear hm hx hf' hp K
 go_enter Tryz.func95, Tryz.ntmps95
 go_wp2_with fail
 refine K0.out.mono ?_
 rintro e w1 ⟨rfl, hm1, hg1⟩
 simp only [Stp.val]
 have s1 := hg1.size
 simp only [World.size_alloc] at s1
 have RR := hide (RW.out.of_block (hg1.block w.heap.size (by simp) (by simp; omega)))
 have M1 := hide hm1
 have G1 := hide (grown_trans (grown_alloc (grown_refl w (some bw)) (.cells #[.int .i64 0, .int .i64 0, .int .i64 0, .int .u64 0, .int .u64 0, .bool false] 75)) hg1)
 clear hm1 hg1 K0 RW
 have l2 : w.heap.size < w1.heap.size := by omega
 obtain ⟨⟨r0, rf0⟩, ⟨r1, rf1⟩, ⟨r2, rf2⟩, ⟨r3, rf3⟩, ⟨r4, rf4⟩, r5, rf5⟩ := res_facts RR.out
 go_wp2_with fail
 go_light
 refine bodyPost_ret (v := x.val) ?res rfl ⟨rfl, ?mem, ?gro⟩
 case mem =>
  repeat (first | (with_reducible apply IsMem.alloc) | (with_reducible apply IsMem.drew) | ((with_reducible refine IsMem.setOther ?_ ?_ ?_ _); rotate_left; (simp; omega); (simp; omega)))
  with_reducible exact M1.out
 case gro =>
  repeat (with_reducible refine grown_setCell ?_ _ (.inr (Nat.le_refl _)) _)
  with_reducible exact G1.out
 case res => simp [results, Tryz.results95, go_sem, Stp.val, *]
theorem add_any {w : World} {b bm bw n : Nat} {f f' : Nat → Int} {x : Stp} {hand at_ v : Int} (c0 : w.cell? ⟨b, 0, none⟩ = some (.int .i64 hand)) (hl : b < w.heap.size) (hm : IsMem w bm bw n f) (hp : 0 ≤ (⟨hand, 4, at_, 0, v, true⟩ : Stp).put ∧ (⟨hand, 4, at_, 0, v, true⟩ : Stp).put ≤ 18446744073709551615)
  (hx : stepOf n f ⟨hand, 4, at_, 0, v, true⟩ = x) (hf' : wordsOf n f ⟨hand, 4, at_, 0, v, true⟩ = f') :
  Calls Tryz.prog 122 #[.pointer (some ⟨b, 0, none⟩), .pointer (some ⟨bm, 0, none⟩), .int .i64 at_, .int .u64 v] w fun e w' => e = .returned x.val ∧ IsMem w' bm bw n f' ∧ w.grownBy w' (some bw) := by
 have lw := hm.row.lt
 have lm := hm.head.lt
 have K := do_mem (hm.alloc (.cells #[.int .i64 0, .int .i64 0, .int .i64 0, .int .u64 0, .int .u64 0, .bool false] 75)) ⟨hand, 4, at_, 0, v, true⟩ hp
 rw [hx, hf'] at K
 have K0 := hide K
 have RW := hide (row0 w)
 clear hm hx hf' hp K
 go_enter Tryz.func122, Tryz.ntmps122
 go_wp2_with fail
 refine K0.out.mono ?_
 rintro e w1 ⟨rfl, hm1, hg1⟩
 simp only [Stp.val]
 have s1 := hg1.size
 simp only [World.size_alloc] at s1
 have RR := hide (RW.out.of_block (hg1.block w.heap.size (by simp) (by simp; omega)))
 have M1 := hide hm1
 have G1 := hide (grown_trans (grown_alloc (grown_refl w (some bw)) (.cells #[.int .i64 0, .int .i64 0, .int .i64 0, .int .u64 0, .int .u64 0, .bool false] 75)) hg1)
 clear hm1 hg1 K0 RW
 have l2 : w.heap.size < w1.heap.size := by omega
 obtain ⟨⟨r0, rf0⟩, ⟨r1, rf1⟩, ⟨r2, rf2⟩, ⟨r3, rf3⟩, ⟨r4, rf4⟩, r5, rf5⟩ := res_facts RR.out
 go_wp2_with fail
 go_light
 refine bodyPost_ret (v := x.val) ?res rfl ⟨rfl, ?mem, ?gro⟩
 case mem =>
  repeat (first | (with_reducible apply IsMem.alloc) | (with_reducible apply IsMem.drew) | ((with_reducible refine IsMem.setOther ?_ ?_ ?_ _); rotate_left; (simp; omega); (simp; omega)))
  with_reducible exact M1.out
 case gro =>
  repeat (with_reducible refine grown_setCell ?_ _ (.inr (Nat.le_refl _)) _)
  with_reducible exact G1.out
 case res => simp [results, Tryz.results122, go_sem, Stp.val, *]
theorem goOn_any {w : World} {b T nc : Nat} {C : Nat → Value} (F : FuncId) (h : w.rowIs b T nc C) (hn : 1 < nc) :
  Calls Tryz.prog 57 #[.pointer (some ⟨b, 0, none⟩), .func (.func F) #[.pointer (some ⟨b, 0, none⟩)] #[]] w fun e w' => e = .returned (.int .i64 0) ∧ w'.rowIs b T nc (fun i => if i = 1 then .func (.func F) #[.pointer (some ⟨b, 0, none⟩)] #[] else C i) ∧ Touch w w' (fun k => k = b) := by
 have c1 := h.cell (i := 1) hn
 have f1 := h.frozen 1
 have hl := h.lt
 have R := hide (h.set 1 (.func (.func F) #[.pointer (some ⟨b, 0, none⟩)] #[]))
 have T0 := hide ((Touch.refl w (fun k => k = b)).setCell ⟨b, 1, none⟩ (.inl rfl) (.func (.func F) #[.pointer (some ⟨b, 0, none⟩)] #[]))
 have rs : ∀ w1 : World, (store ⟨b, 1, none⟩ (.func (.func F) #[.pointer (some ⟨b, 0, none⟩)] #[])).run Tryz.prog w1 = stored Tryz.prog w1 ⟨b, 1, none⟩ (.func (.func F) #[.pointer (some ⟨b, 0, none⟩)] #[]) .plain := fun w1 => run_store Tryz.prog w1 _ _ _ rfl
 clear h
 go_enter Tryz.func57, Tryz.ntmps57
 go_wp2_with fail
 go_ret
 exact ⟨rfl, R.out, T0.out⟩
theorem end_any {w : World} {b T nc : Nat} {C : Nat → Value} {i : Int} (hi : 0 ≤ i ∧ i ≤ 18446744073709551615) (h : w.rowIs b T nc C) (hn : 4 < nc) :
  Calls Tryz.prog 123 #[.pointer (some ⟨b, 0, none⟩), .int .u64 i] w fun e w' => e = .returned (.int .i64 1) ∧ w'.rowIs b T nc (fun k => if k = 4 then .int .u64 i else if k = 3 then .bool true else C k) ∧ Touch w w' (fun k => k = b) := by
 have c3 := h.cell (i := 3) (by omega)
 have f3 := h.frozen 3
 have c4 := h.cell (i := 4) (by omega)
 have f4 := h.frozen 4
 have hl := h.lt
 have R := hide ((h.set 3 (.bool true)).set 4 (.int .u64 i))
 have T0 := hide (((Touch.refl w (fun k => k = b)).setCell ⟨b, 3, none⟩ (.inl rfl) (.bool true)).setCell ⟨b, 4, none⟩ (.inl rfl) (.int .u64 i))
 have g1 : IntKind.u64.wrap i = i := by rw [IntKind.wrap_u64]; omega
 clear h
 go_enter Tryz.func123, Tryz.ntmps123
 go_wp2_with fail
 go_ret
 exact ⟨rfl, R.out, T0.out⟩
theorem turnList_any {w : World} {b bm bw n : Nat} {f f' : Nat → Int} {x : Stp} {hand at_ g i : Int} (c0 : w.cell? ⟨b, 0, none⟩ = some (.int .i64 hand)) (c2 : w.cell? ⟨b, 2, none⟩ = some (.int .u64 g)) (hl : b < w.heap.size) (h2 : b ≠ bw) (hg : 0 ≤ g ∧ g ≤ 18446744073709551615) (hm : IsMem w bm bw n f) (hx : stepOf n f ⟨hand, 5, at_, g, bmp g i, true⟩ = x) (hf' : wordsOf n f ⟨hand, 5, at_, g, bmp g i, true⟩ = f') :
  Calls Tryz.prog 105 #[.pointer (some ⟨b, 0, none⟩), .pointer (some ⟨bm, 0, none⟩), .int .i64 at_, .int .i64 i] w fun e w' => e = .returned x.val ∧ IsMem w' bm bw n f' ∧ w.grownBy w' (some bw) := by
 have lw := hm.row.lt
 have lm := hm.head.lt
 have KC := hide (fun (w1 : World) (h1 : IsMem w1 bm bw n f) (h2 : w1.cell? ⟨b, 0, none⟩ = some (.int .i64 hand)) (h3 : b < w1.heap.size) => cas_any h2 h3 h1 ⟨bmp_lo g i, bmp_hi g i⟩ hx hf')
 have BP := hide (fun w1 : World => bump_any g i hg.1 (by omega) w1)
 obtain ⟨W1, hW1⟩ : ∃ W1, w.alloc (.cells #[.int .i64 0, .int .i64 0, .int .i64 0, .int .u64 0, .int .u64 0, .bool false] 75) = W1 := ⟨_, rfl⟩
 have RZ := hide (show W1.rowIs w.heap.size 75 6 zcell from by rw [← hW1]; exact row0 w)
 have M := hide (show IsMem W1 bm bw n f from by rw [← hW1]; exact hm.alloc _)
 have B0 : Below w.heap.size w W1 := by rw [← hW1]; exact (Below.refl _ w).alloc (Nat.le_refl _) _
 have e0 : W1.cell? ⟨b, 0, none⟩ = some (.int .i64 hand) := (B0.cell (p := ⟨b, 0, none⟩) hl).trans c0
 have e2 : W1.cell? ⟨b, 2, none⟩ = some (.int .u64 g) := (B0.cell (p := ⟨b, 2, none⟩) hl).trans c2
 clear B0
 have sz : W1.heap.size = w.heap.size + 1 := by rw [← hW1]; simp
 have lb : b < W1.heap.size := by omega
 have G0 := hide (show w.grownBy W1 (some bw) from by rw [← hW1]; exact grown_alloc (grown_refl w (some bw)) _)
 clear hm hx hf' hg
 go_enter Tryz.func105, Tryz.ntmps105
 go_wp2_with fail
 clear hW1 c0 c2
 have hn4 : w.heap.size ≠ bw := by omega
 have hn3 : w.heap.size ≠ b := by omega
 have hn6 : b ≠ w.heap.size := by omega
 have hn7 : bm ≠ w.heap.size := by omega
 have hn8 : bw ≠ w.heap.size := by omega
 go_region_held (fun w' => w'.cell? ⟨b, 2, none⟩ = some (.int .u64 g)) (go_keep) (first | (go_at_call 119; refine (BP.out _).mono ?_; rintro e wq ⟨rfl, hwq⟩; obtain rfl := hwq.symm) | (go_at_call 118; refine (KC.out _ (by with_reducible exact M.out.drew) (by simpa using e0) (by simpa using lb)).mono ?_; rintro e w1 ⟨rfl, hm1, hg1⟩; have G1 := hide (grown_trans (grown_drew G0.out) hg1); have M1 := hide hm1; have RR := hide (RZ.out.drew.of_block (hg1.block w.heap.size (by simp; omega) (by simpa using hn4))); have s1 := hg1.size; have k2 : w1.cell? ⟨b, 2, none⟩ = some (.int .u64 g) := (cell_of_block (hg1.block b (by simpa using lb) (by simpa using h2)) 2).trans (by simpa using e2); have l2 : w.heap.size < w1.heap.size := (by simp only [World.size_drew] at s1; omega); obtain ⟨⟨r0, rf0⟩, ⟨r1, rf1⟩, ⟨r2, rf2⟩, ⟨r3, rf3⟩, ⟨r4, rf4⟩, r5, rf5⟩ := res_facts RR.out; simp only [Stp.val]; clear hm1 hg1))
 all_goals go_wp2_with fail
 all_goals go_light
 all_goals refine bodyPost_ret (v := x.val) ?res rfl ⟨rfl, ?mem, ?gro⟩
 case mem =>
  repeat (first | (with_reducible apply IsMem.alloc) | (with_reducible apply IsMem.drew) | ((with_reducible refine IsMem.setOther ?_ ?_ ?_ _); rotate_left; (simp; omega); (simp; omega)))
  with_reducible exact M1.out
 case gro =>
  repeat (with_reducible refine grown_setCell ?_ _ (.inr (Nat.le_refl _)) _)
  with_reducible exact G1.out
 case res => simp [results, Tryz.results105, go_sem, Stp.val, *]
theorem loadList_any {w : World} {b T nc bm bw n : Nat} {C : Nat → Value} {f f' : Nat → Int} {x : Stp} {hand at_ : Int} (h : w.rowIs b T nc C) (hn : 2 < nc) (c0 : C 0 = .int .i64 hand) (hm : IsMem w bm bw n f) (h1 : b ≠ bm) (h2 : b ≠ bw)
  (hx : stepOf n f ⟨hand, 1, at_, 0, 0, true⟩ = x) (hf' : wordsOf n f ⟨hand, 1, at_, 0, 0, true⟩ = f') :
  Calls Tryz.prog 54 #[.pointer (some ⟨b, 0, none⟩), .pointer (some ⟨bm, 0, none⟩), .int .i64 at_] w fun e w' => e = .returned x.val ∧ w'.rowIs b T nc (fun i => if i = 2 then .int .u64 x.had else C i) ∧ IsMem w' bm bw n f' ∧ Touch w w' (fun k => k = b ∨ k = bw) := by
 have lw := hm.row.lt
 have lm := hm.head.lt
 have hl := h.lt
 have e0 := h.cell (i := 0) (by omega)
 rw [c0] at e0
 have hA := h.alloc (.cells #[.int .i64 0, .int .i64 0, .int .i64 0, .int .u64 0, .int .u64 0, .bool false] 75)
 have a0 := hA.cell (i := 0) (by omega)
 rw [c0] at a0
 have K0 := hide (load_any a0 hA.lt (hm.alloc (.cells #[.int .i64 0, .int .i64 0, .int .i64 0, .int .u64 0, .int .u64 0, .bool false] 75)) ⟨by show (0 : Int) ≤ 0; omega, by show (0 : Int) ≤ 18446744073709551615; omega⟩ hx hf')
 have RZ := hide (row0 w)
 have HH := hide hA
 clear hm hx hf' h hA a0
 go_enter Tryz.func54, Tryz.ntmps54
 go_wp2_with fail
 refine K0.out.mono ?_
 rintro e w1 ⟨rfl, hm1, hg1⟩
 simp only [Stp.val]
 have s1 := hg1.size
 simp only [World.size_alloc] at s1
 have RR := hide (RZ.out.of_block (hg1.block w.heap.size (by simp) (by simp; omega)))
 have RB := hide (HH.out.of_block (hg1.block b (by simp; omega) (by simpa using h2)))
 have M1 := hide hm1
 have T1 := hide (((Touch.refl w (fun k => k = b ∨ k = bw)).alloc (.cells #[.int .i64 0, .int .i64 0, .int .i64 0, .int .u64 0, .int .u64 0, .bool false] 75)).trans' (Touch.of_grown hg1) (fun k _ e => .inr (by simpa using e)))
 clear hm1 hg1 K0 RZ HH e0
 have l1 : b < w1.heap.size := by omega
 have l2 : w.heap.size < w1.heap.size := by omega
 obtain ⟨⟨r0, rf0⟩, ⟨r1, rf1⟩, ⟨r2, rf2⟩, ⟨r3, rf3⟩, ⟨r4, rf4⟩, r5, rf5⟩ := res_facts RR.out
 have d2 := RB.out.cell (i := 2) hn
 have df2 := RB.out.frozen 2
 have hne : b ≠ w.heap.size := by omega
 have hnm : bm ≠ w.heap.size ∧ bw ≠ w.heap.size := by omega
 go_wp2_with fail
 go_light
 refine bodyPost_ret (v := x.val) ?res rfl ⟨rfl, ?row, ?mem, ?tch⟩
 case row =>
  repeat (first | (with_reducible apply World.rowIs.alloc) | (with_reducible refine World.rowIs.setOther ?_ ?side _; case side => (simp; omega)))
  with_reducible refine World.rowIs.set ?_ 2 _
  repeat (first | (with_reducible apply World.rowIs.alloc) | (with_reducible refine World.rowIs.setOther ?_ ?side _; case side => (simp; omega)))
  with_reducible exact RB.out
 case mem =>
  repeat (first | (with_reducible apply IsMem.alloc) | ((with_reducible refine IsMem.setOther ?_ ?_ ?_ _); rotate_left; (simp; omega); (simp; omega)))
  with_reducible exact M1.out
 case tch =>
  repeat (first | (with_reducible apply Touch.alloc) | (with_reducible refine Touch.setCell ?_ _ ?side _; case side => (first | (simp; done) | (simp; omega))))
  with_reducible exact T1.out
 case res => simp [results, Tryz.results54, go_sem, Stp.val, *]
theorem first_any {w : World} {b : Nat} {g : Int} (c2 : w.cell? ⟨b, 2, none⟩ = some (.int .u64 g)) (hl : b < w.heap.size) (hg : 0 ≤ g ∧ g ≤ 18446744073709551615) :
  Calls Tryz.prog 55 #[.pointer (some ⟨b, 0, none⟩)] w fun e w' => e = .returned (.int .i64 (idx g)) ∧ w' = w := by
 have IX := hide (fun w1 : World => index_any g hg.1 (by omega) w1)
 clear hg
 go_enter Tryz.func55, Tryz.ntmps55
 go_wp2_with fail
 refine (IX.out _).mono ?_
 rintro e w1 ⟨rfl, rfl⟩
 go_wp2_with fail
 go_ret
 exact ⟨rfl, rfl⟩
theorem refuse_any (p : Value) (w : World) : Calls Tryz.prog 56 #[p] w fun e w' => e = .returned (.int .i64 1) ∧ w' = w := by
 go_enter Tryz.func56, Tryz.ntmps56
 go_wp2_with fail
 go_ret
 exact ⟨rfl, rfl⟩
theorem workBegin {w : World} {b T nc : Nat} {C : Nat → Value} {hand : Int} (F : FuncId) (h : w.rowIs b T nc C) (hn : 1 < nc) :
  Calls Tryz.prog 30 #[.pointer (some ⟨b, 0, none⟩), .int .i64 hand, .func (.func F) #[.pointer (some ⟨b, 0, none⟩)] #[]] w fun e w' => e = .returned (.tuple #[]) ∧ w'.rowIs b T nc (fun i => if i = 1 then .func (.func F) #[.pointer (some ⟨b, 0, none⟩)] #[] else if i = 0 then .int .i64 hand else C i) ∧ Touch w w' (fun k => k = b) := by
 have c0 := h.cell (i := 0) (by omega)
 have f0 := h.frozen 0
 have c1 := h.cell (i := 1) hn
 have f1 := h.frozen 1
 have hl := h.lt
 have R := hide ((h.set 0 (.int .i64 hand)).set 1 (.func (.func F) #[.pointer (some ⟨b, 0, none⟩)] #[]))
 have T0 := hide (((Touch.refl w (fun k => k = b)).setCell ⟨b, 0, none⟩ (.inl rfl) (.int .i64 hand)).setCell ⟨b, 1, none⟩ (.inl rfl) (.func (.func F) #[.pointer (some ⟨b, 0, none⟩)] #[]))
 have rs : ∀ w1 : World, (store ⟨b, 1, none⟩ (.func (.func F) #[.pointer (some ⟨b, 0, none⟩)] #[])).run Tryz.prog w1 = stored Tryz.prog w1 ⟨b, 1, none⟩ (.func (.func F) #[.pointer (some ⟨b, 0, none⟩)] #[]) .plain := fun w1 => run_store Tryz.prog w1 _ _ _ rfl
 clear h
 go_enter Tryz.func30, Tryz.ntmps30
 go_wp2_with fail
 exact bodyPost_end (results_none (by rfl) _ _ _) rfl ⟨rfl, R.out, T0.out⟩
theorem aggB (w : World) : (isAgg 4).run Tryz.prog w = .ok false w := by simp [go_sem]
theorem ex_not {ev : Operand → Value} {o : Oper} {w : World} {x : Operand} {v : Bool} (ho : o.op = .unOp .not 4 x) (hx : ev x = .bool v) : (execOp ev o).run Tryz.prog w = .ok (.value (.bool (!v))) w := by
 simp [execOp, ho, hx, go_sem]
theorem ex_eqm {ev : Operand → Value} {o : Oper} {w : World} {x y : Operand} {v c : Int} {r : Bool} (ho : o.op = .binOp .eql 3 x y 3) (hx : ev x = .int .i64 v) (hy : ev y = .int .i64 c) (hr : (v == c) = r) : (execOp ev o).run Tryz.prog w = .ok (.value (.bool r)) w := by
 subst hr
 simp [execOp, ho, hx, hy, go_sem]
theorem stp6 {w : World} {q : Nat} {x : Stp} (h : w.rangeAt q 0 x.cells) : w.cell? ⟨q, 0, none⟩ = some (.int .i64 x.hand) ∧ w.cell? ⟨q, 1, none⟩ = some (.int .i64 x.act) ∧ w.cell? ⟨q, 2, none⟩ = some (.int .i64 x.at_) ∧ w.cell? ⟨q, 3, none⟩ = some (.int .u64 x.had) ∧ w.cell? ⟨q, 4, none⟩ = some (.int .u64 x.put) ∧ w.cell? ⟨q, 5, none⟩ = some (.bool x.ok) :=
 ⟨by simpa using h 0 _ rfl, by simpa using h 1 _ rfl, by simpa using h 2 _ rfl, by simpa using h 3 _ rfl, by simpa using h 4 _ rfl, by simpa using h 5 _ rfl⟩
theorem SWq {b T nc : Nat} {C : Nat → Value} {bm bw n : Nat} {f f' : Nat → Int} {X : Stp} {r : Nat} {w0 w w' : World} {c al st : Bool} {v : Value} (h : RG.SW b T nc C bm bw n f f' X r w0 c al st v w) (hb : Below w.heap.size w w') : RG.SW b T nc C bm bw n f f' X r w0 c al st v w' :=
 ⟨h.row.of_block (hb.block _ h.row.lt), ⟨h.mem.head.of_block (hb.block _ h.mem.head.lt), h.mem.row.of_block (hb.block _ h.mem.row.lt), h.mem.most, h.mem.word⟩, h.res.of_block (hb.block _ h.res.lt), h.tch.trans' (S' := fun _ => False) ⟨hb.os, hb.tape, hb.output, hb.size, fun k hk _ => hb.block k hk⟩ (fun _ _ e => e.elim), h.lts, fun ha => by obtain ⟨q, e, h1, h2, h3, h4⟩ := h.own ha; exact ⟨q, e, h1, Nat.lt_of_lt_of_le h2 hb.size, fun e => (h3 e).of_block (hb.block _ h2), fun e => rangeAt_block (h4 e) (hb.block _ h2)⟩, h.dep⟩
theorem SXq {b T nc : Nat} {C : Bool → Bool → Nat → Value} {bm bw n : Nat} {f f' : Nat → Int} {X : Stp} {r : Nat} {q : Option Nat} {w0 w w' : World} {c g st : Bool} (h : RG.SX b T nc C bm bw n f f' X r q w0 c g st w) (hb : Below w.heap.size w w') : RG.SX b T nc C bm bw n f f' X r q w0 c g st w' :=
 h.turn (S := fun _ => False) (h.row.of_block (hb.block _ h.row.lt)) ⟨h.mem.head.of_block (hb.block _ h.mem.head.lt), h.mem.row.of_block (hb.block _ h.mem.row.lt), h.mem.most, h.mem.word⟩ ⟨hb.os, hb.tape, hb.output, hb.size, fun k hk _ => hb.block k hk⟩ (fun k e => e.elim)
structure SQ (b T nc : Nat) (C : Nat → Value) (w0 w : World) : Prop where
 row : w.rowIs b T nc C
 bel : Below w0.heap.size w0 w
theorem SQ.start {b T nc : Nat} {C : Nat → Value} {w0 : World} (h : w0.rowIs b T nc C) : SQ b T nc C w0 { w0 with drawn := w0.drawn + 1 } := ⟨h.drew, (Below.refl _ w0).drew⟩
theorem SQq {b T nc : Nat} {C : Nat → Value} {w0 w w' : World} (h : SQ b T nc C w0 w) (hb : Below w.heap.size w w') : SQ b T nc C w0 w' := ⟨h.row.of_block (hb.block _ h.row.lt), h.bel.trans (hb.mono h.bel.size)⟩
theorem row_act {w : World} {b T nc bm bw n : Nat} {C : Nat → Value} {f' : Nat → Int} {x : Stp} {fd : FuncId} {args : Array Value} (h : w.rowIs b T nc C) (h2 : b ≠ bw) (hc : Calls Tryz.prog fd args w fun e w' => e = .returned x.val ∧ IsMem w' bm bw n f' ∧ w.grownBy w' (some bw)) :
  Calls Tryz.prog fd args w fun e w' => e = .returned x.val ∧ w'.rowIs b T nc C ∧ IsMem w' bm bw n f' ∧ Touch w w' (fun k => k = b ∨ k = bw) := by
 refine hc.mono ?_
 rintro e w' ⟨rfl, a1, a2⟩
 exact ⟨rfl, h.of_block (a2.block b h.lt (by simpa using h2)), a1, (Touch.refl w _).trans' (Touch.of_grown a2) (fun k _ e => .inr (by simpa using e))⟩
theorem step_of {w : World} {b T nc bm bw n : Nat} {C C' : Nat → Value} {f f' : Nat → Int} {x : Stp} {en : Int} (F : FuncId) (hF : ∀ (args : Array Value) (w : World), (callFunc F args).run Tryz.prog w = .ok (.enter F args) w) (h : w.rowIs b T nc C) (hn : 1 < nc) (c1 : C 1 = (.func (.func F) #[.pointer (some ⟨b, 0, none⟩)] #[])) (hm : IsMem w bm bw n f)
  (KF : ∀ w1 : World, w1.rowIs b T nc C → IsMem w1 bm bw n f → Calls Tryz.prog F #[.pointer (some ⟨b, 0, none⟩), .pointer (some ⟨bm, 0, none⟩)] w1 fun e w' => e = .returned (.tuple #[x.val, .int .i64 en]) ∧ w'.rowIs b T nc C' ∧ IsMem w' bm bw n f' ∧ Touch w1 w' (fun k => k = b ∨ k = bw)) :
  Calls Tryz.prog 150 #[.pointer (some ⟨b, 0, none⟩), .pointer (some ⟨bm, 0, none⟩)] w fun e w' => e = .returned (.tuple #[x.val, .int .i64 en]) ∧ w'.rowIs b T nc C' ∧ IsMem w' bm bw n f' ∧ Touch w w' (fun k => k = b ∨ k = bw) := by
 have lw := hm.row.lt
 have lm := hm.head.lt
 have hl := h.lt
 have hA := h.alloc (.cells #[.int .i64 0, .int .i64 0, .int .i64 0, .int .u64 0, .int .u64 0, .bool false] 75)
 have K0 := hide (KF _ hA (hm.alloc (.cells #[.int .i64 0, .int .i64 0, .int .i64 0, .int .u64 0, .int .u64 0, .bool false] 75)))
 have RZ := hide (row0 w)
 have e1 := h.cell (i := 1) hn
 rw [c1] at e1
 have T0 := hide ((Touch.refl w (fun k => k = b ∨ k = bw)).alloc (.cells #[.int .i64 0, .int .i64 0, .int .i64 0, .int .u64 0, .int .u64 0, .bool false] 75))
 clear h hA hm KF c1
 go_enter Tryz.func150, Tryz.ntmps150
 go_wp2_with fail
 refine K0.out.mono ?_
 rintro e w1 ⟨rfl, hr1, hm1, ht1⟩
 simp only [Stp.val]
 have s1 := ht1.size
 simp only [World.size_alloc] at s1
 have RR := hide (RZ.out.of_block (ht1.block w.heap.size (by simp) (by omega)))
 have R1 := hide hr1
 have M1 := hide hm1
 have T1 := hide (T0.out.trans' ht1 (fun k _ e => e))
 clear hr1 hm1 ht1 K0 RZ T0 e1 hF
 have l2 : w.heap.size < w1.heap.size := by omega
 obtain ⟨⟨r0, rf0⟩, ⟨r1, rf1⟩, ⟨r2, rf2⟩, ⟨r3, rf3⟩, ⟨r4, rf4⟩, r5, rf5⟩ := res_facts RR.out
 go_wp2_with fail
 go_light
 refine bodyPost_ret (v := .tuple #[x.val, .int .i64 en]) ?res rfl ⟨rfl, ?row, ?mem, ?tch⟩
 case row =>
  repeat (with_reducible refine World.rowIs.setOther ?_ ?side _; case side => (simp; omega))
  with_reducible exact R1.out
 case mem =>
  repeat ((with_reducible refine IsMem.setOther ?_ ?_ ?_ _); rotate_left; (simp; omega); (simp; omega))
  with_reducible exact M1.out
 case tch =>
  repeat (with_reducible refine Touch.setCell ?_ _ ?side _; case side => (first | (simp; done) | (simp; omega)))
  with_reducible exact T1.out
 case res => simp [results, Tryz.results150, go_sem, Stp.val, *]
theorem ans_of {w : World} {b T nc : Nat} {C : Nat → Value} {t : Ans} (h : w.rowIs b T nc C) (hn : 4 < nc) (c3 : C 3 = .bool t.ok) (c4 : C 4 = .int .u64 t.val) :
  Calls Tryz.prog 149 #[.pointer (some ⟨b, 0, none⟩)] w fun e w' => e = .returned t.value ∧ w.grownBy w' none := by
 obtain ⟨ok, val⟩ := t
 have h6 := h.cell (i := 3) (by omega)
 have h7 := h.cell (i := 4) (by omega)
 rw [c3] at h6
 rw [c4] at h7
 have hl := h.lt
 clear h c3 c4
 go_enter Tryz.func149, Tryz.ntmps149
 go_wp2
 go_light
 refine bodyPost_ret (v := Ans.value ⟨ok, val⟩) ?_ rfl ⟨rfl, grown_alloc (grown_refl _ _) _⟩
 simp [results, Tryz.results149, go_sem, Ans.value]
end Hp
end
end Go.Proofs.YtmikhglnomgbfaaGreat
