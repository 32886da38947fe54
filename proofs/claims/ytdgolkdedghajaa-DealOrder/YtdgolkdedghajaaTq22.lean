/-
  Lemmas: DealA.
-/
import Derived.Test.YtdgolkdedghajaaTq21
import Derived.Test.YtdgolkdedghajaaTq17
/-
  The tasks of a deal: their small methods.
-/
namespace Go.Proofs.Ytdgolkdedghajaa
open Go.RowKit
set_option linter.unusedVariables false
set_option linter.unusedSimpArgs false
set_option maxRecDepth 20000
namespace Deal

theorem fieldM0 (w : World) (b : Nat) : (Instr.fieldAt 84 (.pointer (some ⟨b, 0, none⟩)) 0).run Try.prog w = .ok (.pointer (some ⟨b, 0, none⟩)) w := by simp [go_sem]
theorem fieldM1 (w : World) (b : Nat) : (Instr.fieldAt 84 (.pointer (some ⟨b, 0, none⟩)) 1).run Try.prog w = .ok (.pointer (some ⟨b, 1, none⟩)) w := by simp [go_sem]
theorem fieldM2 (w : World) (b : Nat) : (Instr.fieldAt 84 (.pointer (some ⟨b, 0, none⟩)) 2).run Try.prog w = .ok (.pointer (some ⟨b, 2, none⟩)) w := by simp [go_sem]
theorem fieldM3 (w : World) (b : Nat) : (Instr.fieldAt 84 (.pointer (some ⟨b, 0, none⟩)) 3).run Try.prog w = .ok (.pointer (some ⟨b, 3, none⟩)) w := by simp [go_sem]
theorem fieldM4 (w : World) (b : Nat) : (Instr.fieldAt 84 (.pointer (some ⟨b, 0, none⟩)) 4).run Try.prog w = .ok (.pointer (some ⟨b, 4, none⟩)) w := by simp [go_sem]
theorem fieldM5 (w : World) (b : Nat) : (Instr.fieldAt 84 (.pointer (some ⟨b, 0, none⟩)) 5).run Try.prog w = .ok (.pointer (some ⟨b, 5, none⟩)) w := by simp [go_sem]
theorem fieldM6 (w : World) (b : Nat) : (Instr.fieldAt 84 (.pointer (some ⟨b, 0, none⟩)) 6).run Try.prog w = .ok (.pointer (some ⟨b, 6, none⟩)) w := by simp [go_sem]
theorem fieldTl (w : World) (b : Nat) : (Instr.fieldAt 87 (.pointer (some ⟨b, 0, none⟩)) 0).run Try.prog w = .ok (.pointer (some ⟨b, 0, none⟩)) w := by simp [go_sem]
theorem fieldTd (w : World) (b : Nat) : (Instr.fieldAt 89 (.pointer (some ⟨b, 0, none⟩)) 0).run Try.prog w = .ok (.pointer (some ⟨b, 0, none⟩)) w := by simp [go_sem]
theorem fieldTt (w : World) (b : Nat) : (Instr.fieldAt 91 (.pointer (some ⟨b, 0, none⟩)) 0).run Try.prog w = .ok (.pointer (some ⟨b, 0, none⟩)) w := by simp [go_sem]
theorem fieldS3 (w : World) (b : Nat) : (Instr.fieldAt 55 (.pointer (some ⟨b, 0, none⟩)) 3).run Try.prog w = .ok (.pointer (some ⟨b, 3, none⟩)) w := by simp [go_sem]
theorem aggI (w : World) : (isAgg 3).run Try.prog w = .ok false w := by simp [go_sem]
theorem aggU (w : World) : (isAgg 39).run Try.prog w = .ok false w := by simp [go_sem]
theorem callLoad (args : Array Value) (w : World) : (callFunc 103 args).run Try.prog w = .ok (.enter 103 args) w := by simp [go_sem]
theorem callStore (args : Array Value) (w : World) : (callFunc 105 args).run Try.prog w = .ok (.enter 105 args) w := by simp [go_sem]
theorem callPlace (args : Array Value) (w : World) : (callFunc 106 args).run Try.prog w = .ok (.enter 106 args) w := by simp [go_sem]
theorem callThere (args : Array Value) (w : World) : (callFunc 104 args).run Try.prog w = .ok (.enter 104 args) w := by simp [go_sem]
theorem callTell (args : Array Value) (w : World) : (callFunc 98 args).run Try.prog w = .ok (.enter 98 args) w := by simp [go_sem]
theorem callTake (args : Array Value) (w : World) : (callFunc 121 args).run Try.prog w = .ok (.enter 121 args) w := by simp [go_sem]

theorem res_facts {w : World} {r : Nat} (h : w.rowIs r 55 6 zcell) : (w.cell? ⟨r, 0, none⟩ = some (.int .i64 0) ∧ w.frozen? ⟨r, 0, none⟩ = false) ∧ (w.cell? ⟨r, 1, none⟩ = some (.int .i64 0) ∧ w.frozen? ⟨r, 1, none⟩ = false) ∧ (w.cell? ⟨r, 2, none⟩ = some (.int .i64 0) ∧ w.frozen? ⟨r, 2, none⟩ = false) ∧ (w.cell? ⟨r, 3, none⟩ = some (.int .u64 0) ∧ w.frozen? ⟨r, 3, none⟩ = false) ∧ (w.cell? ⟨r, 4, none⟩ = some (.int .u64 0) ∧ w.frozen? ⟨r, 4, none⟩ = false) ∧ (w.cell? ⟨r, 5, none⟩ = some (.bool false) ∧ w.frozen? ⟨r, 5, none⟩ = false) :=
  ⟨⟨h.cell (i := 0) (by omega), h.frozen 0⟩, ⟨h.cell (i := 1) (by omega), h.frozen 1⟩, ⟨h.cell (i := 2) (by omega), h.frozen 2⟩, ⟨h.cell (i := 3) (by omega), h.frozen 3⟩, ⟨h.cell (i := 4) (by omega), h.frozen 4⟩, ⟨h.cell (i := 5) (by omega), h.frozen 5⟩⟩
theorem mv_facts {w : World} {b T : Nat} {hand room st fst en val : Int} {t : Ans} (h : w.rowIs b T 8 (mvC hand room st fst en val t)) : (w.cell? ⟨b, 0, none⟩ = some (.int .i64 hand) ∧ w.frozen? ⟨b, 0, none⟩ = false) ∧ (w.cell? ⟨b, 1, none⟩ = some (.int .i64 room) ∧ w.frozen? ⟨b, 1, none⟩ = false) ∧ (w.cell? ⟨b, 2, none⟩ = some (.int .i64 st) ∧ w.frozen? ⟨b, 2, none⟩ = false) ∧ (w.cell? ⟨b, 3, none⟩ = some (.int .u64 fst) ∧ w.frozen? ⟨b, 3, none⟩ = false) ∧ (w.cell? ⟨b, 4, none⟩ = some (.int .u64 en) ∧ w.frozen? ⟨b, 4, none⟩ = false) ∧ (w.cell? ⟨b, 5, none⟩ = some (.int .u64 val) ∧ w.frozen? ⟨b, 5, none⟩ = false) ∧ (w.cell? ⟨b, 6, none⟩ = some (.bool t.ok) ∧ w.frozen? ⟨b, 6, none⟩ = false) ∧ (w.cell? ⟨b, 7, none⟩ = some (.int .u64 t.val) ∧ w.frozen? ⟨b, 7, none⟩ = false) :=
  ⟨⟨h.cell (i := 0) (by omega), h.frozen 0⟩, ⟨h.cell (i := 1) (by omega), h.frozen 1⟩, ⟨h.cell (i := 2) (by omega), h.frozen 2⟩, ⟨h.cell (i := 3) (by omega), h.frozen 3⟩, ⟨h.cell (i := 4) (by omega), h.frozen 4⟩, ⟨h.cell (i := 5) (by omega), h.frozen 5⟩, ⟨h.cell (i := 6) (by omega), h.frozen 6⟩, ⟨h.cell (i := 7) (by omega), h.frozen 7⟩⟩
theorem rowIs_new {w : World} {k : Nat} (hk : w.heap.size = k) (vs : Array Value) (t : TypeId) (f : Nat → Value) (n : Nat) (hn : vs.size = n) (hc : ∀ i, i < n → vs[i]? = some (f i)) : (w.alloc (.cells vs t)).rowIs k t n f := by
  subst hk
  exact rowIs_cells vs t f n hn hc
theorem wrap_u64' (x : Int) : IntKind.u64.wrap x = u64 x := by rw [IntKind.wrap_u64]; rfl
theorem ex_add1 {ev : Operand → Value} {o : Oper} {w : World} {x y : Operand} {v : Int} (ho : o.op = .binOp .add 39 x y 39) (hx : ev x = .int .u64 v) (hy : ev y = .int .u64 1) : (execOp ev o).run Try.prog w = .ok (.value (.int .u64 (u64 (v + 1)))) w := by
  have := wrap_u64' (v + 1)
  simp [execOp, ho, hx, hy, go_sem, this]
theorem call3 {ev : Operand → Value} {o : Oper} {w : World} {f : FuncId} {x0 x1 x2 : Operand} {ts : Array TypeId} {v0 v1 v2 : Value} (ho : o.op = Op.call { callee := Callee.value (Operand.func f), args := #[x0, x1, x2], argTypes := ts }) (h0 : ev x0 = v0) (h1 : ev x1 = v1) (h2 : ev x2 = v2) (hf : ev (Operand.func f) = .func (.func f) #[] #[]) (hcf : (callFunc f #[v0, v1, v2]).run Try.prog w = .ok (.enter f #[v0, v1, v2]) w) : (execOp ev o).run Try.prog w = .ok (.enter f #[v0, v1, v2]) w := by
  simp [execOp, ho, h0, h1, h2, hf, hcf, go_sem]
theorem SWcalls {b T nc : Nat} {C : Nat → Value} {bm bw n : Nat} {f f' : Nat → Int} {X : Stp} {r : Nat} {w0 : World} {fd : FuncId} {args : Array Value} {kc ia is : Nat} (hb : b ≠ bw) (hr : r ≠ bw) (n1 : ia ≠ kc) (n2 : is ≠ kc)
    (hc : ∀ w, w.rowIs b T nc C → IsMem w bm bw n f → Calls Try.prog fd args w fun e w' => e = .returned X.val ∧ IsMem w' bm bw n f' ∧ w.grownBy w' (some bw)) :
    ∀ (L : Nat → Bool) v w, RG.SW b T nc C bm bw n f f' X r w0 (L kc) (L ia) (L is) v w → L kc = false →
      Calls Try.prog fd args w fun e w' => e = .returned X.val ∧ RG.SW b T nc C bm bw n f f' X r w0 (upd L kc true kc) (upd L kc true ia) (upd L kc true is) v w' := by
  intro L v w h hL
  have hm := h.mem
  rw [hL, if_neg (by decide)] at hm
  refine (hc w h.row hm).mono ?_
  rintro e w' ⟨rfl, hm', hg⟩
  rw [upd_same, upd_other _ _ n1, upd_other _ _ n2]
  exact ⟨rfl, h.act hL hb hr hm' hg⟩
theorem SRcalls {b T nc : Nat} {C : Nat → Value} {bm bw n : Nat} {f f' : Nat → Int} {X : Stp} {r : Nat} {w0 : World} {fd : FuncId} {args : Array Value} {kc is : Nat} (hb : b ≠ bw) (hr : r ≠ bw) (n2 : is ≠ kc)
    (hc : ∀ w, w.rowIs b T nc C → IsMem w bm bw n f → Calls Try.prog fd args w fun e w' => e = .returned X.val ∧ IsMem w' bm bw n f' ∧ w.grownBy w' (some bw)) :
    ∀ (L : Nat → Bool) (v : Value) w, RG.SR b T nc C bm bw n f f' X r w0 (L kc) (L is) w → L kc = false →
      Calls Try.prog fd args w fun e w' => e = .returned X.val ∧ RG.SR b T nc C bm bw n f f' X r w0 (upd L kc true kc) (upd L kc true is) w' := by
  intro L v w h hL
  have hm := h.mem
  rw [hL, if_neg (by decide)] at hm
  refine (hc w h.row hm).mono ?_
  rintro e w' ⟨rfl, hm', hg⟩
  rw [upd_same, upd_other _ _ n2]
  exact ⟨rfl, h.act hL hb hr hm' hg⟩
set_option maxHeartbeats 1000000 in
theorem there_any {w : World} {b : Nat} {fst en : Int} (hl : b < w.heap.size) (c3 : w.cell? ⟨b, 3, none⟩ = some (.int .u64 fst)) (c4 : w.cell? ⟨b, 4, none⟩ = some (.int .u64 en)) :
    Calls Try.prog 104 #[.pointer (some ⟨b, 0, none⟩)] w fun e w' => e = .returned (.int .i64 (ahd en fst)) ∧ ∃ m, w' = w.drewN m := by
  have g1 := wrap_u64' (en - fst)
  have g2 : IntKind.i64.wrap (u64 (en - fst)) = ahd en fst := by rw [IntKind.wrap_i64]; unfold ahd wrap64; omega
  have g3 : wrap64 (u64 (en - fst)) = ahd en fst := rfl
  go_enter Try.func104, Try.ntmps104
  go_wp2_with fail
  go_quiet (fail)
  go_wp2_with fail
  go_ret
  exact ⟨rfl, _, rfl⟩
set_option maxHeartbeats 1000000 in
theorem place_any {w : World} {b : Nat} {room p : Int} (hl : b < w.heap.size) (c1 : w.cell? ⟨b, 1, none⟩ = some (.int .i64 room)) (h1 : 1 ≤ room) (h2 : room ≤ 64) (hn : 0 ≤ p ∧ p ≤ 18446744073709551615) :
    Calls Try.prog 106 #[.pointer (some ⟨b, 0, none⟩), .int .u64 p] w fun e w' => e = .returned (.int .i64 (plc room p)) ∧ w' = w := by
  have g1 : IntKind.u64.wrap room = room := by rw [IntKind.wrap_u64]; omega
  have hb := plc_bounds p h1 h2
  have g2 : p.tmod room = p % room := Int.tmod_eq_emod_of_nonneg hn.1
  have g0 : ¬ room = 0 := by omega
  have g3 : wrap64 (p % room) = p % room := by unfold wrap64; unfold plc at hb; omega
  have g4 : wrap64 (2 + p % room) = 2 + p % room := by unfold wrap64; unfold plc at hb; omega
  go_enter Try.func106, Try.ntmps106
  go_wp2_with fail
  go_ret
  refine ⟨?_, rfl⟩
  first
  | rfl
  | (show Ending.returned (.int .i64 (wrap64 (2 + p % room))) = _; rw [g4]; rfl)
set_option maxHeartbeats 1000000 in
theorem tell_any {w : World} {b T : Nat} {hand room st fst en val : Int} {t : Ans} (h : w.rowIs b T 8 (mvC hand room st fst en val t)) :
    Calls Try.prog 98 #[.pointer (some ⟨b, 0, none⟩)] w fun e w' => e = .returned (.tuple #[]) ∧ w' = (w.setCell ⟨b, 6, none⟩ (.bool true)).setCell ⟨b, 7, none⟩ (.int .u64 val) := by
  have c5 : w.cell? ⟨b, 5, none⟩ = some (.int .u64 val) := h.cell (i := 5) (by omega)
  have c6 : w.cell? ⟨b, 6, none⟩ = some (.bool t.ok) := h.cell (i := 6) (by omega)
  have c7 : w.cell? ⟨b, 7, none⟩ = some (.int .u64 t.val) := h.cell (i := 7) (by omega)
  have z6 := h.frozen 6
  have z7 := h.frozen 7
  have hl := h.lt
  clear h
  go_enter Try.func98, Try.ntmps98
  go_wp2_with fail
  go_end0
  exact ⟨rfl, rfl⟩

theorem mv_st (hand room st fst en val : Int) (t : Ans) (s : Int) (i : Nat) (hi : i < 8) : (fun j => (fun j => if j = 2 then Value.int .i64 s else mvC hand room st fst en val t j) j) i = mvC hand room s fst en val t i := by
  match i, hi with
  | 0, _ | 1, _ | 2, _ | 3, _ | 4, _ | 5, _ | 6, _ | 7, _ => rfl
theorem mv_en (hand room st fst en val : Int) (t : Ans) (s p : Int) (i : Nat) (hi : i < 8) : (fun j => (fun j => if j = 2 then Value.int .i64 s else (fun j => if j = 4 then Value.int .u64 p else mvC hand room st fst en val t j) j) j) i = mvC hand room s fst p val t i := by
  match i, hi with
  | 0, _ | 1, _ | 2, _ | 3, _ | 4, _ | 5, _ | 6, _ | 7, _ => rfl
theorem mv_fst (hand room st fst en val : Int) (t : Ans) (s p : Int) (i : Nat) (hi : i < 8) : (fun j => (fun j => if j = 2 then Value.int .i64 s else (fun j => if j = 3 then Value.int .u64 p else mvC hand room st fst en val t j) j) j) i = mvC hand room s p en val t i := by
  match i, hi with
  | 0, _ | 1, _ | 2, _ | 3, _ | 4, _ | 5, _ | 6, _ | 7, _ => rfl
theorem mv_fst0 (hand room st fst en val : Int) (t : Ans) (p : Int) (i : Nat) (hi : i < 8) : (fun j => (fun j => if j = 3 then Value.int .u64 p else mvC hand room st fst en val t j) j) i = mvC hand room st p en val t i := by
  match i, hi with
  | 0, _ | 1, _ | 2, _ | 3, _ | 4, _ | 5, _ | 6, _ | 7, _ => rfl
theorem mv_fst2 (hand room st fst en val : Int) (t : Ans) (s u p : Int) (i : Nat) (hi : i < 8) : (fun j => (fun j => if j = 2 then Value.int .i64 u else (fun j => if j = 2 then Value.int .i64 s else (fun j => if j = 3 then Value.int .u64 p else mvC hand room st fst en val t j) j) j) j) i = mvC hand room u p en val t i := by
  match i, hi with
  | 0, _ | 1, _ | 2, _ | 3, _ | 4, _ | 5, _ | 6, _ | 7, _ => rfl
theorem mv_en0 (hand room st fst en val : Int) (t : Ans) (p : Int) (i : Nat) (hi : i < 8) : (fun j => (fun j => if j = 4 then Value.int .u64 p else mvC hand room st fst en val t j) j) i = mvC hand room st fst p val t i := by
  match i, hi with
  | 0, _ | 1, _ | 2, _ | 3, _ | 4, _ | 5, _ | 6, _ | 7, _ => rfl
theorem mv_val (hand room st fst en val : Int) (t : Ans) (s p : Int) (i : Nat) (hi : i < 8) : (fun j => (fun j => if j = 2 then Value.int .i64 s else (fun j => if j = 5 then Value.int .u64 p else mvC hand room st fst en val t j) j) j) i = mvC hand room s fst en p t i := by
  match i, hi with
  | 0, _ | 1, _ | 2, _ | 3, _ | 4, _ | 5, _ | 6, _ | 7, _ => rfl
theorem mv_valt (hand room st fst en val : Int) (t : Ans) (s p : Int) (i : Nat) (hi : i < 8) : (fun j => (fun j => if j = 7 then Value.int .u64 p else (fun j => if j = 6 then Value.bool true else (fun j => if j = 2 then Value.int .i64 s else (fun j => if j = 5 then Value.int .u64 p else mvC hand room st fst en val t j) j) j) j) j) i = mvC hand room s fst en p ⟨true, p⟩ i := by
  match i, hi with
  | 0, _ | 1, _ | 2, _ | 3, _ | 4, _ | 5, _ | 6, _ | 7, _ => rfl
theorem mv_told (hand room st fst en val : Int) (t : Ans) (p : Int) (i : Nat) (hi : i < 8) : (fun j => (fun j => if j = 7 then Value.int .u64 p else (fun j => if j = 6 then Value.bool true else mvC hand room st fst en val t j) j) j) i = mvC hand room st fst en val ⟨true, p⟩ i := by
  match i, hi with
  | 0, _ | 1, _ | 2, _ | 3, _ | 4, _ | 5, _ | 6, _ | 7, _ => rfl

set_option maxHeartbeats 4000000 in
theorem load_any {w : World} {b bm bw n : Nat} {f f' : Nat → Int} {x : Stp} {hand at_ : Int} (c0 : w.cell? ⟨b, 0, none⟩ = some (.int .i64 hand)) (hl : b < w.heap.size) (hm : IsMem w bm bw n f) (hp : 0 ≤ (⟨hand, 1, at_, 0, 0, true⟩ : Stp).put ∧ (⟨hand, 1, at_, 0, 0, true⟩ : Stp).put ≤ 18446744073709551615)
    (hx : stepOf n f ⟨hand, 1, at_, 0, 0, true⟩ = x) (hf' : wordsOf n f ⟨hand, 1, at_, 0, 0, true⟩ = f') :
    Calls Try.prog 103 #[.pointer (some ⟨b, 0, none⟩), .pointer (some ⟨bm, 0, none⟩), .int .i64 at_] w fun e w' => e = .returned x.val ∧ IsMem w' bm bw n f' ∧ w.grownBy w' (some bw) := by
  have lw := hm.row.lt
  have lm := hm.head.lt
  have K := do_mem (hm.alloc (.cells #[.int .i64 0, .int .i64 0, .int .i64 0, .int .u64 0, .int .u64 0, .bool false] 55)) ⟨hand, 1, at_, 0, 0, true⟩ hp
  rw [hx, hf'] at K
  have K0 := hide K
  have RW := hide (row0 w)
  clear hm hx hf' hp K
  go_enter Try.func103, Try.ntmps103
  go_wp2_with fail
  refine K0.out.mono ?_
  rintro e w1 ⟨rfl, hm1, hg1⟩
  simp only [Stp.val]
  have s1 := hg1.size
  simp only [World.size_alloc] at s1
  have RR := hide (RW.out.of_block (hg1.block w.heap.size (by simp) (by simp; omega)))
  have M1 := hide hm1
  have G1 := hide (grown_trans (grown_alloc (grown_refl w (some bw)) (.cells #[.int .i64 0, .int .i64 0, .int .i64 0, .int .u64 0, .int .u64 0, .bool false] 55)) hg1)
  clear hm1 hg1 K0 RW
  have l2 : w.heap.size < w1.heap.size := by omega
  obtain ⟨⟨r0, rf0⟩, ⟨r1, rf1⟩, ⟨r2, rf2⟩, ⟨r3, rf3⟩, ⟨r4, rf4⟩, r5, rf5⟩ := res_facts RR.out
  go_wp2_with fail
  go_light
  refine bodyPost_ret (v := x.val) ?res rfl ⟨rfl, ?mem, ?gro⟩
  case mem =>
    repeat (first | (with_reducible apply IsMem.alloc) | (with_reducible apply IsMem.drew) | ((with_reducible refine IsMem.setOther ?_ ?_ ?_ _); rotate_left; (simp; omega); (simp; omega)))
    with_reducible exact M1.out
  case gro =>
    repeat (with_reducible refine grown_setCell ?_ _ (.inr (Nat.le_refl _)) _)
    with_reducible exact G1.out
  case res => simp [results, Try.results103, go_sem, Stp.val, *]

set_option maxHeartbeats 4000000 in
theorem store_any {w : World} {b bm bw n : Nat} {f f' : Nat → Int} {x : Stp} {hand at_ put : Int} (c0 : w.cell? ⟨b, 0, none⟩ = some (.int .i64 hand)) (hl : b < w.heap.size) (hm : IsMem w bm bw n f) (hp : 0 ≤ (⟨hand, 2, at_, 0, put, true⟩ : Stp).put ∧ (⟨hand, 2, at_, 0, put, true⟩ : Stp).put ≤ 18446744073709551615)
    (hx : stepOf n f ⟨hand, 2, at_, 0, put, true⟩ = x) (hf' : wordsOf n f ⟨hand, 2, at_, 0, put, true⟩ = f') :
    Calls Try.prog 105 #[.pointer (some ⟨b, 0, none⟩), .pointer (some ⟨bm, 0, none⟩), .int .i64 at_, .int .u64 put] w fun e w' => e = .returned x.val ∧ IsMem w' bm bw n f' ∧ w.grownBy w' (some bw) := by
  have lw := hm.row.lt
  have lm := hm.head.lt
  have K := do_mem (hm.alloc (.cells #[.int .i64 0, .int .i64 0, .int .i64 0, .int .u64 0, .int .u64 0, .bool false] 55)) ⟨hand, 2, at_, 0, put, true⟩ hp
  rw [hx, hf'] at K
  have K0 := hide K
  have RW := hide (row0 w)
  clear hm hx hf' hp K
  go_enter Try.func105, Try.ntmps105
  go_wp2_with fail
  refine K0.out.mono ?_
  rintro e w1 ⟨rfl, hm1, hg1⟩
  simp only [Stp.val]
  have s1 := hg1.size
  simp only [World.size_alloc] at s1
  have RR := hide (RW.out.of_block (hg1.block w.heap.size (by simp) (by simp; omega)))
  have M1 := hide hm1
  have G1 := hide (grown_trans (grown_alloc (grown_refl w (some bw)) (.cells #[.int .i64 0, .int .i64 0, .int .i64 0, .int .u64 0, .int .u64 0, .bool false] 55)) hg1)
  clear hm1 hg1 K0 RW
  have l2 : w.heap.size < w1.heap.size := by omega
  obtain ⟨⟨r0, rf0⟩, ⟨r1, rf1⟩, ⟨r2, rf2⟩, ⟨r3, rf3⟩, ⟨r4, rf4⟩, r5, rf5⟩ := res_facts RR.out
  go_wp2_with fail
  go_light
  refine bodyPost_ret (v := x.val) ?res rfl ⟨rfl, ?mem, ?gro⟩
  case mem =>
    repeat (first | (with_reducible apply IsMem.alloc) | (with_reducible apply IsMem.drew) | ((with_reducible refine IsMem.setOther ?_ ?_ ?_ _); rotate_left; (simp; omega); (simp; omega)))
    with_reducible exact M1.out
  case gro =>
    repeat (with_reducible refine grown_setCell ?_ _ (.inr (Nat.le_refl _)) _)
    with_reducible exact G1.out
  case res => simp [results, Try.results105, go_sem, Stp.val, *]

end Deal
end Go.Proofs.Ytdgolkdedghajaa
