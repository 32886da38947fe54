/-
  Lemmas: WordVP, RoomA.
-/
import Derived.Test.YtppgbndoijppnaaGreatTp06
import Derived.Deep.QuietTactic
import Derived.BigQuiet
import Derived.Test.YtppgbndoijppnaaGreatTp29
import Derived.Test.YtppgbndoijppnaaGreatTp27
namespace Go.Proofs.YtppgbndoijppnaaGreat
set_option maxHeartbeats 8000000
open Go.RowKit
set_option linter.unusedVariables false
set_option linter.unusedSimpArgs false
set_option maxRecDepth 20000
section
theorem pack_word_ok_true0 (used final taken : Bool) (age gen link next : Int) (s : Value) (ha0 : 0 ≤ age) (ha1 : age ≤ 255) (hg0 : 0 ≤ gen) (hg1 : gen ≤ 4294967295) (w : World) :
  Calls Tryz.prog 117 #[.agg #[.bool used, .bool true, .bool final, .bool taken, .int .i64 age, .int .u64 gen, .int .u64 link, .int .u64 next, s], .int .i64 0] w fun e w' =>
   e = .returned (.tuple #[.int .u64 (packW used false final taken age gen), .int .i64 0]) ∧ Below w.heap.size w w' := by
 go_enter Tryz.func117, Tryz.ntmps117
 go_wp2_with (go_at_call 134; refine (isColour_any _ _).mono ?_; rintro e w' ⟨rfl, rfl⟩)
 go_quiet ((go_at_call 135; exact Calls.quiet_of_same (bitIf_any _ _ _)))
 go_wp2
 go_ret2
 exact ⟨ret_two (pack_eq used false final taken age gen ha0 ha1 hg0 hg1) rfl, below_box _ _ _⟩
theorem pack_word_ok_true1 (used final taken : Bool) (age gen link next : Int) (s : Value) (ha0 : 0 ≤ age) (ha1 : age ≤ 255) (hg0 : 0 ≤ gen) (hg1 : gen ≤ 4294967295) (w : World) :
  Calls Tryz.prog 117 #[.agg #[.bool used, .bool true, .bool final, .bool taken, .int .i64 age, .int .u64 gen, .int .u64 link, .int .u64 next, s], .int .i64 1] w fun e w' =>
   e = .returned (.tuple #[.int .u64 (packW used true final taken age gen), .int .i64 0]) ∧ Below w.heap.size w w' := by
 go_enter Tryz.func117, Tryz.ntmps117
 go_wp2_with (go_at_call 134; refine (isColour_any _ _).mono ?_; rintro e w' ⟨rfl, rfl⟩)
 go_quiet ((go_at_call 135; exact Calls.quiet_of_same (bitIf_any _ _ _)))
 go_wp2
 go_ret2
 exact ⟨ret_two (pack_eq used true final taken age gen ha0 ha1 hg0 hg1) rfl, below_box _ _ _⟩
end
section
namespace Rom
open Hp
theorem fieldM0 (w : World) (b : Nat) : (Instr.fieldAt 99 (.pointer (some ⟨b, 0, none⟩)) 0).run Tryz.prog w = .ok (.pointer (some ⟨b, 0, none⟩)) w := by simp [go_sem]
theorem fieldM1 (w : World) (b : Nat) : (Instr.fieldAt 99 (.pointer (some ⟨b, 0, none⟩)) 1).run Tryz.prog w = .ok (.pointer (some ⟨b, 6, none⟩)) w := by simp [go_sem]
theorem fieldM2 (w : World) (b : Nat) : (Instr.fieldAt 99 (.pointer (some ⟨b, 0, none⟩)) 2).run Tryz.prog w = .ok (.pointer (some ⟨b, 12, none⟩)) w := by simp [go_sem]
theorem fieldM3 (w : World) (b : Nat) : (Instr.fieldAt 99 (.pointer (some ⟨b, 0, none⟩)) 3).run Tryz.prog w = .ok (.pointer (some ⟨b, 13, none⟩)) w := by simp [go_sem]
theorem fieldM4 (w : World) (b : Nat) : (Instr.fieldAt 99 (.pointer (some ⟨b, 0, none⟩)) 4).run Tryz.prog w = .ok (.pointer (some ⟨b, 14, none⟩)) w := by simp [go_sem]
theorem fieldM5 (w : World) (b : Nat) : (Instr.fieldAt 99 (.pointer (some ⟨b, 0, none⟩)) 5).run Tryz.prog w = .ok (.pointer (some ⟨b, 15, none⟩)) w := by simp [go_sem]
theorem m_fn (sh : Shp) (hand : Int) (fn v2 v3 : Value) (t : Ans) (fl : Bool) (c ix gn : Int) (y : Value) (k : Nat) (hk : k < 16) : (fun k => if k = 1 then y else mC sh hand fn v2 v3 t fl c ix gn k) k = mC sh hand y v2 v3 t fl c ix gn k := by
 match k, hk with
 | 0, _ | 1, _ | 2, _ | 3, _ | 4, _ | 5, _ | 6, _ | 7, _ | 8, _ | 9, _ | 10, _ | 11, _ | 12, _ | 13, _ | 14, _ | 15, _ => rfl
 | k + 16, hk => exact absurd hk (by omega)
theorem m_gn (sh : Shp) (hand : Int) (fn v2 v3 : Value) (t : Ans) (fl : Bool) (c ix gn : Int) (y : Int) (k : Nat) (hk : k < 16) : (fun k => if k = 15 then Value.int .u64 y else mC sh hand fn v2 v3 t fl c ix gn k) k = mC sh hand fn v2 v3 t fl c ix y k := by
 match k, hk with
 | 0, _ | 1, _ | 2, _ | 3, _ | 4, _ | 5, _ | 6, _ | 7, _ | 8, _ | 9, _ | 10, _ | 11, _ | 12, _ | 13, _ | 14, _ | 15, _ => rfl
 | k + 16, hk => exact absurd hk (by omega)
theorem m_told (sh : Shp) (hand : Int) (fn v2 v3 : Value) (t : Ans) (fl : Bool) (c ix gn : Int) (y : Int) (k : Nat) (hk : k < 16) : (fun k => if k = 5 then Value.int .u64 y else if k = 4 then .bool true else mC sh hand fn v2 v3 t fl c ix gn k) k = mC sh hand fn v2 v3 ⟨true, y⟩ fl c ix gn k := by
 match k, hk with
 | 0, _ | 1, _ | 2, _ | 3, _ | 4, _ | 5, _ | 6, _ | 7, _ | 8, _ | 9, _ | 10, _ | 11, _ | 12, _ | 13, _ | 14, _ | 15, _ => rfl
 | k + 16, hk => exact absurd hk (by omega)
theorem fieldG0 (w : World) (b : Nat) : (Instr.fieldAt 103 (.pointer (some ⟨b, 0, none⟩)) 0).run Tryz.prog w = .ok (.pointer (some ⟨b, 0, none⟩)) w := by simp [go_sem]
theorem fieldG1 (w : World) (b : Nat) : (Instr.fieldAt 103 (.pointer (some ⟨b, 0, none⟩)) 1).run Tryz.prog w = .ok (.pointer (some ⟨b, 6, none⟩)) w := by simp [go_sem]
theorem fieldG2 (w : World) (b : Nat) : (Instr.fieldAt 103 (.pointer (some ⟨b, 0, none⟩)) 2).run Tryz.prog w = .ok (.pointer (some ⟨b, 12, none⟩)) w := by simp [go_sem]
theorem fieldG3 (w : World) (b : Nat) : (Instr.fieldAt 103 (.pointer (some ⟨b, 0, none⟩)) 3).run Tryz.prog w = .ok (.pointer (some ⟨b, 13, none⟩)) w := by simp [go_sem]
theorem fieldG4 (w : World) (b : Nat) : (Instr.fieldAt 103 (.pointer (some ⟨b, 0, none⟩)) 4).run Tryz.prog w = .ok (.pointer (some ⟨b, 14, none⟩)) w := by simp [go_sem]
theorem g_facts {w : World} {b : Nat} {sh : Shp} {hand : Int} {fn v2 v3 : Value} {t : Ans} {ix sl gn : Int} (h_ : w.rowIs b 103 15 (gC sh hand fn v2 v3 t ix sl gn)) : (w.cell? ⟨b, 0, none⟩ = some (.int .i64 hand) ∧ w.frozen? ⟨b, 0, none⟩ = false) ∧ (w.cell? ⟨b, 1, none⟩ = some (fn) ∧ w.frozen? ⟨b, 1, none⟩ = false) ∧ (w.cell? ⟨b, 2, none⟩ = some (v2) ∧ w.frozen? ⟨b, 2, none⟩ = false) ∧ (w.cell? ⟨b, 3, none⟩ = some (v3) ∧ w.frozen? ⟨b, 3, none⟩ = false) ∧ (w.cell? ⟨b, 4, none⟩ = some (.bool t.ok) ∧ w.frozen? ⟨b, 4, none⟩ = false) ∧ (w.cell? ⟨b, 5, none⟩ = some (.int .u64 t.val) ∧ w.frozen? ⟨b, 5, none⟩ = false) ∧ (w.cell? ⟨b, 6, none⟩ = some (.int .i64 sh.a) ∧ w.frozen? ⟨b, 6, none⟩ = false) ∧ (w.cell? ⟨b, 7, none⟩ = some (.int .i64 sh.b) ∧ w.frozen? ⟨b, 7, none⟩ = false) ∧ (w.cell? ⟨b, 8, none⟩ = some (.int .i64 sh.c) ∧ w.frozen? ⟨b, 8, none⟩ = false) ∧ (w.cell? ⟨b, 9, none⟩ = some (.int .i64 sh.d) ∧ w.frozen? ⟨b, 9, none⟩ = false) ∧ (w.cell? ⟨b, 10, none⟩ = some (.int .i64 sh.e) ∧ w.frozen? ⟨b, 10, none⟩ = false) ∧ (w.cell? ⟨b, 11, none⟩ = some (.int .i64 sh.f) ∧ w.frozen? ⟨b, 11, none⟩ = false) ∧ (w.cell? ⟨b, 12, none⟩ = some (.int .i64 ix) ∧ w.frozen? ⟨b, 12, none⟩ = false) ∧ (w.cell? ⟨b, 13, none⟩ = some (.int .i64 sl) ∧ w.frozen? ⟨b, 13, none⟩ = false) ∧ (w.cell? ⟨b, 14, none⟩ = some (.int .u64 gn) ∧ w.frozen? ⟨b, 14, none⟩ = false) :=
 ⟨⟨h_.cell (i := 0) (by omega), h_.frozen 0⟩, ⟨h_.cell (i := 1) (by omega), h_.frozen 1⟩, ⟨h_.cell (i := 2) (by omega), h_.frozen 2⟩, ⟨h_.cell (i := 3) (by omega), h_.frozen 3⟩, ⟨h_.cell (i := 4) (by omega), h_.frozen 4⟩, ⟨h_.cell (i := 5) (by omega), h_.frozen 5⟩, ⟨h_.cell (i := 6) (by omega), h_.frozen 6⟩, ⟨h_.cell (i := 7) (by omega), h_.frozen 7⟩, ⟨h_.cell (i := 8) (by omega), h_.frozen 8⟩, ⟨h_.cell (i := 9) (by omega), h_.frozen 9⟩, ⟨h_.cell (i := 10) (by omega), h_.frozen 10⟩, ⟨h_.cell (i := 11) (by omega), h_.frozen 11⟩, ⟨h_.cell (i := 12) (by omega), h_.frozen 12⟩, ⟨h_.cell (i := 13) (by omega), h_.frozen 13⟩, ⟨h_.cell (i := 14) (by omega), h_.frozen 14⟩⟩
theorem g_fn (sh : Shp) (hand : Int) (fn v2 v3 : Value) (t : Ans) (ix sl gn : Int) (y : Value) (k : Nat) (hk : k < 15) : (fun k => if k = 1 then y else gC sh hand fn v2 v3 t ix sl gn k) k = gC sh hand y v2 v3 t ix sl gn k := by
 match k, hk with
 | 0, _ | 1, _ | 2, _ | 3, _ | 4, _ | 5, _ | 6, _ | 7, _ | 8, _ | 9, _ | 10, _ | 11, _ | 12, _ | 13, _ | 14, _ => rfl
theorem g_sl (sh : Shp) (hand : Int) (fn v2 v3 : Value) (t : Ans) (ix sl gn : Int) (y : Int) (k : Nat) (hk : k < 15) : (fun k => if k = 13 then Value.int .i64 y else gC sh hand fn v2 v3 t ix sl gn k) k = gC sh hand fn v2 v3 t ix y gn k := by
 match k, hk with
 | 0, _ | 1, _ | 2, _ | 3, _ | 4, _ | 5, _ | 6, _ | 7, _ | 8, _ | 9, _ | 10, _ | 11, _ | 12, _ | 13, _ | 14, _ => rfl
theorem g_gn (sh : Shp) (hand : Int) (fn v2 v3 : Value) (t : Ans) (ix sl gn : Int) (y : Int) (k : Nat) (hk : k < 15) : (fun k => if k = 14 then Value.int .u64 y else gC sh hand fn v2 v3 t ix sl gn k) k = gC sh hand fn v2 v3 t ix sl y k := by
 match k, hk with
 | 0, _ | 1, _ | 2, _ | 3, _ | 4, _ | 5, _ | 6, _ | 7, _ | 8, _ | 9, _ | 10, _ | 11, _ | 12, _ | 13, _ | 14, _ => rfl
theorem g_told (sh : Shp) (hand : Int) (fn v2 v3 : Value) (t : Ans) (ix sl gn : Int) (y : Int) (k : Nat) (hk : k < 15) : (fun k => if k = 5 then Value.int .u64 y else if k = 4 then .bool true else gC sh hand fn v2 v3 t ix sl gn k) k = gC sh hand fn v2 v3 ⟨true, y⟩ ix sl gn k := by
 match k, hk with
 | 0, _ | 1, _ | 2, _ | 3, _ | 4, _ | 5, _ | 6, _ | 7, _ | 8, _ | 9, _ | 10, _ | 11, _ | 12, _ | 13, _ | 14, _ => rfl
theorem ex_object {ev : Operand → Value} {o : Oper} {w : World} {x y : Operand} {fl : Bool} {gn : Int} (ho : o.op = .build 191 #[(0, .const (.bool true)), (1, .const (.bool true)), (2, x), (5, y)]) (hx : ev x = .bool fl) (hy : ev y = .int .u64 gn) (hc : ∀ c, ev (.const c) = c) : (execOp ev o).run Tryz.prog w = .ok (.value (.agg #[.bool true, .bool true, .bool fl, .bool false, .int .i64 0, .int .u64 gn, .int .u64 0, .int .u64 0, .slice none 0 0])) w := by
 simp [execOp, ho, hx, hy, hc, go_sem]
theorem ex_max0 {ev : Operand → Value} {o : Oper} {w : World} {x y : Operand} {t1 t2 : TypeId} {v : Int} (ho : o.op = Op.call { callee := .builtin .max, args := #[x, y], argTypes := #[t1, t2] }) (hx : ev x = .int .i64 v) (hy : ev y = .int .i64 0) : (execOp ev o).run Tryz.prog w = .ok (.value (.int .i64 (mx0 v))) w := by
 simp [execOp, ho, hx, hy, go_sem, mx0]
theorem handle_any (i g : Int) (w : World) : Calls Tryz.prog 137 #[.int .i64 i, .int .u64 g] w fun e w' => e = .returned (.int .u64 (hd i g)) ∧ w' = w := by
 have J := hide (fun w1 : World => join_any i g w1)
 go_enter Tryz.func137, Tryz.ntmps137
 go_wp2_with fail
 refine (J.out _).mono ?_
 rintro e w1 ⟨rfl, rfl⟩
 go_wp2_with fail
 go_ret
 exact ⟨rfl, rfl⟩
theorem pack_use (fl : Bool) {gn c : Int} (hn : 0 ≤ gn ∧ gn ≤ 4294967295) (hc : c = 0 ∨ c = 1) (w : World) : Calls Tryz.prog 117 #[.agg #[.bool true, .bool true, .bool fl, .bool false, .int .i64 0, .int .u64 gn, .int .u64 0, .int .u64 0, .slice none 0 0], .int .i64 c] w fun e w' => e = .returned (.tuple #[.int .u64 (packW true (ownB true c) fl false 0 gn), .int .i64 0]) ∧ Below w.heap.size w w' := by
 rcases hc with rfl | rfl
 ·exact pack_word_ok_true0 true fl false 0 gn 0 0 _ (by omega) (by omega) hn.1 hn.2 w
 ·exact pack_word_ok_true1 true fl false 0 gn 0 0 _ (by omega) (by omega) hn.1 hn.2 w
theorem mx0_bd (a : Int) (h : a ≤ 9223372036854775807) : 0 ≤ mx0 a ∧ mx0 a ≤ 9223372036854775807 := by unfold mx0; split <;> omega
end Rom
end
end Go.Proofs.YtppgbndoijppnaaGreat
