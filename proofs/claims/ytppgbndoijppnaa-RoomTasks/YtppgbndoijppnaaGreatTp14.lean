/-
  Lemmas: AlongE.
-/
import Derived.Test.YtppgbndoijppnaaGreatTp07
import Derived.Test.YtppgbndoijppnaaGreatTp13
import Derived.Test.YtppgbndoijppnaaGreatTp06
import Derived.Deep.MidRow
import Derived.RegionTactic
import Derived.RegionCalls
import Derived.BigQuiet
import Derived.ChangeAlike
import Derived.Deep.RegionHeldLaw
import Derived.Deep.Light
namespace Go.Proofs.YtppgbndoijppnaaGreat
set_option maxHeartbeats 8000000
open Go.RowKit
set_option linter.unusedVariables false
set_option linter.unusedSimpArgs false
set_option maxRecDepth 20000
section
namespace Hp
theorem there_row {w : World} {b n m : Nat} {t : TypeId} {f : Nat → Value} (h : w.rowIs b t n f) (hm : m ≤ n) : w.there b 0 m := fun j hj =>
 ⟨by rw [h.cell (i := 0 + j) (by omega)]; rfl, h.frozen _⟩
theorem ex_nilc {ev : Operand → Value} {o : Oper} {w : World} {x : Operand} {a : Addr} (ho : o.op = .nilCheck x) (hx : ev x = .pointer (some a)) : (execOp ev o).run Tryz.prog w = .ok (.value (.pointer (some a))) w := by
 simp [execOp, ho, hx, go_sem]
theorem ex_ans {ev : Operand → Value} {o : Oper} {w : World} {x : Operand} {ts : Array TypeId} {tid : TypeId} {p : Value} {fa : FuncId} {nm : String} (ho : o.op = Op.call { callee := Callee.invoke x nm, args := #[], argTypes := ts })
  (hx : ev x = .iface tid p) (hn : (method 321 tid p nm).run Tryz.prog w = .ok (fa, p) w) (hA : (callFunc fa #[p]).run Tryz.prog w = .ok (.enter fa #[p]) w) : (execOp ev o).run Tryz.prog w = .ok (.enter fa #[p]) w := by
 simp [execOp, ho, hx, go_sem, resolve, invoke, hn, hA]
theorem ex_callv {ev : Operand → Value} {o : Oper} {w : World} {x y : Operand} {ts : Array TypeId} {fb : FuncId} {first caps : Array Value} {t : Value} (ho : o.op = Op.call { callee := Callee.value x, args := #[y], argTypes := ts })
  (hx : ev x = .func (.func fb) first caps) (hy : ev y = t) (hB : (invoke (.fn (.func fb) caps) (first ++ #[t])).run Tryz.prog w = .ok (.enter fb (first ++ #[t] ++ caps)) w) : (execOp ev o).run Tryz.prog w = .ok (.enter fb (first ++ #[t] ++ caps)) w := by
 simp [execOp, ho, hx, hy, go_sem, resolve]
 exact hB
theorem fieldW2 (w : World) (b : Nat) : (Instr.fieldAt 97 (.pointer (some ⟨b, 0, none⟩)) 2).run Tryz.prog w = .ok (.pointer (some ⟨b, 2, none⟩)) w := by simp [go_sem]
theorem fieldW3 (w : World) (b : Nat) : (Instr.fieldAt 97 (.pointer (some ⟨b, 0, none⟩)) 3).run Tryz.prog w = .ok (.pointer (some ⟨b, 3, none⟩)) w := by simp [go_sem]
def stpRow (x : Stp) : Nat → Value := fun i => match i with | 0 => .int .i64 x.hand | 1 => .int .i64 x.act | 2 => .int .i64 x.at_ | 3 => .int .u64 x.had | 4 => .int .u64 x.put | _ => .bool x.ok
theorem stpRow_range {w : World} {q : Nat} {x : Stp} (h : w.rowIs q 69 6 (stpRow x)) : w.rangeAt q 0 x.cells := fun j v hj => by
 have hlt : j < 6 := by
  have := (List.getElem?_eq_some_iff.1 hj).1
  simpa [Stp.cells] using this
 have hc := h.cell (i := j) hlt
 rw [Nat.zero_add]
 rw [hc]
 match j, hlt with
 | 0, _ | 1, _ | 2, _ | 3, _ | 4, _ | 5, _ => simpa [Stp.cells, stpRow] using hj
def AE (w W0 : World) (rb : Nat) (x : Stp) (t : Ans) (v : Int) (Q2 : World → World → Prop) : Nat → (Nat → Value) → World → Prop
 | 0, _, w' => Below W0.heap.size W0 w'
 | 1, s, w' => Below W0.heap.size W0 w' ∧ s 28 = t.value
 | 2, s, w' => s 29 = .int .i64 v ∧ ∃ w2, Below W0.heap.size W0 w2 ∧ Q2 w2 w'
 | 3, s, w' => s 29 = .int .i64 v ∧ ∃ w2 w3, Below W0.heap.size W0 w2 ∧ Q2 w2 w3 ∧ Touch w3 w' (fun k => k = rb) ∧ w'.rangeAt rb 0 x.cells
 | _, s, w' => s 5 = .int .i64 v ∧ ∃ w2 w3, Below W0.heap.size W0 w2 ∧ Q2 w2 w3 ∧ Touch w3 w' (fun k => k = rb) ∧ w'.rangeAt rb 0 x.cells
theorem AE.local {w W0 : World} {rb : Nat} {x : Stp} {t : Ans} {v : Int} {Q2 : World → World → Prop} {n : Nat} {s s' : Nat → Value} {w' : World} (h28 : s 28 = s' 28) (h29 : s 29 = s' 29) (h5 : s 5 = s' 5) (h : AE w W0 rb x t v Q2 n s w') : AE w W0 rb x t v Q2 n s' w' := by
 match n with
 | 0 => exact h
 | 1 => exact ⟨h.1, h28 ▸ h.2⟩
 | 2 => exact ⟨h29 ▸ h.1, h.2⟩
 | 3 => exact ⟨h29 ▸ h.1, h.2⟩
 | _ + 4 => exact ⟨h5 ▸ h.1, h.2⟩
theorem along_ends {w : World} {b pb : Nat} {mem : Value} {tid : TypeId} {fs fa fb : FuncId} {x : Stp} {t : Ans} {v : Int} {first caps : Array Value} {Q : World → Prop} {Q2 : World → World → Prop}
  (hF : ∀ (args : Array Value) (w : World), (callFunc fs args).run Tryz.prog w = .ok (.enter fs args) w) (hA : ∀ (args : Array Value) (w : World), (callFunc fa args).run Tryz.prog w = .ok (.enter fa args) w)
  (hB : ∀ (w : World) (t : Value), (invoke (.fn (.func fb) caps) (first ++ #[t])).run Tryz.prog w = .ok (.enter fb (first ++ #[t] ++ caps)) w)
  (hm : ∀ w : World, (method 321 tid (.pointer (some ⟨pb, 0, none⟩)) "Step").run Tryz.prog w = .ok (fs, .pointer (some ⟨pb, 0, none⟩)) w)
  (hn : ∀ w : World, (method 321 tid (.pointer (some ⟨pb, 0, none⟩)) "Answer").run Tryz.prog w = .ok (fa, .pointer (some ⟨pb, 0, none⟩)) w)
  (hb : b < w.heap.size) (c2 : w.cell? ⟨b, 2, none⟩ = some (.iface tid (.pointer (some ⟨pb, 0, none⟩)))) (hQ : ∀ w1, Q w1 → w.heap.size < w1.heap.size ∧ w1.heap[w.heap.size]? = (w.alloc zstep).heap[w.heap.size]? ∧ w1.heap[b]? = w.heap[b]?)
  (c3 : w.cell? ⟨b, 3, none⟩ = some (.func (.func fb) first caps))
  (KF : Calls Tryz.prog fs #[.pointer (some ⟨pb, 0, none⟩), mem] (w.alloc zstep) fun e w' => e = .returned (.tuple #[x.val, .int .i64 1]) ∧ Q w')
  (KA : ∀ w1 w2, Q w1 → Below w1.heap.size w1 w2 → Calls Tryz.prog fa #[.pointer (some ⟨pb, 0, none⟩)] w2 fun e w3 => e = .returned t.value ∧ w2.grownBy w3 none)
  (KB : ∀ w1 w2, Q w1 → Below w1.heap.size w1 w2 → Calls Tryz.prog fb (first ++ #[t.value] ++ caps) w2 fun e w3 => e = .returned (.int .i64 v) ∧ Q2 w2 w3)
  (hQ2 : ∀ w2 w3, Q2 w2 w3 → w2.heap.size ≤ w3.heap.size ∧ ∀ k, w.heap.size ≤ k → k < w2.heap.size → w3.heap[k]? = w2.heap[k]?) :
  Calls Tryz.prog 93 #[.pointer (some ⟨b, 0, none⟩), mem] w fun e w' => e = .returned (.tuple #[x.val, .int .i64 v]) ∧ ∃ w1 w2 w3, Q w1 ∧ Below w1.heap.size w1 w2 ∧ Q2 w2 w3 ∧ Touch w3 w' (fun k => k = w.heap.size) := by
 have c2' : (w.alloc zstep).cell? ⟨b, 2, none⟩ = some (.iface tid (.pointer (some ⟨pb, 0, none⟩))) := by rw [World.cell?_alloc_past _ _ _ hb]; exact c2
 have HZ := hide (zrow w)
 have HQ := hide hQ
 have K := hide KF
 have HKA := hide KA
 have HKB := hide KB
 have HQ2 := hide hQ2
 clear KF hQ KA KB hQ2
 unfold zstep at c2' K
 go_enter Tryz.func93, Tryz.ntmps93
 go_wp2_with fail
 refine K.out.mono ?_
 rintro e w1 ⟨rfl, hq⟩
 simp only [Stp.val]
 have Q1 := hide hq
 obtain ⟨l2, e2, eb⟩ := HQ.out w1 hq
 have d2 : w1.cell? ⟨b, 2, none⟩ = some (.iface tid (.pointer (some ⟨pb, 0, none⟩))) := (World.cell?_of_block (w := w) eb).trans c2
 have d3 : w1.cell? ⟨b, 3, none⟩ = some (.func (.func fb) first caps) := (World.cell?_of_block (w := w) eb).trans c3
 have lb1 : b < w1.heap.size := by omega
 have RR := hide (HZ.out.of_block e2)
 have R6 := hide (rowIs_cells (w := w1) #[.int .i64 x.hand, .int .i64 x.act, .int .i64 x.at_, .int .u64 x.had, .int .u64 x.put, .bool x.ok] 69 (fun i => match i with | 0 => .int .i64 x.hand | 1 => .int .i64 x.act | 2 => .int .i64 x.at_ | 3 => .int .u64 x.had | 4 => .int .u64 x.put | _ => .bool x.ok) 6 rfl (fun i hi => by
  match i, hi with
  | 0, _ | 1, _ | 2, _ | 3, _ | 4, _ | 5, _ => rfl))
 have f2 : (w1.alloc (.cells #[.int .i64 x.hand, .int .i64 x.act, .int .i64 x.at_, .int .u64 x.had, .int .u64 x.put, .bool x.ok] 69)).cell? ⟨b, 2, none⟩ = some (.iface tid (.pointer (some ⟨pb, 0, none⟩))) := by rw [World.cell?_alloc_past _ _ _ lb1]; exact d2
 have f3 : (w1.alloc (.cells #[.int .i64 x.hand, .int .i64 x.act, .int .i64 x.at_, .int .u64 x.had, .int .u64 x.put, .bool x.ok] 69)).cell? ⟨b, 3, none⟩ = some (.func (.func fb) first caps) := by rw [World.cell?_alloc_past _ _ _ lb1]; exact d3
 have B6 := hide ((Below.refl w1.heap.size w1).alloc (Nat.le_refl _) (.cells #[.int .i64 x.hand, .int .i64 x.act, .int .i64 x.at_, .int .u64 x.had, .int .u64 x.put, .bool x.ok] 69))
 clear hq e2 eb K HQ c2' c2 c3 d2 d3
 go_wp2_with fail
 obtain ⟨W0, hW0⟩ : ∃ W0, w1.alloc (.cells #[.int .i64 x.hand, .int .i64 x.act, .int .i64 x.at_, .int .u64 x.had, .int .u64 x.put, .bool x.ok] 69) = W0 := ⟨_, rfl⟩
 rw [hW0] at f2 f3 R6 B6 ⊢
 have lW : W0.heap.size = w1.heap.size + 1 := by rw [← hW0]; simp
 have RW := hide (RR.out.of_block (B6.out.block _ l2))
 have R6' := hide (show W0.rowIs w1.heap.size 69 6 (stpRow x) from R6.out)
 have CB := hide (fun (w' : World) (h : Below W0.heap.size W0 w') => And.intro ((h.cell (p := ⟨b, 2, none⟩) (by show b < _; omega)).trans f2) ((h.cell (p := ⟨b, 3, none⟩) (by show b < _; omega)).trans f3))
 have early1 : ∀ {n1 : Nat} {s1 : Nat → Value} {w' : World}, n1 ≤ 1 → AE w W0 w.heap.size x t v Q2 n1 s1 w' → Below W0.heap.size W0 w' := by
  intro n1 s1 w' hn1 hS
  match n1, hn1 with
  | 0, _ => exact hS
  | 1, _ => exact hS.1
 have past : ∀ {w2 w3 : World}, Below W0.heap.size W0 w2 → Q2 w2 w3 → w3.heap[w.heap.size]? = W0.heap[w.heap.size]? ∧ w3.heap[w1.heap.size]? = W0.heap[w1.heap.size]? ∧ W0.heap.size ≤ w3.heap.size := by
  intro w2 w3 h2 h3
  have hs2 := h2.size
  obtain ⟨a1, a2⟩ := HQ2.out w2 w3 h3
  exact ⟨(a2 _ (Nat.le_refl _) (by omega)).trans (h2.block _ (by omega)), (a2 _ (by omega) (by omega)).trans (h2.block _ (by omega)), by omega⟩
 have KEEP6 := hide (show ∀ (n1 : Nat) (s1 : Nat → Value) (w' : World), AE w W0 w.heap.size x t v Q2 n1 s1 w' → w'.rowIs w1.heap.size 69 6 (stpRow x) from fun n1 s1 w' h => by
  match n1 with
  | 0 => exact R6'.out.of_block (h.block _ (by omega))
  | 1 => exact R6'.out.of_block (h.1.block _ (by omega))
  | 2 => obtain ⟨_, w2, h2, h3⟩ := h; exact R6'.out.of_block (past h2 h3).2.1
  | 3 => obtain ⟨_, w2, w3, h2, h3, h4, _⟩ := h; exact (R6'.out.of_block (past h2 h3).2.1).of_block (h4.block _ (by have := (past h2 h3).2.2; omega) (by omega))
  | _ + 4 => obtain ⟨_, w2, w3, h2, h3, h4, _⟩ := h; exact (R6'.out.of_block (past h2 h3).2.1).of_block (h4.block _ (by have := (past h2 h3).2.2; omega) (by omega)))
 have HRESF := hide (show ∀ w2 w3 : World, Below W0.heap.size W0 w2 → Q2 w2 w3 → w3.rowIs w.heap.size 69 6 zcell from fun w2 w3 h2 h3 => RW.out.of_block (past h2 h3).1)
 clear past f2 f3 hW0 R6
 refine LtH.region2 (ks := [(0, 19), (1, 20), (2, 21), (3, 22), (4, 23), (5, 24), (6, 25), (7, 26), (8, 27)]) (vals := fun iv => match iv with | 0 => .agg x.cells.toArray | 1 => .pointer (some ⟨b, 0, none⟩) | 2 => .pointer (some ⟨b, 0, none⟩) | 3 => .pointer (some ⟨b, 3, none⟩) | 4 => .func (.func fb) first caps | 5 => .pointer (some ⟨b, 0, none⟩) | 6 => .pointer (some ⟨b, 0, none⟩) | 7 => .pointer (some ⟨b, 2, none⟩) | 8 => .iface tid (.pointer (some ⟨pb, 0, none⟩)) | _ => undef)
  (xs := [28, 29, 5]) (WI := LtE.WI [9, 10, 11, 12] [(9, 8), (10, 4)] (AE w W0 w.heap.size x t v Q2)) (by kernel_rfl) ?Agd ?Abk rfl ?Add ?Axx ?Alc ?Ast ?Ado ?Afi
 case Agd =>
  intro iq oq ho
  have hiq : iq < 13 := by have := (Array.getElem?_eq_some_iff.1 ho).1; simpa using this
  match iq, hiq with
  | 0, _ | 1, _ | 2, _ | 3, _ | 4, _ | 5, _ | 6, _ | 7, _ | 8, _ | 9, _ | 10, _ | 11, _ | 12, _ => injection ho with ho; subst ho; rfl
 case Abk =>
  intro iq oq ho
  have hiq : iq < 13 := by have := (Array.getElem?_eq_some_iff.1 ho).1; simpa using this
  match iq, hiq with
  | 0, _ | 1, _ | 2, _ | 3, _ | 4, _ | 5, _ | 6, _ | 7, _ | 8, _ | 9, _ | 10, _ | 11, _ | 12, _ => injection ho with ho; subst ho; simp [Region.binds]
 case Add =>
  intro kq hk
  have hk2 : kq < 31 := by
   simp [Lt.D] at hk
   omega
  exact hk2
 case Axx =>
  intro kq hk
  have hk2 : kq < 31 := by
   simp at hk
   omega
  exact hk2
 case Alc =>
  rintro L s1 s2 w1 hx ⟨⟨n1, h1, h2, h3⟩, h4⟩
  exact ⟨⟨n1, h1, h2, AE.local (hx 28 rfl) (hx 29 rfl) (hx 5 rfl) h3⟩, h4⟩
 case Ast => exact LtE.WI.start (show Below W0.heap.size W0 _ from (Below.refl _ W0).drew)
 case Ado =>
  intro iq oq ho
  have hiq : iq < 13 := by have := (Array.getElem?_eq_some_iff.1 ho).1; simpa using this
  match iq, hiq with
  | 0, _ => injection ho with ho; subst ho; exact LtE.read rfl rfl rfl (fun L a w' hI hL hq => Lt.ex_load_row (cs := x.cells) rfl (hI.fix 6 (Lt.notD rfl) rfl) (by obtain ⟨n1, hn1⟩ := hI.world.any; exact stpRow_range (KEEP6.out n1 _ w' hn1)) (by kernel_rfl) (by kernel_rfl))
  | 1, _ => injection ho with ho; subst ho; exact LtE.read rfl rfl rfl (fun L a w' hI hL hq => Lt.ex_move rfl (hI.fix 0 (Lt.notD rfl) rfl))
  | 2, _ => injection ho with ho; subst ho; exact LtE.read rfl rfl rfl (fun L a w' hI hL hq => ex_nilc rfl (hI.pure 1 _ _ rfl (hq ⟨1, .data⟩ (by simp) rfl)))
  | 3, _ => injection ho with ho; subst ho; exact LtE.read rfl rfl rfl (fun L a w' hI hL hq => Lt.ex_field rfl (hI.pure 2 _ _ rfl (hq ⟨2, .data⟩ (by simp) rfl)) (fieldW3 w' b))
  | 4, _ => injection ho with ho; subst ho; exact LtE.read rfl rfl rfl (fun L a w' hI hL hq => Lt.ex_load rfl (hI.pure 3 _ _ rfl (hq ⟨3, .data⟩ (by simp) rfl)) (by simp [go_sem]) (by obtain ⟨n1, hn1, hS⟩ := hI.world.early (ra := 10) (rb := 4) (by simp) (m := 1) rfl hL; exact (CB.out w' (early1 hn1 hS)).2))
  | 5, _ => injection ho with ho; subst ho; exact LtE.read rfl rfl rfl (fun L a w' hI hL hq => Lt.ex_move rfl (hI.fix 0 (Lt.notD rfl) rfl))
  | 6, _ => injection ho with ho; subst ho; exact LtE.read rfl rfl rfl (fun L a w' hI hL hq => ex_nilc rfl (hI.pure 5 _ _ rfl (hq ⟨5, .data⟩ (by simp) rfl)))
  | 7, _ => injection ho with ho; subst ho; exact LtE.read rfl rfl rfl (fun L a w' hI hL hq => Lt.ex_field rfl (hI.pure 6 _ _ rfl (hq ⟨6, .data⟩ (by simp) rfl)) (fieldW2 w' b))
  | 8, _ => injection ho with ho; subst ho; exact LtE.read rfl rfl rfl (fun L a w' hI hL hq => Lt.ex_load rfl (hI.pure 7 _ _ rfl (hq ⟨7, .data⟩ (by simp) rfl)) (by simp [go_sem]) (by obtain ⟨n1, hn1, hS⟩ := hI.world.early (ra := 9) (rb := 8) (by simp) (m := 0) rfl hL; exact (CB.out w' (early1 (by omega) hS)).1))
  | 9, _ => injection ho with ho; subst ho; exact LtE.call (m := 0) (args := fun _ => #[.pointer (some ⟨pb, 0, none⟩)]) (by decide) rfl rfl rfl rfl (fun L hq p hp e => by simp at hp; rcases hp with rfl | rfl <;> simp at e; exact hq ⟨8, .data⟩ (by simp) rfl) (fun L hq m1 j1 e1 _ => absurd e1 (by omega)) (fun L a w' hI hq hS => ex_ans rfl (hI.pure 8 _ _ rfl (hq ⟨8, .data⟩ (by simp) rfl)) (hn w') (hA _ w')) (fun s w' hS => (HKA.out w1 w' Q1.out (B6.out.trans (hS.mono B6.out.size))).mono (by rintro e w3 ⟨rfl, hg⟩; exact ⟨_, rfl, hS.grown hg hS.size (fun k hk => by cases hk), by simp⟩))
  | 10, _ => injection ho with ho; subst ho; exact LtE.call (m := 1) (args := fun _ => first ++ #[t.value] ++ caps) (by decide) rfl rfl rfl rfl (fun L hq p hp e => by simp at hp; rcases hp with rfl | rfl <;> simp at e; exact hq ⟨4, .data⟩ (by simp) rfl) (fun L hq m1 j1 e1 hj => by (cases (show m1 = 0 from (by omega))); cases hj; exact hq ⟨9, .data⟩ (by simp) rfl) (fun L a w' hI hq hS => ex_callv rfl (hI.pure 4 _ _ rfl (hq ⟨4, .data⟩ (by simp) rfl)) hS.2 (hB w' _)) (fun s w' hS => (HKB.out w1 w' Q1.out (B6.out.trans (hS.1.mono B6.out.size))).mono (by rintro e w3 ⟨rfl, hg⟩; exact ⟨_, rfl, by simp, w', hS.1, hg⟩))
  | 11, _ => injection ho with ho; subst ho; exact LtE.store (m := 2) (by decide) rfl rfl rfl (fun L _ p hp e => by simp at hp; rcases hp with rfl | rfl <;> simp at e) (fun L hq m1 j1 e1 hj => by (cases (show m1 = 1 from (by omega))); cases hj; exact hq ⟨10, .chain⟩ (by simp) rfl) (fun L a w' Kq hI hq hS hk => by obtain ⟨h29, w2, h2, h3⟩ := hS; refine wp_store_mid _ _ _ rfl w.heap.size 0 x.cells.toArray (hI.fix 4 (Lt.notD rfl) rfl) (hI.pure 0 _ _ rfl (hq ⟨0, .data⟩ (by simp) rfl)) (by simpa [Stp.cells] using there_row (HRESF.out w2 w' h2 h3) (by simp [Stp.cells])) (by kernel_rfl) (by simp [Stp.cells, Value.oneCell']) (hk _ _ ⟨h29, w2, w', h2, h3, touch_setCells _ _ _ _, World.rangeAt_setCells_same _ _ _ _ (there_row (HRESF.out w2 w' h2 h3) (by simp [Stp.cells]))⟩))
  | 12, _ => injection ho with ho; subst ho; exact LtE.link (m := 3) (by decide) rfl rfl rfl rfl (fun L _ p hp e => by simp at hp; rcases hp with rfl | rfl <;> simp at e) (fun L hq m1 j1 e1 hj => by (cases (show m1 = 2 from (by omega))); cases hj; exact hq ⟨11, .chain⟩ (by simp) rfl) (fun L a w' Kq hI hq hS hk => Lt.wp_value (Lt.ex_assign rfl hS.1) (hk _ _ ⟨by simp, hS.2⟩))
 case Afi =>
  intro L a' w' hI hall
  obtain ⟨e5, w2, w3, h2, h3, h4, h6⟩ := hI.world.done (fun i hi => hall i (by simp at hi ⊢; omega))
  have hfr := LtH.frame hI [19, 20, 21, 22, 23, 24, 25, 26, 27, 28, 29, 5] rfl rfl (fun x hx => by simp at hx ⊢; omega)
  obtain ⟨t19, e19⟩ : ∃ t, a'.eval (.tmp 19) = t := ⟨_, rfl⟩
  obtain ⟨t20, e20⟩ : ∃ t, a'.eval (.tmp 20) = t := ⟨_, rfl⟩
  obtain ⟨t21, e21⟩ : ∃ t, a'.eval (.tmp 21) = t := ⟨_, rfl⟩
  obtain ⟨t22, e22⟩ : ∃ t, a'.eval (.tmp 22) = t := ⟨_, rfl⟩
  obtain ⟨t23, e23⟩ : ∃ t, a'.eval (.tmp 23) = t := ⟨_, rfl⟩
  obtain ⟨t24, e24⟩ : ∃ t, a'.eval (.tmp 24) = t := ⟨_, rfl⟩
  obtain ⟨t25, e25⟩ : ∃ t, a'.eval (.tmp 25) = t := ⟨_, rfl⟩
  obtain ⟨t26, e26⟩ : ∃ t, a'.eval (.tmp 26) = t := ⟨_, rfl⟩
  obtain ⟨t27, e27⟩ : ∃ t, a'.eval (.tmp 27) = t := ⟨_, rfl⟩
  obtain ⟨t28, e28⟩ : ∃ t, a'.eval (.tmp 28) = t := ⟨_, rfl⟩
  obtain ⟨t29, e29⟩ : ∃ t, a'.eval (.tmp 29) = t := ⟨_, rfl⟩
  simp only at e5
  rw [hfr]
  simp only [LtH.lay, List.foldl, e19, e20, e21, e22, e23, e24, e25, e26, e27, e28, e29, e5]
  have BW := hide (B6.out.trans (h2.mono B6.out.size))
  have c0 : w'.cell? ⟨w.heap.size, 0, none⟩ = some (.int .i64 x.hand) := by have := h6 0 _ rfl; simpa using this
  have c1 : w'.cell? ⟨w.heap.size, 1, none⟩ = some (.int .i64 x.act) := by have := h6 1 _ rfl; simpa using this
  have c2 : w'.cell? ⟨w.heap.size, 2, none⟩ = some (.int .i64 x.at_) := by have := h6 2 _ rfl; simpa using this
  have c3 : w'.cell? ⟨w.heap.size, 3, none⟩ = some (.int .u64 x.had) := by have := h6 3 _ rfl; simpa using this
  have c4 : w'.cell? ⟨w.heap.size, 4, none⟩ = some (.int .u64 x.put) := by have := h6 4 _ rfl; simpa using this
  have c5 : w'.cell? ⟨w.heap.size, 5, none⟩ = some (.bool x.ok) := by have := h6 5 _ rfl; simpa using this
  clear hfr hI hall h2 h6 e19 e20 e21 e22 e23 e24 e25 e26 e27 e28 e29
  simp only [Act.put, List.setIfInBounds_toArray, List.set_cons_succ, List.set_cons_zero]
  go_wp2_with fail
  refine bodyPost_ret (v := .tuple #[x.val, .int .i64 v]) ?res rfl ⟨rfl, w1, w2, w3, Q1.out, BW.out, h3, h4⟩
  case res => simp [results, Tryz.results93, go_sem, Stp.val, *]
end Hp
end
end Go.Proofs.YtppgbndoijppnaaGreat
