/-
  Lemmas: ListM, AlongL.
-/
import Derived.Test.YtidihnnmdmlgfaaGreatTq31
import Derived.Laws.Build
namespace Go.Proofs.YtidihnnmdmlgfaaGreat
set_option maxHeartbeats 8000000
open Go.RowKit
set_option linter.unusedVariables false
set_option linter.unusedSimpArgs false
set_option maxRecDepth 20000
section
namespace Hp
theorem goAlong_any {w : World} {b T nc : Nat} {C : Nat → Value} {tid : TypeId} {p : Addr} {fb : FuncId} {first caps : Array Value} (h : w.rowIs b T nc C) (hn : 3 < nc) :
    Calls Tryz.prog 53 #[.pointer (some ⟨b, 0, none⟩), .iface tid (.pointer (some p)), .func (.func fb) first caps] w fun e w' => e = .returned (.int .i64 0) ∧
      w'.rowIs b T nc (fun k => if k = 1 then .func (.func 63) #[.pointer (some ⟨b, 0, none⟩)] #[] else if k = 3 then .func (.func fb) first caps else if k = 2 then .iface tid (.pointer (some p)) else C k) ∧ Touch w w' (fun k => k = b) := by
  have c1 := h.cell (i := 1) (by omega)
  have f1 := h.frozen 1
  have c2 := h.cell (i := 2) (by omega)
  have f2 := h.frozen 2
  have c3 := h.cell (i := 3) (by omega)
  have f3 := h.frozen 3
  have hl := h.lt
  have hmf : ∀ (fn : Fn) (first cap : Array Value) (w : World), (Instr.makeFunc fn first cap).run Tryz.prog w = .ok (.func fn first cap) w := fun _ _ _ _ => rfl
  have R2 := hide ((h.set 2 (.iface tid (.pointer (some p)))).set 3 (.func (.func fb) first caps))
  have T2 := hide (((Touch.refl w (fun k => k = b)).setCell ⟨b, 2, none⟩ (.inl rfl) (.iface tid (.pointer (some p)))).setCell ⟨b, 3, none⟩ (.inl rfl) (.func (.func fb) first caps))
  have rs : ∀ (a : Addr) (F : FuncId) (x y : Array Value) (w1 : World), (store a (.func (.func F) x y)).run Tryz.prog w1 = stored Tryz.prog w1 a (.func (.func F) x y) .plain := fun a F x y w1 => run_store Tryz.prog w1 _ _ _ rfl
  clear h
  go_enter Tryz.func53, Tryz.ntmps53
  go_wp2_with (go_at_call 56; refine (goOn_any _ R2.out (by omega)).mono ?_; rintro e w1 ⟨rfl, r1, t1⟩; have R1 := hide r1; have T1 := hide t1; clear r1 t1)
  go_ret
  exact ⟨rfl, R1.out, T2.out.trans T1.out⟩
end Hp
namespace Ls
open Hp
theorem begin_any {w : World} {b T nc : Nat} {C : Nat → Value} {hand : Int} {F : FuncId} {p : Addr} (h : w.rowIs b T nc C) (hn : 1 < nc) :
    Calls Tryz.prog 42 #[.pointer (some ⟨b, 0, none⟩), .int .i64 hand, .func (.func F) #[.pointer (some p)] #[]] w fun e w' => e = .returned (.tuple #[]) ∧
      w'.rowIs b T nc (fun k => if k = 1 then .func (.func F) #[.pointer (some p)] #[] else if k = 0 then .int .i64 hand else C k) ∧ Touch w w' (fun k => k = b) := by
  have c0 := h.cell (i := 0) (by omega)
  have f0 := h.frozen 0
  have c1 := h.cell (i := 1) (by omega)
  have f1 := h.frozen 1
  have hl := h.lt
  have R := hide ((h.set 0 (.int .i64 hand)).set 1 (.func (.func F) #[.pointer (some p)] #[]))
  have T0 := hide (((Touch.refl w (fun k => k = b)).setCell ⟨b, 0, none⟩ (.inl rfl) (.int .i64 hand)).setCell ⟨b, 1, none⟩ (.inl rfl) (.func (.func F) #[.pointer (some p)] #[]))
  have rs : ∀ (a : Addr) (F : FuncId) (x y : Array Value) (w1 : World), (store a (.func (.func F) x y)).run Tryz.prog w1 = stored Tryz.prog w1 a (.func (.func F) x y) .plain := fun a F x y w1 => run_store Tryz.prog w1 _ _ _ rfl
  clear h
  go_enter Tryz.func42, Tryz.ntmps42
  go_wp2_with fail
  go_end0
  exact ⟨rfl, R.out, T0.out⟩
theorem lay_new {sh : Shp} (h5 : Shape.R5 sh.a sh.b sh.c sh.d sh.e) (hand : Int) (j : Jb) (hk : j.kind = 1) (w : World) :
    Calls Tryz.prog 84 #[sh.val, .int .i64 hand, .int .i64 j.a, .int .i64 j.b] w fun e w' => ∃ B R, e = .returned (.iface (tid j) (.pointer (some ⟨B 0, 0, none⟩))) ∧ (kList sh).Lies w' j B R (init sh hand j) ∧ (∀ i x, R i = some x → w.heap.size ≤ B i) ∧ w.grownBy w' none := by
  have BH := hide (fun w1 : World => behindAt_any h5 j.a j.b w1)
  have hmi : ∀ (x : Value) (w : World), (Instr.makeInterface 159 x).run Tryz.prog w = .ok (.iface 159 x) w := fun x w => run_makeInterface w 159 x (by kernel_rfl)
  have hmf : ∀ (fn : Fn) (first cap : Array Value) (w : World), (Instr.makeFunc fn first cap).run Tryz.prog w = .ok (.func fn first cap) w := fun _ _ _ _ => rfl
  obtain ⟨kind, a, b, c, hh⟩ := j
  obtain rfl : kind = 1 := hk
  clear h5
  have FIN := hide (show ∀ (w' : World) (q : Nat), w'.rowIs q 161 10 (lC hand (.func (.func 99) #[.pointer (some ⟨q, 0, none⟩)] #[]) .nilIface .nilFunc ⟨false, 0⟩ a 0 b (behAt sh a b)) → w.heap.size ≤ q → ∃ R, (kList sh).Lies w' ⟨1, a, b, c, hh⟩ (fun _ => q) R (init sh hand ⟨1, a, b, c, hh⟩) ∧ ∀ i x, R i = some x → w.heap.size ≤ q from fun w' q hr hq => by
    obtain ⟨Rf, hRf⟩ : ∃ Rf : Nat → Option Row, Rf = fun i => if i = 0 then some ⟨161, 10, lC hand (.func (.func 99) #[.pointer (some ⟨q, 0, none⟩)] #[]) .nilIface .nilFunc ⟨false, 0⟩ a 0 b (behAt sh a b)⟩ else none := ⟨_, rfl⟩
    have r0 : ∀ i x, Rf i = some x → i = 0 ∧ x = ⟨161, 10, lC hand (.func (.func 99) #[.pointer (some ⟨q, 0, none⟩)] #[]) .nilIface .nilFunc ⟨false, 0⟩ a 0 b (behAt sh a b)⟩ := by
      intro i x e
      rw [hRf] at e
      dsimp only at e
      split at e
      · next h => cases e; exact ⟨h, rfl⟩
      · cases e
    have ei : init sh hand ⟨1, a, b, c, hh⟩ = ⟨⟨true, sh, hand, a, 0, b, 0⟩, .on .meet, ⟨false, 0⟩⟩ := by unfold init; rw [if_pos rfl]
    have hf : W.form (init sh hand ⟨1, a, b, c, hh⟩) (fun _ => q) Rf := by
      rw [ei]
      refine ⟨_, .nilIface, .nilFunc, ?_, rfl, fun i hi => by rw [hRf]; dsimp only; rw [if_neg (by omega)]⟩
      rw [row_lay (o := ⟨true, sh, hand, a, 0, b, 0⟩) rfl, hRf]
      rfl
    exact ⟨Rf, ⟨hf, fun i x e => by obtain ⟨_, rfl⟩ := r0 i x e; exact hr, fun i i' x x' e e' _ => by rw [(r0 i x e).1, (r0 i' x' e').1]⟩, fun i x e => hq⟩)
  obtain ⟨s0, s1, s2, s3, s4, s5⟩ := sh
  simp only [Shp.val] at BH ⊢
  generalize behAt ⟨s0, s1, s2, s3, s4, s5⟩ a b = bh at BH FIN
  go_enter Tryz.func84, Tryz.ntmps84
  have rs : ∀ (a : Addr) (F : FuncId) (x y : Array Value) (w1 : World), (store a (.func (.func F) x y)).run Tryz.prog w1 = stored Tryz.prog w1 a (.func (.func F) x y) .plain := fun a F x y w1 => run_store Tryz.prog w1 _ _ _ rfl
  go_wp2_with (go_at_call 76; refine (BH.out _).mono ?_; rintro e w1 ⟨rfl, b1⟩; have B1 := hide b1; clear b1)
  obtain ⟨W1, hW1⟩ : ∃ W1, w1.alloc (.cells #[.int .i64 0, .nilFunc, .nilIface, .nilFunc, .bool false, .int .u64 0, .int .i64 a, .int .u64 0, .int .i64 b, .int .i64 bh] 161) = W1 := ⟨_, rfl⟩
  have RW := hide (show W1.rowIs w1.heap.size 161 10 (lC 0 .nilFunc .nilIface .nilFunc ⟨false, 0⟩ a 0 b bh) from by
    rw [← hW1]
    exact rowIs_cells _ _ _ 10 rfl (fun i hi => by
      match i, hi with
      | 0, _ | 1, _ | 2, _ | 3, _ | 4, _ | 5, _ | 6, _ | 7, _ | 8, _ | 9, _ => rfl))
  have s1 := B1.out.size
  simp only [World.size_alloc] at s1
  have BW : Below w.heap.size w W1 := by rw [← hW1]; exact (((Below.refl _ w).alloc (Nat.le_refl _) _).trans (B1.out.mono (by simp))).alloc (by omega) _
  have BWH := hide BW
  rw [hW1]
  clear hW1 BW
  refine (begin_any RW.out (by omega)).mono ?_
  rintro e w2 ⟨rfl, r2, t2⟩
  have RR := hide (show w2.rowIs w1.heap.size 161 10 (lC hand (.func (.func 99) #[.pointer (some ⟨w1.heap.size, 0, none⟩)] #[]) .nilIface .nilFunc ⟨false, 0⟩ a 0 b bh) from r2.congr (fun i hi => by
    match i, hi with
    | 0, _ | 1, _ | 2, _ | 3, _ | 4, _ | 5, _ | 6, _ | 7, _ | 8, _ | 9, _ => rfl))
  have B2 := hide (BWH.out.trans (t2.below (B := w.heap.size) (fun k hk => by subst hk; omega) BWH.out.size))
  clear r2 t2
  go_wp2_with fail
  go_ret
  obtain ⟨R, hR, hN⟩ := FIN.out w2 w1.heap.size RR.out (by omega)
  exact ⟨fun _ => w1.heap.size, R, rfl, hR, hN, below_grown B2.out none⟩
end Ls
end
section
set_option linter.unusedSectionVars false
namespace Hp
def alongC (b : Nat) (C : Nat → Value) (tid : TypeId) (fb : FuncId) (p : Nat) : Nat → Value := fun k => if k = 1 then .func (.func 63) #[.pointer (some ⟨b, 0, none⟩)] #[] else if k = 3 then .func (.func fb) #[.pointer (some ⟨b, 0, none⟩)] #[] else if k = 2 then .iface tid (.pointer (some ⟨p, 0, none⟩)) else C k
structure GS (b T nc : Nat) (C : Nat → Value) (bm bw m : Nat) (f f' : Nat → Int) (x : Stp) (rb : Nat) (sh : Shp) (hand : Int) (j : Jb) (fb : FuncId) (V : World) (P : (Nat → Value) → Prop) (sH sL sG : Nat) (n : Nat) (s : Nat → Value) (w' : World) : Prop where
  tch : Touch V w' (fun k => k = b ∨ k = bw ∨ k = rb)
  mem : IsMem w' bm bw m (if 1 ≤ n then f' else f)
  put : 1 ≤ n → P s
  hnd : n = 2 → s sH = .int .i64 hand
  row : n ≤ 3 → w'.rowIs b T nc C
  res : n ≤ 4 → w'.rowIs rb 122 6 zcell
  lay : 3 ≤ n → ∃ B R, (n = 3 → s sL = .iface (Ls.tid j) (.pointer (some ⟨B 0, 0, none⟩))) ∧ (Ls.kList sh).Lies w' j B R (Ls.init sh hand j) ∧ (∀ i x, R i = some x → V.heap.size ≤ B i) ∧ (4 ≤ n → w'.rowIs b T nc (alongC b C (Ls.tid j) fb (B 0)))
  go : n = 4 ∨ n = 5 → s sG = .int .i64 0
  sto : 5 ≤ n → w'.rangeAt rb 0 x.cells
  fin : 6 ≤ n → s 5 = .int .i64 0
namespace GS
variable {b T nc : Nat} {C : Nat → Value} {bm bw m : Nat} {f f' : Nat → Int} {x : Stp} {rb : Nat} {sh : Shp} {hand : Int} {j : Jb} {fb : FuncId} {V : World} {P : (Nat → Value) → Prop} {sH sL sG n : Nat} {s s' : Nat → Value} {w' w2 : World}
theorem loc (hP : ∀ s s' : Nat → Value, (∀ k, k = sH ∨ k = sL ∨ k = sG ∨ k = 5 → s k = s' k) → P s → P s') (hs : ∀ k, k = sH ∨ k = sL ∨ k = sG ∨ k = 5 → s k = s' k) (h : GS b T nc C bm bw m f f' x rb sh hand j fb V P sH sL sG n s w') : GS b T nc C bm bw m f f' x rb sh hand j fb V P sH sL sG n s' w' :=
  ⟨h.tch, h.mem, fun e => hP _ _ hs (h.put e), fun e => by rw [← hs _ (.inl rfl)]; exact h.hnd e, h.row, h.res, fun e => by obtain ⟨B, R, h1, h2⟩ := h.lay e; exact ⟨B, R, fun e => by rw [← hs _ (.inr (.inl rfl))]; exact h1 e, h2⟩, fun e => by rw [← hs _ (.inr (.inr (.inl rfl)))]; exact h.go e, h.sto, fun e => by rw [← hs _ (.inr (.inr (.inr rfl)))]; exact h.fin e⟩
theorem loc1 {sP : Nat} (hs : ∀ k, k = sP ∨ k = sH ∨ k = sL ∨ k = sG ∨ k = 5 → s k = s' k) {v : Value} (h : GS b T nc C bm bw m f f' x rb sh hand j fb V (fun s => s sP = v) sH sL sG n s w') : GS b T nc C bm bw m f f' x rb sh hand j fb V (fun s => s sP = v) sH sL sG n s' w' :=
  ⟨h.tch, h.mem, fun e => (hs sP (.inl rfl)).symm.trans (h.put e), fun e => by rw [← hs _ (.inr (.inl rfl))]; exact h.hnd e, h.row, h.res, fun e => by obtain ⟨B, R, h1, h2⟩ := h.lay e; exact ⟨B, R, fun e => by rw [← hs _ (.inr (.inr (.inl rfl)))]; exact h1 e, h2⟩, fun e => by rw [← hs _ (.inr (.inr (.inr (.inl rfl))))]; exact h.go e, h.sto, fun e => by rw [← hs _ (.inr (.inr (.inr (.inr rfl))))]; exact h.fin e⟩
theorem any (h : GS b T nc C bm bw m f f' x rb sh hand j fb V P sH sL sG n s w') : ∃ C', w'.rowIs b T nc C' ∧ ∀ i, i ≠ 1 → i ≠ 2 → i ≠ 3 → C' i = C i := by
  by_cases hn : n ≤ 3
  · exact ⟨C, h.row hn, fun _ _ _ _ => rfl⟩
  · obtain ⟨B, R, _, _, _, h4⟩ := h.lay (by omega)
    exact ⟨_, h4 (by omega), fun i h1 h2 h3 => by unfold alongC; rw [if_neg h1, if_neg h3, if_neg h2]⟩
theorem cell (h : GS b T nc C bm bw m f f' x rb sh hand j fb V P sH sL sG n s w') {i : Nat} (hi : i < nc) (h1 : i ≠ 1) (h2 : i ≠ 2) (h3 : i ≠ 3) : w'.cell? ⟨b, i, none⟩ = some (C i) := by
  obtain ⟨C', hr, hc⟩ := h.any
  rw [← hc i h1 h2 h3]
  exact hr.cell hi
theorem shape (h : GS b T nc C bm bw m f f' x rb sh hand j fb V P sH sL sG n s w') (hn : 11 < nc) {sh : Shp} (e6 : C 6 = .int .i64 sh.a) (e7 : C 7 = .int .i64 sh.b) (e8 : C 8 = .int .i64 sh.c) (e9 : C 9 = .int .i64 sh.d) (e10 : C 10 = .int .i64 sh.e) (e11 : C 11 = .int .i64 sh.f) :
    w'.rangeAt b 6 [.int .i64 sh.a, .int .i64 sh.b, .int .i64 sh.c, .int .i64 sh.d, .int .i64 sh.e, .int .i64 sh.f] := by
  obtain ⟨C', hr, hc⟩ := h.any
  exact shrowAt (o := 6) (sh := sh) (by omega) ((hc 6 (by omega) (by omega) (by omega)).trans e6) ((hc 7 (by omega) (by omega) (by omega)).trans e7) ((hc 8 (by omega) (by omega) (by omega)).trans e8) ((hc 9 (by omega) (by omega) (by omega)).trans e9) ((hc 10 (by omega) (by omega) (by omega)).trans e10) ((hc 11 (by omega) (by omega) (by omega)).trans e11) hr
theorem var (h : GS b T nc C bm bw m f f' x rb sh hand j fb V P sH sL sG n s w') {q : Nat} (hq : V.rangeAt q 0 x.cells) (hl : q < V.heap.size) (h1 : q ≠ b) (h2 : q ≠ bw) (h3 : q ≠ rb) : w'.rangeAt q 0 x.cells :=
  rangeAt_block hq (h.tch.block q hl (by rintro (e | e | e); exact h1 e; exact h2 e; exact h3 e))
variable (hb : b < V.heap.size) (hbm : bm < V.heap.size) (hbw : bw < V.heap.size) (hrb : rb < V.heap.size) (n1 : b ≠ bm) (n2 : b ≠ bw) (n3 : rb ≠ b) (n4 : rb ≠ bm) (n5 : rb ≠ bw)
include hb hbm hbw hrb n1 n2 n3 n4 n5
theorem start (hr : V.rowIs b T nc C) (hm : IsMem V bm bw m f) (hz : V.rowIs rb 122 6 zcell) : GS b T nc C bm bw m f f' x rb sh hand j fb V P sH sL sG 0 s { V with drawn := V.drawn + 1 } :=
  ⟨(Touch.refl V _).drew, hm.drew, fun e => absurd e (by omega), fun e => absurd e (by omega), fun _ => hr.drew, fun _ => hz.drew, fun e => absurd e (by omega), fun e => absurd e (by omega), fun e => absurd e (by omega), fun e => absurd e (by omega)⟩
theorem act (h : GS b T nc C bm bw m f f' x rb sh hand j fb V P sH sL sG 0 s w') (hr : w2.rowIs b T nc C) (hm : IsMem w2 bm bw m f') (ht : Touch w' w2 (fun k => k = b ∨ k = bw)) (hp : P s') : GS b T nc C bm bw m f f' x rb sh hand j fb V P sH sL sG 1 s' w2 :=
  ⟨h.tch.trans' ht (fun i _ e => e.elim .inl (fun e => .inr (.inl e))), hm, fun _ => hp, fun e => absurd e (by omega), fun _ => hr, fun _ => (h.res (by omega)).of_block (ht.block rb (by have := h.tch.size; omega) (by rintro (e | e); exact n3 e; exact n5 e)), fun e => absurd e (by omega), fun e => absurd e (by omega), fun e => absurd e (by omega), fun e => absurd e (by omega)⟩
theorem hand_ (h : GS b T nc C bm bw m f f' x rb sh hand j fb V P sH sL sG 1 s w') (hp : P s') (hs : s' sH = .int .i64 hand) : GS b T nc C bm bw m f f' x rb sh hand j fb V P sH sL sG 2 s' w' :=
  ⟨h.tch, h.mem, fun _ => hp, fun _ => hs, fun _ => h.row (by omega), fun _ => h.res (by omega), fun e => absurd e (by omega), fun e => absurd e (by omega), fun e => absurd e (by omega), fun e => absurd e (by omega)⟩
theorem lay_ (h : GS b T nc C bm bw m f f' x rb sh hand j fb V P sH sL sG 2 s w') {B : Nat → Nat} {R : Nat → Option Row} (hg : w'.grownBy w2 none) (hL : (Ls.kList sh).Lies w2 j B R (Ls.init sh hand j)) (hN : ∀ i x, R i = some x → w'.heap.size ≤ B i) (hp : P s') (hs : s' sL = .iface (Ls.tid j) (.pointer (some ⟨B 0, 0, none⟩))) : GS b T nc C bm bw m f f' x rb sh hand j fb V P sH sL sG 3 s' w2 := by
  have hz := h.tch.size
  have tt := Touch.of_grown_none hg (fun _ => False)
  exact ⟨h.tch.trans' tt (fun i _ e => e.elim), isMem_touch h.mem tt id id, fun _ => hp, fun e => absurd e (by omega), fun _ => (h.row (by omega)).of_block (tt.block b (by omega) id), fun _ => (h.res (by omega)).of_block (tt.block rb (by omega) id), fun _ => ⟨B, R, fun _ => hs, hL, fun i x e => by have := hN i x e; omega, fun e => absurd e (by omega)⟩, fun e => absurd e (by omega), fun e => absurd e (by omega), fun e => absurd e (by omega)⟩
theorem go_ (h : GS b T nc C bm bw m f f' x rb sh hand j fb V P sH sL sG 3 s w') {B : Nat → Nat} {R : Nat → Option Row} (hL : (Ls.kList sh).Lies w' j B R (Ls.init sh hand j)) (hN : ∀ i x, R i = some x → V.heap.size ≤ B i) (hr : w2.rowIs b T nc (alongC b C (Ls.tid j) fb (B 0))) (ht : Touch w' w2 (fun k => k = b)) (hp : P s') (hs : s' sG = .int .i64 0) : GS b T nc C bm bw m f f' x rb sh hand j fb V P sH sL sG 4 s' w2 := by
  have hz := h.tch.size
  exact ⟨h.tch.trans' ht (fun i _ e => .inl e), isMem_touch h.mem ht (fun e => n1 e.symm) (fun e => n2 e.symm), fun _ => hp, fun e => absurd e (by omega), fun e => absurd e (by omega), fun _ => (h.res (by omega)).of_block (ht.block rb (by omega) n3), fun _ => ⟨B, R, fun e => absurd e (by omega), hL.touch ht (fun i x e e' => by have := hN i x e; omega), hN, fun _ => hr⟩, fun _ => hs, fun e => absurd e (by omega), fun e => absurd e (by omega)⟩
theorem thr (h : GS b T nc C bm bw m f f' x rb sh hand j fb V P sH sL sG 4 s w') : w'.there rb 0 x.cells.length := there_row (h.res (by omega)) (by simp [Stp.cells])
theorem sto_ (h : GS b T nc C bm bw m f f' x rb sh hand j fb V P sH sL sG 4 s w') : GS b T nc C bm bw m f f' x rb sh hand j fb V P sH sL sG 5 s (w'.setCells rb 0 x.cells) := by
  have hz := h.tch.size
  have tt := touch_setCells rb x.cells 0 w'
  obtain ⟨B, R, _, hL, hN, hr⟩ := h.lay (by omega)
  exact ⟨h.tch.trans' tt (fun i _ e => .inr (.inr e)), isMem_touch h.mem tt (fun e => n4 e.symm) (fun e => n5 e.symm), fun _ => h.put (by omega), fun e => absurd e (by omega), fun e => absurd e (by omega), fun e => absurd e (by omega), fun _ => ⟨B, R, fun e => absurd e (by omega), hL.touch tt (fun i x e e' => by have := hN i x e; omega), hN, fun _ => (hr (by omega)).of_block (tt.block b (by omega) (fun e => n3 e.symm))⟩, fun _ => h.go (.inl rfl), fun _ => World.rangeAt_setCells_same w' rb 0 x.cells (h.thr hb hbm hbw hrb n1 n2 n3 n4 n5), fun e => absurd e (by omega)⟩
omit hb hbm hbw hrb n1 n2 n3 n4 n5 in
theorem fin_ (h : GS b T nc C bm bw m f f' x rb sh hand j fb V P sH sL sG 5 s w') (hp : P s') (hs : s' 5 = .int .i64 0) : GS b T nc C bm bw m f f' x rb sh hand j fb V P sH sL sG 6 s' w' :=
  ⟨h.tch, h.mem, fun _ => hp, fun e => absurd e (by omega), fun e => absurd e (by omega), fun e => absurd e (by omega), fun e => by obtain ⟨B, R, _, hL⟩ := h.lay (by omega); exact ⟨B, R, fun e => absurd e (by omega), hL.1, hL.2.1, fun _ => hL.2.2 (by omega)⟩, fun e => absurd e (by omega), fun _ => h.sto (by omega), fun _ => hs⟩
end GS
theorem hand_any {w : World} {b : Nat} {hand : Int} (c0 : w.cell? ⟨b, 0, none⟩ = some (.int .i64 hand)) (hl : b < w.heap.size) : Calls Tryz.prog 85 #[.pointer (some ⟨b, 0, none⟩)] w fun e w' => e = .returned (.int .i64 hand) ∧ w' = w := by
  go_enter Tryz.func85, Tryz.ntmps85
  go_wp2
  go_ret
  exact ⟨rfl, rfl⟩
theorem ex_addu {ev : Operand → Value} {o : Oper} {w : World} {x y : Operand} {v z : Int} (ho : o.op = .binOp .add 38 x y 38) (hx : ev x = .int .u64 v) (hy : ev y = .int .u64 1) (hz : IntKind.u64.wrap (v + 1) = z) : (execOp ev o).run Tryz.prog w = .ok (.value (.int .u64 z)) w := by
  simp [execOp, ho, hx, hy, go_sem, hz]
end Hp
end
end Go.Proofs.YtidihnnmdmlgfaaGreat
