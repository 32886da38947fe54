/-
  Lemmas: RoomTA, RGS, RGT, RGN, RGV, RGW.
-/
import Derived.Test.YtppgbndoijppnaaGreatTp30
import Derived.Test.YtppgbndoijppnaaGreatTp27
import Derived.Test.YtppgbndoijppnaaGreatTp22
import Derived.Test.YtppgbndoijppnaaGreatTp26
namespace Go.Proofs.YtppgbndoijppnaaGreat
set_option maxHeartbeats 8000000
open Go.RowKit
set_option linter.unusedVariables false
set_option linter.unusedSimpArgs false
set_option linter.unnecessarySimpa false
set_option maxRecDepth 20000
section
namespace Rom
open Hp
def rem (sh : Shp) (s : RmS) : Int := if s.j.kind = 1 then 6 - s.st else if s.st = 0 then 6 + (sh.b - s.sl) else 7 - s.st
def Aln (sh : Shp) (k : Nat) (s : RmS) (F : Nat → Int) : Prop :=
 (k : Int) + rem sh s ≤ 12 ∧ (s.j.kind = 1 → s.st = 1 ∨ s.st = 2 → F 1 = s.g) ∧ (¬ s.j.kind = 1 → s.st = 4 ∨ s.st = 5 → F 1 = s.g)
theorem w1_load {n : Nat} {f : Nat → Int} {hand p : Int} : wordsOf n f ⟨hand, 1, p, 0, 0, true⟩ = f := by
 unfold wordsOf
 split
 ·rename_i hp
  have e2 : (stepOf n f ⟨hand, 1, p, 0, 0, true⟩).put = f p.toNat := by unfold stepOf; rw [if_pos hp]; simp [actOf, putBy]
  simp only [e2]
  exact putF_self _
 ·rfl
theorem w1_store {n : Nat} {f : Nat → Int} {hand p v : Int} (hp : p < 0 ∨ 2 ≤ p) : wordsOf n f ⟨hand, 2, p, 0, v, true⟩ 1 = f 1 := by
 unfold wordsOf
 split
 ·unfold putF
  rw [if_neg (by simp only at *; omega)]
 ·rfl
theorem had1 {n : Nat} {f : Nat → Int} {hand : Int} (hn : 2 ≤ n) : (stepOf n f ⟨hand, 1, 1, 0, 0, true⟩).had = f 1 := by
 unfold stepOf; rw [if_pos (by simp only; omega)]; rfl
theorem cas1 {n : Nat} {f : Nat → Int} {hand v : Int} (hn : 2 ≤ n) : (stepOf n f ⟨hand, 5, 1, f 1, v, true⟩).ok = true := by
 unfold stepOf; rw [if_pos (by simp only; omega)]; simp [actOf]
theorem link_far {sh : Shp} (h5 : Shape.R5 sh.a sh.b sh.c sh.d sh.e) (i : Int) : linkAt sh i < 0 ∨ 2 ≤ linkAt sh i := by
 by_cases h : there sh i
 ·have := head_bd h5 h; omega
 ·left; unfold linkAt; rw [if_neg h]; decide
theorem Aln.next {sh : Shp} (h5 : Shape.R5 sh.a sh.b sh.c sh.d sh.e) {k n : Nat} {s : RmS} {F : Nat → Int} (hn : 2 ≤ n) (H : Wf sh s) (h : Aln sh k s F) (he : ¬ rends sh s (stepOf n F (rreq sh s)) = true) :
  Aln sh (k + 1) (rnext sh s (stepOf n F (rreq sh s))) (wordsOf n F (rreq sh s)) ∧ k + 1 < 40 := by
 obtain ⟨hst, hh, hg, hgn, ht, hb, hs, hs2, hab⟩ := H
 obtain ⟨hr, hm, hgv⟩ := h
 have hb4 := h5.2.1
 obtain ⟨hand, j, st, g, xb, gn, sl, told⟩ := s
 simp only at hst ht hb hs hs2 hab hm hgv
 unfold rem at hr
 simp only at hr
 rcases hst with ⟨hk, rfl | rfl | rfl | rfl | rfl | rfl⟩ | ⟨hk, rfl | rfl | rfl | rfl | rfl | rfl | rfl⟩
 ·rw [if_pos hk] at hr
  have er : rreq sh ⟨hand, j, 0, g, xb, gn, sl, told⟩ = ⟨hand, 1, 1, 0, 0, true⟩ := by simp [rreq, hk]
  rw [er] at he ⊢
  rw [w1_load]
  have hh1 := had1 (f := F) (hand := hand) hn
  generalize stepOf n F ⟨hand, 1, 1, 0, 0, true⟩ = x at he hh1 ⊢
  have hth : there sh (idx x.had) := Classical.byContradiction fun c => he (by simp [rends, hk, c])
  have en : rnext sh ⟨hand, j, 0, g, xb, gn, sl, told⟩ x = ⟨hand, j, 1, x.had, xb, gn, sl, told⟩ := by simp [rnext, hk, hth]
  rw [en]
  exact ⟨⟨by unfold rem; simp only [hk, if_true]; omega, fun _ _ => hh1.symm, fun h => absurd hk h⟩, by omega⟩
 ·rw [if_pos hk] at hr
  have er : rreq sh ⟨hand, j, 1, g, xb, gn, sl, told⟩ = ⟨hand, 1, linkAt sh (idx g), 0, 0, true⟩ := by simp [rreq, hk]
  rw [er] at he ⊢
  rw [w1_load]
  generalize stepOf n F ⟨hand, 1, linkAt sh (idx g), 0, 0, true⟩ = x at he ⊢
  have en : rnext sh ⟨hand, j, 1, g, xb, gn, sl, told⟩ x = ⟨hand, j, 2, g, idx x.had, gn, sl, told⟩ := by simp [rnext, hk]
  rw [en]
  exact ⟨⟨by unfold rem; simp only [hk, if_true]; omega, fun _ _ => hm hk (.inl rfl), fun h => absurd hk h⟩, by omega⟩
 ·rw [if_pos hk] at hr
  have hF := hm hk (.inr rfl)
  have er : rreq sh ⟨hand, j, 2, g, xb, gn, sl, told⟩ = ⟨hand, 5, 1, g, bmp g xb, true⟩ := by simp [rreq, hk]
  rw [er]
  have ho := cas1 (f := F) (hand := hand) (v := bmp g xb) hn
  rw [hF] at ho
  generalize stepOf n F ⟨hand, 5, 1, g, bmp g xb, true⟩ = x at ho ⊢
  have en : rnext sh ⟨hand, j, 2, g, xb, gn, sl, told⟩ x = ⟨hand, j, 3, g, xb, gn, sl, told⟩ := by simp [rnext, hk, ho]
  rw [en]
  exact ⟨⟨by unfold rem; simp only [hk, if_true]; omega, fun _ h => (by simp at h), fun h => absurd hk h⟩, by omega⟩
 ·rw [if_pos hk] at hr
  have en : ∀ x, rnext sh ⟨hand, j, 3, g, xb, gn, sl, told⟩ x = ⟨hand, j, 4, g, xb, x.had / 4294967296, sl, told⟩ := fun x => by simp [rnext, hk]
  rw [en]
  exact ⟨⟨by unfold rem; simp only [hk, if_true]; omega, fun _ h => (by simp at h), fun h => absurd hk h⟩, by omega⟩
 ·rw [if_pos hk] at hr
  have en : ∀ x, rnext sh ⟨hand, j, 4, g, xb, gn, sl, told⟩ x = ⟨hand, j, 5, g, xb, gn, sl, told⟩ := fun x => by simp [rnext, hk]
  rw [en]
  exact ⟨⟨by unfold rem; simp only [hk, if_true]; omega, fun _ h => (by simp at h), fun h => absurd hk h⟩, by omega⟩
 ·exact absurd (by simp [rends, hk]) he
 ·have h2 := hs hk rfl
  have h3 := h2.2
  rw [if_neg hk, if_pos rfl] at hr
  by_cases hmore : slotIn sh j.a (sl + 1)
  ·have h4 := hmore.2
   have en : ∀ x, rnext sh ⟨hand, j, 0, g, xb, gn, sl, told⟩ x = ⟨hand, j, 0, g, xb, gn, sl + 1, told⟩ := fun x => by simp [rnext, hk, hmore]
   rw [en]
   exact ⟨⟨by unfold rem; simp only [hk, if_false, if_true]; omega, fun h => absurd h hk, fun _ h => (by simp at h)⟩, by omega⟩
  ·have en : ∀ x, rnext sh ⟨hand, j, 0, g, xb, gn, sl, told⟩ x = ⟨hand, j, 1, g, xb, gn, sl + 1, told⟩ := fun x => by simp [rnext, hk, hmore]
   rw [en]
   exact ⟨⟨by unfold rem; simp [hk]; omega, fun h => absurd h hk, fun _ h => (by simp at h)⟩, by omega⟩
 ·rw [if_neg hk, if_neg (by decide)] at hr
  have en : ∀ x, rnext sh ⟨hand, j, 1, g, xb, gn, sl, told⟩ x = ⟨hand, j, 2, g, xb, x.had / 4294967296, sl, told⟩ := fun x => by simp [rnext, hk]
  rw [en]
  exact ⟨⟨by unfold rem; simp [hk]; omega, fun h => absurd h hk, fun _ h => (by simp at h)⟩, by omega⟩
 ·rw [if_neg hk, if_neg (by decide)] at hr
  by_cases hx : gn = 4294967295
  ·have en : ∀ x, rnext sh ⟨hand, j, 2, g, xb, gn, sl, told⟩ x = ⟨hand, j, 6, g, xb, gn, sl, told⟩ := fun x => by simp [rnext, hk, hx]
   rw [en]
   exact ⟨⟨by unfold rem; simp [hk]; omega, fun h => absurd h hk, fun _ h => (by simp at h)⟩, by omega⟩
  ·have en : ∀ x, rnext sh ⟨hand, j, 2, g, xb, gn, sl, told⟩ x = ⟨hand, j, 3, g, xb, gn, sl, told⟩ := fun x => by simp [rnext, hk, hx]
   rw [en]
   exact ⟨⟨by unfold rem; simp [hk]; omega, fun h => absurd h hk, fun _ h => (by simp at h)⟩, by omega⟩
 ·rw [if_neg hk, if_neg (by decide)] at hr
  have er : rreq sh ⟨hand, j, 3, g, xb, gn, sl, told⟩ = ⟨hand, 1, 1, 0, 0, true⟩ := by simp [rreq, hk]
  rw [er]
  rw [w1_load]
  have hh1 := had1 (f := F) (hand := hand) hn
  generalize stepOf n F ⟨hand, 1, 1, 0, 0, true⟩ = x at hh1 ⊢
  have en : rnext sh ⟨hand, j, 3, g, xb, gn, sl, told⟩ x = ⟨hand, j, 4, x.had, xb, gn, sl, told⟩ := by simp [rnext, hk]
  rw [en]
  exact ⟨⟨by unfold rem; simp [hk]; omega, fun h => absurd h hk, fun _ _ => hh1.symm⟩, by omega⟩
 ·rw [if_neg hk, if_neg (by decide)] at hr
  have er : rreq sh ⟨hand, j, 4, g, xb, gn, sl, told⟩ = ⟨hand, 2, linkAt sh j.a, 0, idx g, true⟩ := by simp [rreq, hk]
  rw [er]
  have e1 := w1_store (n := n) (f := F) (hand := hand) (v := idx g) (link_far h5 j.a)
  generalize wordsOf n F ⟨hand, 2, linkAt sh j.a, 0, idx g, true⟩ = F' at e1 ⊢
  have en : ∀ x, rnext sh ⟨hand, j, 4, g, xb, gn, sl, told⟩ x = ⟨hand, j, 5, g, xb, gn, sl, told⟩ := fun x => by simp [rnext, hk]
  rw [en]
  exact ⟨⟨by unfold rem; simp [hk]; omega, fun h => absurd h hk, fun _ _ => e1.trans (hgv hk (.inl rfl))⟩, by omega⟩
 ·rw [if_neg hk, if_neg (by decide)] at hr
  have hF := hgv hk (.inr rfl)
  have er : rreq sh ⟨hand, j, 5, g, xb, gn, sl, told⟩ = ⟨hand, 5, 1, g, bmp g j.a, true⟩ := by simp [rreq, hk]
  rw [er]
  have ho := cas1 (f := F) (hand := hand) (v := bmp g j.a) hn
  rw [hF] at ho
  generalize stepOf n F ⟨hand, 5, 1, g, bmp g j.a, true⟩ = x at ho ⊢
  have en : rnext sh ⟨hand, j, 5, g, xb, gn, sl, told⟩ x = ⟨hand, j, 6, g, xb, gn, sl, told⟩ := by simp [rnext, hk, ho]
  rw [en]
  exact ⟨⟨by unfold rem; simp [hk]; omega, fun h => absurd h hk, fun _ h => (by simp at h)⟩, by omega⟩
 ·exact absurd (by simp [rends, hk]) he
theorem Aln.init {sh : Shp} (h5 : Shape.R5 sh.a sh.b sh.c sh.d sh.e) (hand : Int) (j : Jb) (F : Nat → Int) : Aln sh 0 (rinit sh hand j) F := by
 have hb := h5.2.1
 unfold Aln rem rinit
 by_cases hk : j.kind = 1
 ·simp [hk]
 ·simp only [hk, if_false]
  by_cases hs : slotIn sh j.a 0
  ·simp only [hs, if_true]
   refine ⟨by simp; omega, fun h => absurd h (by simpa using hk), fun _ h => by simp at h⟩
  ·simp only [hs, if_false]
   refine ⟨by simp, fun h => absurd h (by simpa using hk), fun _ h => by simp at h⟩
end Rom
end
section
namespace RG
structure SG (I : Bool → World → Prop) (X : Stp) (w0 : World) (c al st : Bool) (v : Value) (w : World) : Prop where
 inv : I c w
 siz : w0.heap.size ≤ w.heap.size
 own : al = true → ∃ q, v = .pointer (some ⟨q, 0, none⟩) ∧ w0.heap.size ≤ q ∧ q < w.heap.size ∧ (st = false → w.rowIs q 69 6 zcell) ∧ (st = true → w.rangeAt q 0 X.cells)
 dep : st = true → c = true ∧ al = true
section
variable {I : Bool → World → Prop} {X : Stp} {w0 w w' : World} {c al st : Bool} {v : Value}
theorem SG.put (hI : ∀ c w w', Below w0.heap.size w w' → w0.heap.size ≤ w.heap.size → I c w → I c w') (h : SG I X w0 c al st v w) (hc : c = true) (ha : al = true) (hst : st = false) :
  ∃ q, v = .pointer (some ⟨q, 0, none⟩) ∧ w.there q 0 X.cells.length ∧ SG I X w0 c al true v (w.setCells q 0 X.cells) := by
 obtain ⟨q, e, hq, hq2, hrow, _⟩ := h.own ha
 have ht : w.there q 0 X.cells.length := rowIs.there (hrow hst) (by simp [Stp.cells])
 have tt := touch_setCells q X.cells 0 w
 have hs := h.siz
 exact ⟨q, e, ht, hI _ _ _ ⟨tt.os, tt.tape, tt.output, tt.size, fun k hk => tt.block k (by omega) (by omega)⟩ h.siz h.inv, Nat.le_trans h.siz tt.size, fun _ => ⟨q, e, hq, Nat.lt_of_lt_of_le hq2 tt.size, fun h => (by cases h), fun _ => World.rangeAt_setCells_same w q 0 X.cells ht⟩, fun _ => ⟨hc, ha⟩⟩
theorem SG.skip {L : Nat → Bool} {i kc ia is : Nat} (h1 : kc ≠ i) (h2 : ia ≠ i) (h3 : is ≠ i) (h : SG I X w0 (L kc) (L ia) (L is) v w) : SG I X w0 (upd L i true kc) (upd L i true ia) (upd L i true is) v w := by
 rwa [upd_other _ _ h1, upd_other _ _ h2, upd_other _ _ h3]
end
structure SM (I : Bool → World → Prop) (C E : Nat) (lt : List Value) (X : Stp) (c sc se : Bool) (w : World) : Prop where
 inv : I c w
 tC : w.there C 0 lt.length
 tE : w.there E 0 X.cells.length
 stoC : sc = true → w.rangeAt C 0 lt
 stoE : se = true → w.rangeAt E 0 X.cells
 dep : se = true → c = true
section
variable {I : Bool → World → Prop} {C E : Nat} {lt : List Value} {X : Stp} {w0 w w' : World} {c sc se : Bool}
theorem SM.skip {L : Nat → Bool} {i kc iC iE : Nat} (h1 : kc ≠ i) (h2 : iC ≠ i) (h3 : iE ≠ i) (h : SM I C E lt X (L kc) (L iC) (L iE) w) : SM I C E lt X (upd L i true kc) (upd L i true iC) (upd L i true iE) w := by
 rwa [upd_other _ _ h1, upd_other _ _ h2, upd_other _ _ h3]
theorem SM.putC (hI : ∀ c w w', Touch w w' (fun k => k = C ∨ k = E) → I c w → I c w') (hne : C ≠ E) (h : SM I C E lt X c sc se w) : w.there C 0 lt.length ∧ SM I C E lt X c true se (w.setCells C 0 lt) := by
 have tt := touch_setCells C lt 0 w
 exact ⟨h.tC, hI _ _ _ (tt.mono (fun k _ h => .inl h)) h.inv, World.there_setCells h.tC _ _ _, World.there_setCells h.tE _ _ _, fun _ => World.rangeAt_setCells_same w C 0 lt h.tC, fun h1 => World.rangeAt_setCells_apart (h.stoE h1) _ _ _ (.inl (Ne.symm hne)), h.dep⟩
theorem SM.putE (hI : ∀ c w w', Touch w w' (fun k => k = C ∨ k = E) → I c w → I c w') (hne : C ≠ E) (h : SM I C E lt X c sc se w) (hc : c = true) : w.there E 0 X.cells.length ∧ SM I C E lt X c sc true (w.setCells E 0 X.cells) := by
 have tt := touch_setCells E X.cells 0 w
 exact ⟨h.tE, hI _ _ _ (tt.mono (fun k _ h => .inr h)) h.inv, World.there_setCells h.tC _ _ _, World.there_setCells h.tE _ _ _, fun h1 => World.rangeAt_setCells_apart (h.stoC h1) _ _ _ (.inl hne), fun _ => World.rangeAt_setCells_same w E 0 X.cells h.tE, fun _ => hc⟩
end
end RG
section
variable {ev : Operand → Value} {o : Oper} {w : World}
theorem ex_fieldo {x : Operand} {b k q q' : Nat} {ty : TypeId} (ho : o.op = .fieldAddr ty x k) (hx : ev x = .pointer (some ⟨b, q', none⟩)) (hf : (Instr.fieldAt ty (.pointer (some ⟨b, q', none⟩)) k).run Tryz.prog w = .ok (.pointer (some ⟨b, q, none⟩)) w) : (execOp ev o).run Tryz.prog w = .ok (.value (.pointer (some ⟨b, q, none⟩))) w := by
 simp [execOp, ho, hx, hf]
theorem ex_r0 {x y : Operand} {b : Nat} (ho : o.op = .indexAddr 53 x y) (hx : ev x = .pointer (some ⟨b, 13, none⟩)) (hy : ev y = .int .i64 0) : (execOp ev o).run Tryz.prog w = .ok (.value (.pointer (some ⟨b, 13, none⟩))) w := by
 simp [execOp, ho, hx, hy, go_sem]
theorem ex_r1 {x y : Operand} {b : Nat} (ho : o.op = .indexAddr 53 x y) (hx : ev x = .pointer (some ⟨b, 13, none⟩)) (hy : ev y = .int .i64 1) : (execOp ev o).run Tryz.prog w = .ok (.value (.pointer (some ⟨b, 14, none⟩))) w := by
 simp [execOp, ho, hx, hy, go_sem]
theorem ex_r2 {x y : Operand} {b : Nat} (ho : o.op = .indexAddr 53 x y) (hx : ev x = .pointer (some ⟨b, 13, none⟩)) (hy : ev y = .int .i64 2) : (execOp ev o).run Tryz.prog w = .ok (.value (.pointer (some ⟨b, 15, none⟩))) w := by
 simp [execOp, ho, hx, hy, go_sem]
theorem agg_i (w : World) : (isAgg 3).run Tryz.prog w = .ok false w := by simp [go_sem]
theorem agg_u64 (w : World) : (isAgg 50).run Tryz.prog w = .ok false w := by simp [go_sem]
end
end
section
structure RT (w0 : World) (g n cap : Nat) (l : List Value) (f : Nat → Int) (w : World) : Prop where
 tk : w.rowIs w0.heap.size 59 28 (lrow l)
 rt : w.rowIs (w0.heap.size + 1) 59 28 (lrow tk0)
 rs : w.rowIs (w0.heap.size + 2) 69 6 zcell
 row : IsRow w g n cap f
 gro : w0.grownBy w (some g)
 lg : g < w0.heap.size
 len : l.length = 28
namespace RT
variable {w0 w w' : World} {g n cap : Nat} {l : List Value} {f f' : Nat → Int}
theorem size (h : RT w0 g n cap l f w) : w0.heap.size + 3 ≤ w.heap.size := by have := h.rs.lt; omega
theorem belowB {B : Nat} (h : RT w0 g n cap l f w) (hB : w0.heap.size + 3 ≤ B) (hb : Below B w w') (hs : B ≤ w.heap.size) : RT w0 g n cap l f w' := by
 have := h.lg
 have sz := h.size
 refine ⟨h.tk.of_block (hb.block _ (by omega)), h.rt.of_block (hb.block _ (by omega)), h.rs.of_block (hb.block _ (by omega)), h.row.block (hb.block _ (by omega)), ?_, h.lg, h.len⟩
 exact ⟨hb.os.trans h.gro.os, hb.tape.trans h.gro.tape, hb.output.trans h.gro.output, Nat.le_trans h.gro.size hb.size, fun k hk hn => (hb.block k (by omega)).trans (h.gro.block k hk hn)⟩
theorem below (h : RT w0 g n cap l f w) (hb : Below w.heap.size w w') : RT w0 g n cap l f w' := h.belowB h.size hb (Nat.le_refl _)
theorem act (h : RT w0 g n cap l f w) (hr : IsRow w' g n cap f') (hg : w.grownBy w' (some g)) : RT w0 g n cap l f' w' := by
 have := h.lg
 have sz := h.size
 exact ⟨h.tk.of_block (hg.block _ (by omega) (by simp; omega)), h.rt.of_block (hg.block _ (by omega) (by simp; omega)), h.rs.of_block (hg.block _ (by omega) (by simp; omega)), hr, grown_trans h.gro hg, h.lg, h.len⟩
theorem cell (h : RT w0 g n cap l f w) {i : Nat} {v : Value} (hv : l[i]? = some v) : w.cell? ⟨w0.heap.size, i, none⟩ = some v := by
 have hi := (List.getElem?_eq_some_iff.1 hv).1
 rw [h.tk.cell (i := i) (by have := h.len; omega), lrow_of hv]
theorem part (h : RT w0 g n cap l f w) {vs : List Value} (hv : ∀ (j : Nat) (v : Value), vs[j]? = some v → l[j]? = some v) : w.rangeAt w0.heap.size 0 vs := fun j v hj => by
 rw [Nat.zero_add]; exact h.cell (hv j v hj)
theorem frozen (h : RT w0 g n cap l f w) (i : Nat) : w.frozen? ⟨w0.heap.size, i, none⟩ = false := h.tk.frozen i
theorem set (h : RT w0 g n cap l f w) (i : Nat) (hi : i < 28) (v : Value) : RT w0 g n cap (l.set i v) f (w.setCell ⟨w0.heap.size, i, none⟩ v) := by
 have hl := h.lg
 refine ⟨rowIs.setL h.tk (by have := h.len; omega) v, h.rt.setOther (by simp) v, h.rs.setOther (by simp) v, h.row.setOther (by simp; omega) v, grown_setCell h.gro _ (.inr (Nat.le_refl _)) v, h.lg, by simp [h.len]⟩
theorem alloc (h : RT w0 g n cap l f w) (o : Obj) : RT w0 g n cap l f (w.alloc o) := h.below ((Below.refl _ w).alloc (Nat.le_refl _) o)
theorem start (hr : IsRow w0 g n cap f) (hl : l.length = 28) : RT w0 g n cap l f (((w0.alloc (.cells l.toArray 59)).alloc (.cells tk0.toArray 59)).alloc (.cells [Value.int .i64 0, .int .i64 0, .int .i64 0, .int .u64 0, .int .u64 0, .bool false].toArray 69)) := by
 refine ⟨((rowL_alloc w0 l _ hl).alloc _).alloc _, ?_, ?_, ((hr.alloc _).alloc _).alloc _, grown_alloc (grown_alloc (grown_alloc (grown_refl _ _) _) _) _, hr.lt, hl⟩
 ·have := (rowL_alloc (w0.alloc (.cells l.toArray 59)) tk0 59 (n := 28) rfl).alloc (.cells [Value.int .i64 0, .int .i64 0, .int .i64 0, .int .u64 0, .int .u64 0, .bool false].toArray 69)
  rwa [World.size_alloc] at this
 ·have := row0 ((w0.alloc (.cells l.toArray 59)).alloc (.cells tk0.toArray 59))
  rwa [World.size_alloc, World.size_alloc] at this
end RT
structure RD (w0 : World) (g n cap : Nat) (l : List Value) (f : Nat → Int) (q : Option Nat) (X : Stp) (w : World) : Prop where
 tk : w.rowIs w0.heap.size 59 28 (lrow l)
 row : IsRow w g n cap f
 gro : w0.grownBy w (some g)
 lg : g < w0.heap.size
 len : l.length = 28
 sz : w0.heap.size + 3 ≤ w.heap.size
 var : ∀ k, q = some k → w.rangeAt k 0 X.cells ∧ w0.heap.size + 3 ≤ k ∧ k < w.heap.size
namespace RD
variable {w0 w w' : World} {g n cap : Nat} {l : List Value} {f f' : Nat → Int} {q : Option Nat} {X : Stp}
theorem of (h : RT w0 g n cap l f w) (hq : ∀ k, q = some k → w.rangeAt k 0 X.cells ∧ w0.heap.size + 3 ≤ k ∧ k < w.heap.size) : RD w0 g n cap l f q X w := ⟨h.tk, h.row, h.gro, h.lg, h.len, h.size, hq⟩
theorem drew (h : RD w0 g n cap l f q X w) : RD w0 g n cap l f q X { w with drawn := w.drawn + 1 } :=
 ⟨h.tk.drew, h.row.block rfl, grown_drew h.gro, h.lg, h.len, h.sz, fun k e => ⟨rangeAt_block (h.var k e).1 rfl, (h.var k e).2⟩⟩
theorem touch (h : RD w0 g n cap l f q X w) (ht : Touch w w' (fun k => k = w0.heap.size + 1 ∨ k = w0.heap.size + 2)) : RD w0 g n cap l f q X w' := by
 have := h.lg
 have sz := h.sz
 refine ⟨h.tk.of_block (ht.block _ (by omega) (by omega)), h.row.block (ht.block _ (by omega) (by omega)), ?_, h.lg, h.len, Nat.le_trans h.sz ht.size, fun k e => ?_⟩
 ·exact ⟨ht.os.trans h.gro.os, ht.tape.trans h.gro.tape, ht.output.trans h.gro.output, Nat.le_trans h.gro.size ht.size, fun k hk hn => (ht.block k (by omega) (by omega)).trans (h.gro.block k hk hn)⟩
 ·obtain ⟨a1, a2, a3⟩ := h.var k e
  exact ⟨rangeAt_block a1 (ht.block k a3 (by omega)), a2, Nat.lt_of_lt_of_le a3 ht.size⟩
theorem below (h : RD w0 g n cap l f q X w) (hb : Below w.heap.size w w') : RD w0 g n cap l f q X w' :=
 h.touch ⟨hb.os, hb.tape, hb.output, hb.size, fun k hk _ => hb.block k hk⟩
theorem cell (h : RD w0 g n cap l f q X w) {i : Nat} {v : Value} (hv : l[i]? = some v) : w.cell? ⟨w0.heap.size, i, none⟩ = some v := by
 have hi := (List.getElem?_eq_some_iff.1 hv).1
 rw [h.tk.cell (i := i) (by have := h.len; omega), lrow_of hv]
theorem range (h : RD w0 g n cap l f q X w) : w.rangeAt w0.heap.size 0 l := rowIs.range h.tk h.len
end RD
namespace RG
section
variable {I : Bool → World → Prop} {X : Stp} {w0 w w' : World} {c al st : Bool} {v : Value}
end
section
variable {I : Bool → World → Prop} {C E : Nat} {lt : List Value} {X : Stp} {w0 w w' : World} {c sc se : Bool}
theorem SM.begin (h : I c w) (hC : w.there C 0 lt.length) (hE : w.there E 0 X.cells.length) : SM I C E lt X c false false w :=
 ⟨h, hC, hE, fun h => (by cases h), fun h => (by cases h), fun h => (by cases h)⟩
theorem SM.skip2 {L : Nat → Bool} {i iC iE : Nat} (h2 : iC ≠ i) (h3 : iE ≠ i) (h : SM I C E lt X c (L iC) (L iE) w) : SM I C E lt X c (upd L i true iC) (upd L i true iE) w := by
 rwa [upd_other _ _ h2, upd_other _ _ h3]
end
end RG
end
section
namespace RG
structure SN (I : Bool → World → Prop) (B E : Nat) (X : Stp) (c se : Bool) (w : World) : Prop where
 inv : I c w
 le : B ≤ w.heap.size
 thr : w.there E 0 X.cells.length
 sto : se = true → w.rangeAt E 0 X.cells
 dep : se = true → c = true
section
variable {I : Bool → World → Prop} {B E : Nat} {X : Stp} {c se : Bool} {w w' : World}
theorem SN.start (h : I false w) (hB : B ≤ w.heap.size) (hE : w.there E 0 X.cells.length) : SN I B E X false false w :=
 ⟨h, hB, hE, fun h => (by cases h), fun h => (by cases h)⟩
theorem SN.skip {L : Nat → Bool} {i kc is : Nat} (h1 : kc ≠ i) (h2 : is ≠ i) (h : SN I B E X (L kc) (L is) w) : SN I B E X (upd L i true kc) (upd L i true is) w := by
 rwa [upd_other _ _ h1, upd_other _ _ h2]
theorem SN.grow (hI : ∀ c w w', Below B w w' → B ≤ w.heap.size → I c w → I c w') (hE : E < B) (h : SN I B E X c se w) (hb : Below B w w') : SN I B E X c se w' :=
 ⟨hI c w w' hb h.le h.inv, Nat.le_trans h.le hb.size, there_block h.thr (hb.block E hE), fun hs => rangeAt_block (h.sto hs) (hb.block E hE), h.dep⟩
theorem SN.calls {fd : FuncId} {args : Array Value} {kc is : Nat} (hc : ∀ w, I false w → B ≤ w.heap.size → Calls Tryz.prog fd args w fun e w' => e = .returned X.val ∧ I true w' ∧ w'.heap[E]? = w.heap[E]? ∧ B ≤ w'.heap.size) (n2 : is ≠ kc) :
  ∀ (L : Nat → Bool) (v : Value) w, SN I B E X (L kc) (L is) w → L kc = false → Calls Tryz.prog fd args w fun e w' => e = .returned X.val ∧ SN I B E X (upd L kc true kc) (upd L kc true is) w' := by
 intro L v w h hL
 have hi := h.inv
 rw [hL] at hi
 refine (hc w hi h.le).mono ?_
 rintro e w' ⟨rfl, h1, h2, h3⟩
 rw [upd_same, upd_other _ _ n2]
 have hs : L is = false := by
  cases hs : L is with
  | false => rfl
  | true => have := h.dep hs; rw [hL] at this; cases this
 rw [hs]
 exact ⟨rfl, h1, h3, there_block h.thr h2, fun h => (by cases h), fun h => (by cases h)⟩
theorem SN.put (hI : ∀ c w w', Touch w w' (fun k => k = E) → I c w → I c w') (h : SN I B E X c se w) (hc : c = true) : w.there E 0 X.cells.length ∧ SN I B E X c true (w.setCells E 0 X.cells) := by
 have tt := touch_setCells E X.cells 0 w
 exact ⟨h.thr, hI c w _ tt h.inv, Nat.le_trans h.le tt.size, World.there_setCells h.thr _ _ _, fun _ => World.rangeAt_setCells_same w E 0 X.cells h.thr, fun _ => hc⟩
end
end RG
end
section
def zst : List Value := [.int .i64 0, .int .i64 0, .int .i64 0, .int .u64 0, .int .u64 0, .bool false]
structure RV (w0 : World) (g n cap : Nat) (l : List Value) (f : Nat → Int) (S : List Value) (w : World) : Prop where
 rt : RT w0 g n cap l f w
 sv : w.rowIs (w0.heap.size + 3) 69 6 (lrow S)
 len : S.length = 6
namespace RV
variable {w0 w w' : World} {g n cap : Nat} {l S : List Value} {f f' : Nat → Int}
theorem size (h : RV w0 g n cap l f S w) : w0.heap.size + 4 ≤ w.heap.size := by have := h.sv.lt; omega
theorem belowB {B : Nat} (h : RV w0 g n cap l f S w) (hB : w0.heap.size + 4 ≤ B) (hb : Below B w w') (hs : B ≤ w.heap.size) : RV w0 g n cap l f S w' :=
 ⟨h.rt.belowB (by omega) hb hs, h.sv.of_block (hb.block _ (by omega)), h.len⟩
theorem below (h : RV w0 g n cap l f S w) (hb : Below w.heap.size w w') : RV w0 g n cap l f S w' := h.belowB h.size hb (Nat.le_refl _)
theorem act (h : RV w0 g n cap l f S w) (hr : IsRow w' g n cap f') (hg : w.grownBy w' (some g)) : RV w0 g n cap l f' S w' := by
 have := h.rt.lg
 have sz := h.size
 exact ⟨h.rt.act hr hg, h.sv.of_block (hg.block _ (by omega) (by simp; omega)), h.len⟩
theorem cell (h : RV w0 g n cap l f S w) {i : Nat} {v : Value} (hv : l[i]? = some v) : w.cell? ⟨w0.heap.size, i, none⟩ = some v := h.rt.cell hv
theorem set (h : RV w0 g n cap l f S w) (i : Nat) (hi : i < 28) (v : Value) : RV w0 g n cap (l.set i v) f S (w.setCell ⟨w0.heap.size, i, none⟩ v) :=
 ⟨h.rt.set i hi v, h.sv.setOther (by simp) v, h.len⟩
theorem sset (h : RV w0 g n cap l f S w) (i : Nat) (hi : i < 6) (v : Value) : RV w0 g n cap l f (S.set i v) (w.setCell ⟨w0.heap.size + 3, i, none⟩ v) := by
 have hl := h.rt.lg
 have h0 := h.rt
 refine ⟨⟨h0.tk.setOther (by simp) v, h0.rt.setOther (by simp) v, h0.rs.setOther (by simp) v, h0.row.setOther (by simp; omega) v, grown_setCell h0.gro _ (.inr (by simp)) v, h0.lg, h0.len⟩, rowIs.setL h.sv (by have := h.len; omega) v, by simp [h.len]⟩
theorem scell (h : RV w0 g n cap l f S w) {i : Nat} {v : Value} (hv : S[i]? = some v) : w.cell? ⟨w0.heap.size + 3, i, none⟩ = some v := by
 have hi := (List.getElem?_eq_some_iff.1 hv).1
 rw [h.sv.cell (i := i) (by have := h.len; omega), lrow_of hv]
theorem range (h : RV w0 g n cap l f S w) : w.rangeAt (w0.heap.size + 3) 0 S := rowIs.range h.sv h.len
theorem start (hr : IsRow w0 g n cap f) (hl : l.length = 28) : RV w0 g n cap l f zst ((((w0.alloc (.cells l.toArray 59)).alloc (.cells tk0.toArray 59)).alloc (.cells [Value.int .i64 0, .int .i64 0, .int .i64 0, .int .u64 0, .int .u64 0, .bool false].toArray 69)).alloc (.cells [Value.int .i64 0, .int .i64 0, .int .i64 0, .int .u64 0, .int .u64 0, .bool false].toArray 69)) := by
 refine ⟨(RT.start hr hl).alloc _, ?_, rfl⟩
 have := rowL_alloc (((w0.alloc (.cells l.toArray 59)).alloc (.cells tk0.toArray 59)).alloc (.cells [Value.int .i64 0, .int .i64 0, .int .i64 0, .int .u64 0, .int .u64 0, .bool false].toArray 69)) zst 69 (n := 6) rfl
 rwa [World.size_alloc, World.size_alloc, World.size_alloc] at this
theorem put6 (h : RV w0 g n cap l f S w) (x : Stp) : RV w0 g n cap l f x.cells ((((((w.setCell ⟨w0.heap.size + 3, 0, none⟩ (.int .i64 x.hand)).setCell ⟨w0.heap.size + 3, 1, none⟩ (.int .i64 x.act)).setCell ⟨w0.heap.size + 3, 2, none⟩ (.int .i64 x.at_)).setCell ⟨w0.heap.size + 3, 3, none⟩ (.int .u64 x.had)).setCell ⟨w0.heap.size + 3, 4, none⟩ (.int .u64 x.put)).setCell ⟨w0.heap.size + 3, 5, none⟩ (.bool x.ok)) := by
 have := (((((h.sset 0 (by omega) (.int .i64 x.hand)).sset 1 (by omega) (.int .i64 x.act)).sset 2 (by omega) (.int .i64 x.at_)).sset 3 (by omega) (.int .u64 x.had)).sset 4 (by omega) (.int .u64 x.put)).sset 5 (by omega) (.bool x.ok)
 have e : (((((S.set 0 (Value.int .i64 x.hand)).set 1 (.int .i64 x.act)).set 2 (.int .i64 x.at_)).set 3 (.int .u64 x.had)).set 4 (.int .u64 x.put)).set 5 (.bool x.ok) = x.cells := by
  have hl := h.len
  match S, hl with
  | [_, _, _, _, _, _], _ => rfl
 rw [e] at this
 exact this
end RV
theorem RT.touchE {w0 w w' : World} {g n cap E : Nat} {l : List Value} {f : Nat → Int} (h : RT w0 g n cap l f w) (hE : w0.heap.size + 3 ≤ E) (ht : Touch w w' (fun k => k = E)) : RT w0 g n cap l f w' := by
 have := h.lg
 have sz := h.size
 refine ⟨h.tk.of_block (ht.block _ (by omega) (by omega)), h.rt.of_block (ht.block _ (by omega) (by omega)), h.rs.of_block (ht.block _ (by omega) (by omega)), h.row.block (ht.block _ (by omega) (by omega)), ?_, h.lg, h.len⟩
 exact ⟨ht.os.trans h.gro.os, ht.tape.trans h.gro.tape, ht.output.trans h.gro.output, Nat.le_trans h.gro.size ht.size, fun k hk hn => (ht.block k (by omega) (by omega)).trans (h.gro.block k hk hn)⟩
end
section
namespace RG
theorem rN {P : Program} {Q : Exit → Act → World → Prop} {ks : List (Nat × Nat)} {vals : Nat → Value} {x : Nat} {a0 : Act} {i : Nat} {o : Oper} {I : Bool → World → Prop} {B E : Nat} {X : Stp} {kc is : Nat} (hd : o.dst = Reg.look ks i) (hn : (kc == i || is == i) = false) (h : ∀ L a w, In ks vals x (fun L v w' => SN I B E X (L kc) (L is) w') a0 L a w → (∀ e ∈ o.after, Region.binds .any e = true → L e.on = true) → (execOp a.eval o).run P w = .ok (.value (vals i)) w) : Does P Q ks vals x (fun L v w' => SN I B E X (L kc) (L is) w') a0 i o :=
 Does.read hd (fun L v w h => by simp only [Bool.or_eq_false_iff, beq_eq_false_iff_ne] at hn; exact SN.skip hn.1 hn.2 h) h
end RG
theorem ret5 {id : Nat} {Q : Exit → Act → World → Prop} {a0 : Act} {w V : World} {g n cap : Nat} {lt : List Value} {f' : Nat → Int} {x : Stp} {o0 o1 o2 o3 o4 : Oper} {d0 d1 : Nat} {en : Bool}
  (RTV : RT w g n cap lt f' V) (SV : V.rangeAt (w.heap.size + 3) 0 x.cells) (lqV : w.heap.size + 3 < V.heap.size) (HTK : IsTk lt)
  (hm : Tryz.prog.follows .mixedOrders = true) (hk : RG.okB 5 #[o0, o1, o2, o3, o4] = true)
  (e2 : a0.eval (.tmp 2) = .pointer (some ⟨w.heap.size, 0, none⟩)) (e4 : a0.eval (.tmp 4) = .pointer (some ⟨w.heap.size + 1, 0, none⟩)) (e5 : a0.eval (.tmp 5) = .pointer (some ⟨w.heap.size + 2, 0, none⟩)) (e7 : a0.eval (.tmp 7) = .pointer (some ⟨w.heap.size + 3, 0, none⟩))
  (p0 : o0.op = .load 59 (.tmp 2)) (p1 : o1.op = .load 69 (.tmp 7)) (p2 : o2.op = .store 59 (.tmp 4) (.tmp d0)) (p3 : o3.op = .store 69 (.tmp 5) (.tmp d1)) (p4 : o4.op = .assign (.const (.bool en)))
  (q0 : o0.dst = some d0) (q1 : o1.dst = some d1) (q2 : o2.dst = none) (q3 : o3.dst = none) (q4 : o4.dst = some 6)
  (m2 : ⟨0, .data⟩ ∈ o2.after) (m3 : ⟨1, .data⟩ ∈ o3.after) (hd : 8 ≤ d0 ∧ d0 < d1) (hs : d1 < a0.tmps.size)
  (fin : ∀ a w', a.eval (.tmp 4) = .pointer (some ⟨w.heap.size + 1, 0, none⟩) → a.eval (.tmp 5) = .pointer (some ⟨w.heap.size + 2, 0, none⟩) → a.eval (.tmp 6) = .bool en → a.defers = a0.defers → w'.rangeAt (w.heap.size + 1) 0 lt → w'.rangeAt (w.heap.size + 2) 0 x.cells → IsRow w' g n cap f' → w.grownBy w' (some g) → Q .normal a w') :
  (Code.region id #[o0, o1, o2, o3, o4] true).wp Tryz.prog Q a0 V := by
 obtain ⟨dT, hdT1, hdT2⟩ := row79
 obtain ⟨dS, hdS1, hdS2⟩ := row46
 have hlt : lt.length = 28 := HTK.1
 have n1 : d0 ≠ d1 := by omega
 have nD : ∀ k, k < 8 → k ≠ 6 → ¬ RetN.D [(0, d0), (1, d1), (4, 6)] k := fun k hk h6 => by simp [RetN.D]; omega
 refine RG.regionB (ks := [(0, d0), (1, d1), (4, 6)]) (vals := fun i => match i with
   | 0 => .agg lt.toArray
   | 1 => x.val
   | 4 => .bool en
   | _ => undef) (x := 3) (WI := fun L v_ w' => RG.SM (fun _ w' => RD w g n cap lt f' (some (w.heap.size + 3)) x w') (w.heap.size + 1) (w.heap.size + 2) lt x true (L 2) (L 3) w') 5 hm hk (by simp; omega) (by simp; omega) (by simp; omega) (RG.SM.begin (c := true) (RD.drew (RD.of RTV (fun k e => by cases e; exact ⟨SV, Nat.le_refl _, lqV⟩))) (by rw [hlt]; exact rowIs.there RTV.rt.drew (by omega)) (rowIs.there RTV.rs.drew (by simp [Stp.cells]))) ?does ?fin
 case does =>
  intro i o ho
  have hi : i < 5 := RG.lt_of ho rfl
  match i, hi with
  | 0, _ => cases ho; exact RG.Does.read q0 (fun L v_ w' h => RG.SM.skip2 (by decide) (by decide) h) (fun L a w' hI hd => ex_load_row p0 ((hI.fix 2 (nD 2 (by omega) (by omega)) (by decide)).trans e2) hI.world.inv.range hdT1 hdT2 (by rw [hlt]; exact size79))
  | 1, _ => cases ho; exact RG.Does.read q1 (fun L v_ w' h => RG.SM.skip2 (by decide) (by decide) h) (fun L a w' hI hd => ex_load_row p1 ((hI.fix 7 (nD 7 (by omega) (by omega)) (by decide)).trans e7) (hI.world.inv.var _ rfl).1 hdS1 hdS2 size46)
  | 2, _ => cases ho; exact RG.Does.put (ls := lt) q2 rfl p2 (by rw [hlt]; exact size79) HTK.2 (fun L a w' hI hL hdp => ⟨(hI.pure 0 _ _ rfl (hdp _ m2 rfl)), by obtain ⟨e2', e3⟩ := RG.SM.putC (fun c_ w1_ w2_ ht_ h_ => h_.touch ht_) (by omega) hI.world; exact ⟨w.heap.size + 1, 0, (hI.fix 4 (nD 4 (by omega) (by omega)) (by decide)).trans e4, e2', by show RG.SM (fun _ w' => RD w g n cap lt f' (some (w.heap.size + 3)) x w') (w.heap.size + 1) (w.heap.size + 2) lt x true (upd L 2 true 2) (upd L 2 true 3) _; rw [upd_same, upd_other _ _ (show 3 ≠ 2 by decide)]; exact e3⟩⟩)
  | 3, _ => cases ho; exact RG.Does.put (ls := x.cells) q3 rfl p3 size46 (by simp [Stp.cells, Value.oneCell']) (fun L a w' hI hL hdp => ⟨(hI.pure 1 _ _ rfl (hdp _ m3 rfl)), by obtain ⟨e2', e3⟩ := RG.SM.putE (fun c_ w1_ w2_ ht_ h_ => h_.touch ht_) (by omega) hI.world rfl; exact ⟨w.heap.size + 2, 0, (hI.fix 5 (nD 5 (by omega) (by omega)) (by decide)).trans e5, e2', by show RG.SM (fun _ w' => RD w g n cap lt f' (some (w.heap.size + 3)) x w') (w.heap.size + 1) (w.heap.size + 2) lt x true (upd L 3 true 2) (upd L 3 true 3) _; rw [upd_same, upd_other _ _ (show 2 ≠ 3 by decide)]; exact e3⟩⟩)
  | 4, _ => cases ho; exact RG.Does.read q4 (fun L v_ w' h => RG.SM.skip2 (by decide) (by decide) h) (fun L a w' hI hd => ex_assign p4 rfl)
 case fin =>
  intro L a' w' hI hall
  have hw := hI.world
  simp only [hall 2 (by simp), hall 3 (by simp)] at hw
  exact fin a' w' ((hI.fix 4 (nD 4 (by omega) (by omega)) (by decide)).trans e4) ((hI.fix 5 (nD 5 (by omega) (by omega)) (by decide)).trans e5) (hI.pure 4 6 _ rfl (hall 4 (by simp))) hI.df (hw.stoC rfl) (hw.stoE rfl) hw.inv.row hw.inv.gro
theorem ret5v {fn : Func} {a' : Act} {w w' : World} {lt : List Value} {x : Stp} {en : Bool} (hf : fn.results = #[.cell 4 59, .cell 5 69, .tmp 6]) (HTK : IsTk lt) (pC : a'.eval (.tmp 4) = .pointer (some ⟨w.heap.size + 1, 0, none⟩)) (pD : a'.eval (.tmp 5) = .pointer (some ⟨w.heap.size + 2, 0, none⟩)) (pe : a'.eval (.tmp 6) = .bool en) (rC : w'.rangeAt (w.heap.size + 1) 0 lt) (rD : w'.rangeAt (w.heap.size + 2) 0 x.cells) :
  (results fn a'.tmps).run Tryz.prog w' = .ok (.tuple #[.agg lt.toArray, x.val, .bool en]) w' := by
 obtain ⟨dT, hdT1, hdT2⟩ := row79
 obtain ⟨dS, hdS1, hdS2⟩ := row46
 have hT := run_loadVar_mid (P := Tryz.prog) w' (w.heap.size + 1) 0 _ lt dT rC hdT1 hdT2 (by rw [HTK.1]; exact size79)
 have hS := run_loadVar_mid (P := Tryz.prog) w' (w.heap.size + 2) 0 _ _ dS rD hdS1 hdS2 size46
 have hres := results_cct (Q := Tryz.prog) (fn := fn) (tmps := a'.tmps) (t := 4) (t' := 5) (t'' := 6) (W := w') hf pC hT pD hS
 rw [show a'.tmps.getD 6 undef = .bool en from pe] at hres
 exact hres
end
end Go.Proofs.YtppgbndoijppnaaGreat
