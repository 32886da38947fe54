/-
  Lemmas: RGN, RPre.
-/
import Derived.Test.YtdflicgjkleonaaTp19
/-
  A drawn region with one act whose step goes into a variable made ahead, and calls beside it that make memory of their own.
-/
namespace Go.Proofs.Ytdflicgjkleonaa
open Go.RowKit
set_option linter.unusedVariables false
set_option linter.unusedSimpArgs false
namespace RG

/-- c: the act is done; se: its step is told into block E. -/
structure SN (I : Bool → World → Prop) (B E : Nat) (X : Stp) (c se : Bool) (w : World) : Prop where
  inv : I c w
  le : B ≤ w.heap.size
  thr : w.there E 0 X.cells.length
  sto : se = true → w.rangeAt E 0 X.cells
  dep : se = true → c = true

section
variable {I : Bool → World → Prop} {B E : Nat} {X : Stp} {c se : Bool} {w w' : World}

theorem SN.start (h : I false w) (hB : B ≤ w.heap.size) (hE : w.there E 0 X.cells.length) : SN I B E X false false w :=
  ⟨h, hB, hE, fun h => (by cases h), fun h => (by cases h)⟩
theorem SN.skip {L : Nat → Bool} {i kc is : Nat} (h1 : kc ≠ i) (h2 : is ≠ i) (h : SN I B E X (L kc) (L is) w) : SN I B E X (upd L i true kc) (upd L i true is) w := by
  rwa [upd_other _ _ h1, upd_other _ _ h2]
theorem SN.grow (hI : ∀ c w w', Below B w w' → B ≤ w.heap.size → I c w → I c w') (hE : E < B) (h : SN I B E X c se w) (hb : Below B w w') : SN I B E X c se w' :=
  ⟨hI c w w' hb h.le h.inv, Nat.le_trans h.le hb.size, there_block h.thr (hb.block E hE), fun hs => rangeAt_block (h.sto hs) (hb.block E hE), h.dep⟩
theorem SN.calls {fd : FuncId} {args : Array Value} {kc is : Nat} (hc : ∀ w, I false w → B ≤ w.heap.size → Calls Try.prog fd args w fun e w' => e = .returned X.val ∧ I true w' ∧ w'.heap[E]? = w.heap[E]? ∧ B ≤ w'.heap.size) (n2 : is ≠ kc) :
    ∀ (L : Nat → Bool) (v : Value) w, SN I B E X (L kc) (L is) w → L kc = false → Calls Try.prog fd args w fun e w' => e = .returned X.val ∧ SN I B E X (upd L kc true kc) (upd L kc true is) w' := by
  intro L v w h hL
  have hi := h.inv
  rw [hL] at hi
  refine (hc w hi h.le).mono ?_
  rintro e w' ⟨rfl, h1, h2, h3⟩
  rw [upd_same, upd_other _ _ n2]
  have hs : L is = false := by
    cases hs : L is with
    | false => rfl
    | true => have := h.dep hs; rw [hL] at this; cases this
  rw [hs]
  exact ⟨rfl, h1, h3, there_block h.thr h2, fun h => (by cases h), fun h => (by cases h)⟩
theorem SN.put (hI : ∀ c w w', Touch w w' (fun k => k = E) → I c w → I c w') (h : SN I B E X c se w) (hc : c = true) : w.there E 0 X.cells.length ∧ SN I B E X c true (w.setCells E 0 X.cells) := by
  have tt := touch_setCells E X.cells 0 w
  exact ⟨h.thr, hI c w _ tt h.inv, Nat.le_trans h.le tt.size, World.there_setCells h.thr _ _ _, fun _ => World.rangeAt_setCells_same w E 0 X.cells h.thr, fun _ => hc⟩
end
end RG
end Go.Proofs.Ytdflicgjkleonaa

/-
  A layer's reference with its variable made ahead: the worlds at the start of a Step and behind its act.
-/
namespace Go.Proofs.Ytdflicgjkleonaa
open Go.RowKit
set_option linter.unusedVariables false
set_option linter.unusedSimpArgs false
set_option linter.unnecessarySimpa false
set_option maxRecDepth 20000
namespace RPre

/-- The cells of a Step that is noughts. -/
abbrev ZL : List Value := [Value.int .i64 0, .int .i64 0, .int .i64 0, .int .u64 0, .int .u64 0, .bool false]
abbrev XL (x : Stp) : List Value := [Value.int .i64 x.hand, .int .i64 x.act, .int .i64 x.at_, .int .u64 x.had, .int .u64 x.put, .bool x.ok]

theorem pre {w : World} {g n cap : Nat} {f : Nat → Int} (hr : IsRow w g n cap f) {l0 : List Value} (hl : l0.length = 28) :
    ∃ W3, (((w.alloc (.cells l0.toArray 64)).alloc (.cells tk0.toArray 64)).alloc (.cells ZL.toArray 71)).alloc (.cells ZL.toArray 71) = W3 ∧ W3.heap.size = w.heap.size + 4 ∧
      W3.rowIs w.heap.size 64 28 (lrow l0) ∧ W3.rowIs (w.heap.size + 1) 64 28 (lrow tk0) ∧ W3.rowIs (w.heap.size + 2) 71 6 (lrow ZL) ∧ W3.rowIs (w.heap.size + 3) 71 6 (lrow ZL) ∧
      w.grownBy W3 (some g) ∧ IsRow W3 g n cap f ∧ ∀ i v, l0[i]? = some v → W3.cell? ⟨w.heap.size, i, none⟩ = some v := by
  have R0 := (((rowL_alloc w l0 64 hl).alloc (.cells tk0.toArray 64)).alloc (.cells ZL.toArray 71)).alloc (.cells ZL.toArray 71)
  have R1 := ((rowL_alloc (w.alloc (.cells l0.toArray 64)) tk0 64 (n := 28) rfl).alloc (.cells ZL.toArray 71)).alloc (.cells ZL.toArray 71)
  rw [World.size_alloc] at R1
  have R2 := (rowL_alloc ((w.alloc (.cells l0.toArray 64)).alloc (.cells tk0.toArray 64)) ZL 71 (n := 6) rfl).alloc (.cells ZL.toArray 71)
  rw [World.size_alloc, World.size_alloc] at R2
  have R3 := rowL_alloc (((w.alloc (.cells l0.toArray 64)).alloc (.cells tk0.toArray 64)).alloc (.cells ZL.toArray 71)) ZL 71 (n := 6) rfl
  rw [World.size_alloc, World.size_alloc, World.size_alloc] at R3
  refine ⟨_, rfl, by simp, R0, R1, R2, R3, grown_alloc (grown_alloc (grown_alloc (grown_alloc (grown_refl _ _) _) _) _) _, hr.grown (grown_none (grown_alloc (grown_alloc (grown_alloc (grown_alloc (grown_refl _ _) _) _) _) _) none) (by simp), fun i v hv => ?_⟩
  rw [R0.cell (i := i) (by have := (List.getElem?_eq_some_iff.1 hv).1; omega), lrow_of hv]

set_option maxHeartbeats 2000000 in
theorem aft {w W3 w1 : World} {g n cap : Nat} {f' : Nat → Int} {l0 : List Value} (x : Stp) (R0 : W3.rowIs w.heap.size 64 28 (lrow l0)) (R1 : W3.rowIs (w.heap.size + 1) 64 28 (lrow tk0)) (R2 : W3.rowIs (w.heap.size + 2) 71 6 (lrow ZL)) (R3 : W3.rowIs (w.heap.size + 3) 71 6 (lrow ZL))
    (G3 : w.grownBy W3 (some g)) (lg : g < w.heap.size) (sz3 : W3.heap.size = w.heap.size + 4) (hr1 : IsRow w1 g n cap f') (hg1 : W3.grownBy w1 (some g)) :
    ∃ V, ((((((w1.setCell ⟨w.heap.size + 3, 0, none⟩ (.int .i64 x.hand)).setCell ⟨w.heap.size + 3, 1, none⟩ (.int .i64 x.act)).setCell ⟨w.heap.size + 3, 2, none⟩ (.int .i64 x.at_)).setCell ⟨w.heap.size + 3, 3, none⟩ (.int .u64 x.had)).setCell ⟨w.heap.size + 3, 4, none⟩ (.int .u64 x.put)).setCell ⟨w.heap.size + 3, 5, none⟩ (.bool x.ok)) = V ∧
      V.heap.size = w1.heap.size ∧ V.rangeAt (w.heap.size + 3) 0 (XL x) ∧ V.rowIs w.heap.size 64 28 (lrow l0) ∧ V.rowIs (w.heap.size + 1) 64 28 (lrow tk0) ∧ V.rowIs (w.heap.size + 2) 71 6 (lrow ZL) ∧ IsRow V g n cap f' ∧ Touch w V (fun k => k = g) ∧
      ((w1.cell? ⟨w.heap.size + 3, 0, none⟩ = some (.int .i64 0) ∧ w1.frozen? ⟨w.heap.size + 3, 0, none⟩ = false) ∧ (w1.cell? ⟨w.heap.size + 3, 1, none⟩ = some (.int .i64 0) ∧ w1.frozen? ⟨w.heap.size + 3, 1, none⟩ = false) ∧ (w1.cell? ⟨w.heap.size + 3, 2, none⟩ = some (.int .i64 0) ∧ w1.frozen? ⟨w.heap.size + 3, 2, none⟩ = false) ∧ (w1.cell? ⟨w.heap.size + 3, 3, none⟩ = some (.int .u64 0) ∧ w1.frozen? ⟨w.heap.size + 3, 3, none⟩ = false) ∧ (w1.cell? ⟨w.heap.size + 3, 4, none⟩ = some (.int .u64 0) ∧ w1.frozen? ⟨w.heap.size + 3, 4, none⟩ = false) ∧ (w1.cell? ⟨w.heap.size + 3, 5, none⟩ = some (.bool false) ∧ w1.frozen? ⟨w.heap.size + 3, 5, none⟩ = false)) ∧
      V.cell? ⟨w.heap.size + 3, 0, none⟩ = some (.int .i64 x.hand) ∧ V.cell? ⟨w.heap.size + 3, 1, none⟩ = some (.int .i64 x.act) ∧ V.cell? ⟨w.heap.size + 3, 2, none⟩ = some (.int .i64 x.at_) ∧ V.cell? ⟨w.heap.size + 3, 3, none⟩ = some (.int .u64 x.had) ∧ V.cell? ⟨w.heap.size + 3, 4, none⟩ = some (.int .u64 x.put) ∧ V.cell? ⟨w.heap.size + 3, 5, none⟩ = some (.bool x.ok) := by
  have sz1 := hg1.size
  have HRT := R3.of_block (hg1.block (w.heap.size + 3) (by omega) (by simp; omega))
  have HQ4 := R0.of_block (hg1.block w.heap.size (by omega) (by simp; omega))
  have HQ5 := R1.of_block (hg1.block (w.heap.size + 1) (by omega) (by simp; omega))
  have HQ6 := R2.of_block (hg1.block (w.heap.size + 2) (by omega) (by simp; omega))
  obtain ⟨V, hV⟩ : ∃ V, ((((((w1.setCell ⟨w.heap.size + 3, 0, none⟩ (.int .i64 x.hand)).setCell ⟨w.heap.size + 3, 1, none⟩ (.int .i64 x.act)).setCell ⟨w.heap.size + 3, 2, none⟩ (.int .i64 x.at_)).setCell ⟨w.heap.size + 3, 3, none⟩ (.int .u64 x.had)).setCell ⟨w.heap.size + 3, 4, none⟩ (.int .u64 x.put)).setCell ⟨w.heap.size + 3, 5, none⟩ (.bool x.ok)) = V := ⟨_, rfl⟩
  have tt1 : Touch w1 V (fun k => k = w.heap.size + 3) := by
    rw [← hV]
    exact Touch.setCell (S := fun k => k = w.heap.size + 3) (Touch.setCell (S := fun k => k = w.heap.size + 3) (Touch.setCell (S := fun k => k = w.heap.size + 3) (Touch.setCell (S := fun k => k = w.heap.size + 3) (Touch.setCell (S := fun k => k = w.heap.size + 3) (Touch.setCell (S := fun k => k = w.heap.size + 3) (Touch.refl w1 _) ⟨w.heap.size + 3, 0, none⟩ (.inl rfl) _) ⟨w.heap.size + 3, 1, none⟩ (.inl rfl) _) ⟨w.heap.size + 3, 2, none⟩ (.inl rfl) _) ⟨w.heap.size + 3, 3, none⟩ (.inl rfl) _) ⟨w.heap.size + 3, 4, none⟩ (.inl rfl) _) ⟨w.heap.size + 3, 5, none⟩ (.inl rfl) _
  have HRQ : V.rangeAt (w.heap.size + 3) 0 (XL x) := by
    rw [← hV]
    exact rowIs.range (rowIs.setL (rowIs.setL (rowIs.setL (rowIs.setL (rowIs.setL (rowIs.setL HRT (i := 0) (by simp) (.int .i64 x.hand)) (i := 1) (by simp) (.int .i64 x.act)) (i := 2) (by simp) (.int .i64 x.at_)) (i := 3) (by simp) (.int .u64 x.had)) (i := 4) (by simp) (.int .u64 x.put)) (i := 5) (by simp) (.bool x.ok)) (by simp)
  have y : ∀ i v, (XL x)[i]? = some v → V.cell? ⟨w.heap.size + 3, i, none⟩ = some v := fun i v hv => by have := HRQ i v hv; simpa using this
  have z : ∀ i, i < 6 → w1.cell? ⟨w.heap.size + 3, i, none⟩ = some (lrow ZL i) ∧ w1.frozen? ⟨w.heap.size + 3, i, none⟩ = false := fun i hi => ⟨HRT.cell (i := i) hi, HRT.frozen i⟩
  exact ⟨V, hV, by rw [← hV]; simp, HRQ, HQ4.of_block (tt1.block _ (by omega) (by omega)), HQ5.of_block (tt1.block _ (by omega) (by omega)), HQ6.of_block (tt1.block _ (by omega) (by omega)), hr1.block (tt1.block g (by omega) (by omega)),
    (((Touch.of_grown G3).mono (S' := fun k => k = g) (fun k _ h => by simpa using h)).trans' (Touch.of_grown hg1) (fun k _ h => by simpa using h)).trans' tt1 (fun k hk h => absurd hk (by omega)),
    ⟨z 0 (by omega), z 1 (by omega), z 2 (by omega), z 3 (by omega), z 4 (by omega), z 5 (by omega)⟩, y 0 _ rfl, y 1 _ rfl, y 2 _ rfl, y 3 _ rfl, y 4 _ rfl, y 5 _ rfl⟩
end RPre
end Go.Proofs.Ytdflicgjkleonaa
