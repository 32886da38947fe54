/-
  Lemmas: RGN, RGV, RGW, VsR, RoomRP.
-/
import Derived.Test.YtmikhglnomgbfaaGreatTp20
import Derived.Test.YtmikhglnomgbfaaGreatTp18
import Derived.Test.YtmikhglnomgbfaaGreatTp28
namespace Go.Proofs.YtmikhglnomgbfaaGreat
set_option maxHeartbeats 8000000
open Go.RowKit
set_option linter.unusedVariables false
set_option linter.unusedSimpArgs false
set_option linter.unnecessarySimpa false
set_option maxRecDepth 20000
section
namespace RG
structure SN (I : Bool → World → Prop) (B E : Nat) (X : Stp) (c se : Bool) (w : World) : Prop where
  inv : I c w
  le : B ≤ w.heap.size
  thr : w.there E 0 X.cells.length
  sto : se = true → w.rangeAt E 0 X.cells
  dep : se = true → c = true
section
variable {I : Bool → World → Prop} {B E : Nat} {X : Stp} {c se : Bool} {w w' : World}
theorem SN.start (h : I false w) (hB : B ≤ w.heap.size) (hE : w.there E 0 X.cells.length) : SN I B E X false false w :=
  ⟨h, hB, hE, fun h => (by cases h), fun h => (by cases h)⟩
theorem SN.skip {L : Nat → Bool} {i kc is : Nat} (h1 : kc ≠ i) (h2 : is ≠ i) (h : SN I B E X (L kc) (L is) w) : SN I B E X (upd L i true kc) (upd L i true is) w := by
  rwa [upd_other _ _ h1, upd_other _ _ h2]
theorem SN.grow (hI : ∀ c w w', Below B w w' → B ≤ w.heap.size → I c w → I c w') (hE : E < B) (h : SN I B E X c se w) (hb : Below B w w') : SN I B E X c se w' :=
  ⟨hI c w w' hb h.le h.inv, Nat.le_trans h.le hb.size, there_block h.thr (hb.block E hE), fun hs => rangeAt_block (h.sto hs) (hb.block E hE), h.dep⟩
theorem SN.calls {fd : FuncId} {args : Array Value} {kc is : Nat} (hc : ∀ w, I false w → B ≤ w.heap.size → Calls Tryz.prog fd args w fun e w' => e = .returned X.val ∧ I true w' ∧ w'.heap[E]? = w.heap[E]? ∧ B ≤ w'.heap.size) (n2 : is ≠ kc) :
    ∀ (L : Nat → Bool) (v : Value) w, SN I B E X (L kc) (L is) w → L kc = false → Calls Tryz.prog fd args w fun e w' => e = .returned X.val ∧ SN I B E X (upd L kc true kc) (upd L kc true is) w' := by
  intro L v w h hL
  have hi := h.inv
  rw [hL] at hi
  refine (hc w hi h.le).mono ?_
  rintro e w' ⟨rfl, h1, h2, h3⟩
  rw [upd_same, upd_other _ _ n2]
  have hs : L is = false := by
    cases hs : L is with
    | false => rfl
    | true => have := h.dep hs; rw [hL] at this; cases this
  rw [hs]
  exact ⟨rfl, h1, h3, there_block h.thr h2, fun h => (by cases h), fun h => (by cases h)⟩
theorem SN.put (hI : ∀ c w w', Touch w w' (fun k => k = E) → I c w → I c w') (h : SN I B E X c se w) (hc : c = true) : w.there E 0 X.cells.length ∧ SN I B E X c true (w.setCells E 0 X.cells) := by
  have tt := touch_setCells E X.cells 0 w
  exact ⟨h.thr, hI c w _ tt h.inv, Nat.le_trans h.le tt.size, World.there_setCells h.thr _ _ _, fun _ => World.rangeAt_setCells_same w E 0 X.cells h.thr, fun _ => hc⟩
end
end RG
end
section
def zst : List Value := [.int .i64 0, .int .i64 0, .int .i64 0, .int .u64 0, .int .u64 0, .bool false]
structure RV (w0 : World) (g n cap : Nat) (l : List Value) (f : Nat → Int) (S : List Value) (w : World) : Prop where
 rt : RT w0 g n cap l f w
 sv : w.rowIs (w0.heap.size + 3) 75 6 (lrow S)
 len : S.length = 6
namespace RV
variable {w0 w w' : World} {g n cap : Nat} {l S : List Value} {f f' : Nat → Int}
theorem size (h : RV w0 g n cap l f S w) : w0.heap.size + 4 ≤ w.heap.size := by have := h.sv.lt; omega
theorem belowB {B : Nat} (h : RV w0 g n cap l f S w) (hB : w0.heap.size + 4 ≤ B) (hb : Below B w w') (hs : B ≤ w.heap.size) : RV w0 g n cap l f S w' :=
 ⟨h.rt.belowB (by omega) hb hs, h.sv.of_block (hb.block _ (by omega)), h.len⟩
theorem below (h : RV w0 g n cap l f S w) (hb : Below w.heap.size w w') : RV w0 g n cap l f S w' := h.belowB h.size hb (Nat.le_refl _)
theorem act (h : RV w0 g n cap l f S w) (hr : IsRow w' g n cap f') (hg : w.grownBy w' (some g)) : RV w0 g n cap l f' S w' := by
 have := h.rt.lg
 have sz := h.size
 exact ⟨h.rt.act hr hg, h.sv.of_block (hg.block _ (by omega) (by simp; omega)), h.len⟩
theorem cell (h : RV w0 g n cap l f S w) {i : Nat} {v : Value} (hv : l[i]? = some v) : w.cell? ⟨w0.heap.size, i, none⟩ = some v := h.rt.cell hv
theorem part (h : RV w0 g n cap l f S w) {vs : List Value} (hv : ∀ (j : Nat) (v : Value), vs[j]? = some v → l[j]? = some v) : w.rangeAt w0.heap.size 0 vs := h.rt.part hv
theorem set (h : RV w0 g n cap l f S w) (i : Nat) (hi : i < 28) (v : Value) : RV w0 g n cap (l.set i v) f S (w.setCell ⟨w0.heap.size, i, none⟩ v) :=
 ⟨h.rt.set i hi v, h.sv.setOther (by simp) v, h.len⟩
theorem sset (h : RV w0 g n cap l f S w) (i : Nat) (hi : i < 6) (v : Value) : RV w0 g n cap l f (S.set i v) (w.setCell ⟨w0.heap.size + 3, i, none⟩ v) := by
 have hl := h.rt.lg
 have h0 := h.rt
 refine ⟨⟨h0.tk.setOther (by simp) v, h0.rt.setOther (by simp) v, h0.rs.setOther (by simp) v, h0.row.setOther (by simp; omega) v, grown_setCell h0.gro _ (.inr (by simp)) v, h0.lg, h0.len⟩, rowIs.setL h.sv (by have := h.len; omega) v, by simp [h.len]⟩
theorem scell (h : RV w0 g n cap l f S w) {i : Nat} {v : Value} (hv : S[i]? = some v) : w.cell? ⟨w0.heap.size + 3, i, none⟩ = some v := by
 have hi := (List.getElem?_eq_some_iff.1 hv).1
 rw [h.sv.cell (i := i) (by have := h.len; omega), lrow_of hv]
theorem range (h : RV w0 g n cap l f S w) : w.rangeAt (w0.heap.size + 3) 0 S := rowIs.range h.sv h.len
theorem start (hr : IsRow w0 g n cap f) (hl : l.length = 28) : RV w0 g n cap l f zst ((((w0.alloc (.cells l.toArray 59)).alloc (.cells tk0.toArray 59)).alloc (.cells [Value.int .i64 0, .int .i64 0, .int .i64 0, .int .u64 0, .int .u64 0, .bool false].toArray 75)).alloc (.cells [Value.int .i64 0, .int .i64 0, .int .i64 0, .int .u64 0, .int .u64 0, .bool false].toArray 75)) := by
 refine ⟨(RT.start hr hl).alloc _, ?_, rfl⟩
 have := rowL_alloc (((w0.alloc (.cells l.toArray 59)).alloc (.cells tk0.toArray 59)).alloc (.cells [Value.int .i64 0, .int .i64 0, .int .i64 0, .int .u64 0, .int .u64 0, .bool false].toArray 75)) zst 75 (n := 6) rfl
 rwa [World.size_alloc, World.size_alloc, World.size_alloc] at this
theorem put6 (h : RV w0 g n cap l f S w) (x : Stp) : RV w0 g n cap l f x.cells ((((((w.setCell ⟨w0.heap.size + 3, 0, none⟩ (.int .i64 x.hand)).setCell ⟨w0.heap.size + 3, 1, none⟩ (.int .i64 x.act)).setCell ⟨w0.heap.size + 3, 2, none⟩ (.int .i64 x.at_)).setCell ⟨w0.heap.size + 3, 3, none⟩ (.int .u64 x.had)).setCell ⟨w0.heap.size + 3, 4, none⟩ (.int .u64 x.put)).setCell ⟨w0.heap.size + 3, 5, none⟩ (.bool x.ok)) := by
 have := (((((h.sset 0 (by omega) (.int .i64 x.hand)).sset 1 (by omega) (.int .i64 x.act)).sset 2 (by omega) (.int .i64 x.at_)).sset 3 (by omega) (.int .u64 x.had)).sset 4 (by omega) (.int .u64 x.put)).sset 5 (by omega) (.bool x.ok)
 have e : (((((S.set 0 (Value.int .i64 x.hand)).set 1 (.int .i64 x.act)).set 2 (.int .i64 x.at_)).set 3 (.int .u64 x.had)).set 4 (.int .u64 x.put)).set 5 (.bool x.ok) = x.cells := by
  have hl := h.len
  match S, hl with
  | [_, _, _, _, _, _], _ => rfl
 rw [e] at this
 exact this
end RV
theorem RT.touchE {w0 w w' : World} {g n cap E : Nat} {l : List Value} {f : Nat → Int} (h : RT w0 g n cap l f w) (hE : w0.heap.size + 3 ≤ E) (ht : Touch w w' (fun k => k = E)) : RT w0 g n cap l f w' := by
 have := h.lg
 have sz := h.size
 refine ⟨h.tk.of_block (ht.block _ (by omega) (by omega)), h.rt.of_block (ht.block _ (by omega) (by omega)), h.rs.of_block (ht.block _ (by omega) (by omega)), h.row.block (ht.block _ (by omega) (by omega)), ?_, h.lg, h.len⟩
 exact ⟨ht.os.trans h.gro.os, ht.tape.trans h.gro.tape, ht.output.trans h.gro.output, Nat.le_trans h.gro.size ht.size, fun k hk hn => (ht.block k (by omega) (by omega)).trans (h.gro.block k hk hn)⟩
end
section
namespace RG
theorem rN {P : Program} {Q : Exit → Act → World → Prop} {ks : List (Nat × Nat)} {vals : Nat → Value} {x : Nat} {a0 : Act} {i : Nat} {o : Oper} {I : Bool → World → Prop} {B E : Nat} {X : Stp} {kc is : Nat} (hd : o.dst = Reg.look ks i) (hn : (kc == i || is == i) = false) (h : ∀ L a w, In ks vals x (fun L v w' => SN I B E X (L kc) (L is) w') a0 L a w → (∀ e ∈ o.after, Region.binds .any e = true → L e.on = true) → (execOp a.eval o).run P w = .ok (.value (vals i)) w) : Does P Q ks vals x (fun L v w' => SN I B E X (L kc) (L is) w') a0 i o :=
 Does.read hd (fun L v w h => by simp only [Bool.or_eq_false_iff, beq_eq_false_iff_ne] at hn; exact SN.skip hn.1 hn.2 h) h
end RG
theorem ret5 {id : Nat} {Q : Exit → Act → World → Prop} {a0 : Act} {w V : World} {g n cap : Nat} {lt : List Value} {f' : Nat → Int} {x : Stp} {o0 o1 o2 o3 o4 : Oper} {d0 d1 : Nat} {en : Bool}
  (RTV : RT w g n cap lt f' V) (SV : V.rangeAt (w.heap.size + 3) 0 x.cells) (lqV : w.heap.size + 3 < V.heap.size) (HTK : IsTk lt)
  (hm : Tryz.prog.follows .mixedOrders = true) (hk : RG.okB 5 #[o0, o1, o2, o3, o4] = true)
  (e2 : a0.eval (.tmp 2) = .pointer (some ⟨w.heap.size, 0, none⟩)) (e4 : a0.eval (.tmp 4) = .pointer (some ⟨w.heap.size + 1, 0, none⟩)) (e5 : a0.eval (.tmp 5) = .pointer (some ⟨w.heap.size + 2, 0, none⟩)) (e7 : a0.eval (.tmp 7) = .pointer (some ⟨w.heap.size + 3, 0, none⟩))
  (p0 : o0.op = .load 59 (.tmp 2)) (p1 : o1.op = .load 75 (.tmp 7)) (p2 : o2.op = .store 59 (.tmp 4) (.tmp d0)) (p3 : o3.op = .store 75 (.tmp 5) (.tmp d1)) (p4 : o4.op = .assign (.const (.bool en)))
  (q0 : o0.dst = some d0) (q1 : o1.dst = some d1) (q2 : o2.dst = none) (q3 : o3.dst = none) (q4 : o4.dst = some 6)
  (m2 : ⟨0, .data⟩ ∈ o2.after) (m3 : ⟨1, .data⟩ ∈ o3.after) (hd : 8 ≤ d0 ∧ d0 < d1) (hs : d1 < a0.tmps.size)
  (fin : ∀ a w', a.eval (.tmp 4) = .pointer (some ⟨w.heap.size + 1, 0, none⟩) → a.eval (.tmp 5) = .pointer (some ⟨w.heap.size + 2, 0, none⟩) → a.eval (.tmp 6) = .bool en → a.defers = a0.defers → w'.rangeAt (w.heap.size + 1) 0 lt → w'.rangeAt (w.heap.size + 2) 0 x.cells → IsRow w' g n cap f' → w.grownBy w' (some g) → Q .normal a w') :
  (Code.region id #[o0, o1, o2, o3, o4] true).wp Tryz.prog Q a0 V := by
 obtain ⟨dT, hdT1, hdT2⟩ := row79
 obtain ⟨dS, hdS1, hdS2⟩ := row46
 have hlt : lt.length = 28 := HTK.1
 have n1 : d0 ≠ d1 := by omega
 have nD : ∀ k, k < 8 → k ≠ 6 → ¬ RetN.D [(0, d0), (1, d1), (4, 6)] k := fun k hk h6 => by simp [RetN.D]; omega
 refine RG.regionB (ks := [(0, d0), (1, d1), (4, 6)]) (vals := fun i => match i with
   | 0 => .agg lt.toArray
   | 1 => x.val
   | 4 => .bool en
   | _ => undef) (x := 3) (WI := fun L v_ w' => RG.SM (fun _ w' => RD w g n cap lt f' (some (w.heap.size + 3)) x w') (w.heap.size + 1) (w.heap.size + 2) lt x true (L 2) (L 3) w') 5 hm hk (by simp; omega) (by simp; omega) (by simp; omega) (RG.SM.begin (c := true) (RD.drew (RD.of RTV (fun k e => by cases e; exact ⟨SV, Nat.le_refl _, lqV⟩))) (by rw [hlt]; exact rowIs.there RTV.rt.drew (by omega)) (rowIs.there RTV.rs.drew (by simp [Stp.cells]))) ?does ?fin
 case does =>
  intro i o ho
  have hi : i < 5 := RG.lt_of ho rfl
  match i, hi with
  | 0, _ => cases ho; exact RG.Does.read q0 (fun L v_ w' h => RG.SM.skip2 (by decide) (by decide) h) (fun L a w' hI hd => ex_load_row p0 ((hI.fix 2 (nD 2 (by omega) (by omega)) (by decide)).trans e2) hI.world.inv.range hdT1 hdT2 (by rw [hlt]; exact size79))
  | 1, _ => cases ho; exact RG.Does.read q1 (fun L v_ w' h => RG.SM.skip2 (by decide) (by decide) h) (fun L a w' hI hd => ex_load_row p1 ((hI.fix 7 (nD 7 (by omega) (by omega)) (by decide)).trans e7) (hI.world.inv.var _ rfl).1 hdS1 hdS2 size46)
  | 2, _ => cases ho; exact RG.Does.put (ls := lt) q2 rfl p2 (by rw [hlt]; exact size79) HTK.2 (fun L a w' hI hL hdp => ⟨(hI.pure 0 _ _ rfl (hdp _ m2 rfl)), by obtain ⟨e2', e3⟩ := RG.SM.putC (fun c_ w1_ w2_ ht_ h_ => h_.touch ht_) (by omega) hI.world; exact ⟨w.heap.size + 1, 0, (hI.fix 4 (nD 4 (by omega) (by omega)) (by decide)).trans e4, e2', by show RG.SM (fun _ w' => RD w g n cap lt f' (some (w.heap.size + 3)) x w') (w.heap.size + 1) (w.heap.size + 2) lt x true (upd L 2 true 2) (upd L 2 true 3) _; rw [upd_same, upd_other _ _ (show 3 ≠ 2 by decide)]; exact e3⟩⟩)
  | 3, _ => cases ho; exact RG.Does.put (ls := x.cells) q3 rfl p3 size46 (by simp [Stp.cells, Value.oneCell']) (fun L a w' hI hL hdp => ⟨(hI.pure 1 _ _ rfl (hdp _ m3 rfl)), by obtain ⟨e2', e3⟩ := RG.SM.putE (fun c_ w1_ w2_ ht_ h_ => h_.touch ht_) (by omega) hI.world rfl; exact ⟨w.heap.size + 2, 0, (hI.fix 5 (nD 5 (by omega) (by omega)) (by decide)).trans e5, e2', by show RG.SM (fun _ w' => RD w g n cap lt f' (some (w.heap.size + 3)) x w') (w.heap.size + 1) (w.heap.size + 2) lt x true (upd L 3 true 2) (upd L 3 true 3) _; rw [upd_same, upd_other _ _ (show 2 ≠ 3 by decide)]; exact e3⟩⟩)
  | 4, _ => cases ho; exact RG.Does.read q4 (fun L v_ w' h => RG.SM.skip2 (by decide) (by decide) h) (fun L a w' hI hd => ex_assign p4 rfl)
 case fin =>
  intro L a' w' hI hall
  have hw := hI.world
  simp only [hall 2 (by simp), hall 3 (by simp)] at hw
  exact fin a' w' ((hI.fix 4 (nD 4 (by omega) (by omega)) (by decide)).trans e4) ((hI.fix 5 (nD 5 (by omega) (by omega)) (by decide)).trans e5) (hI.pure 4 6 _ rfl (hall 4 (by simp))) hI.df (hw.stoC rfl) (hw.stoE rfl) hw.inv.row hw.inv.gro
theorem ret5v {fn : Func} {a' : Act} {w w' : World} {lt : List Value} {x : Stp} {en : Bool} (hf : fn.results = #[.cell 4 59, .cell 5 75, .tmp 6]) (HTK : IsTk lt) (pC : a'.eval (.tmp 4) = .pointer (some ⟨w.heap.size + 1, 0, none⟩)) (pD : a'.eval (.tmp 5) = .pointer (some ⟨w.heap.size + 2, 0, none⟩)) (pe : a'.eval (.tmp 6) = .bool en) (rC : w'.rangeAt (w.heap.size + 1) 0 lt) (rD : w'.rangeAt (w.heap.size + 2) 0 x.cells) :
  (results fn a'.tmps).run Tryz.prog w' = .ok (.tuple #[.agg lt.toArray, x.val, .bool en]) w' := by
 obtain ⟨dT, hdT1, hdT2⟩ := row79
 obtain ⟨dS, hdS1, hdS2⟩ := row46
 have hT := run_loadVar_mid (P := Tryz.prog) w' (w.heap.size + 1) 0 _ lt dT rC hdT1 hdT2 (by rw [HTK.1]; exact size79)
 have hS := run_loadVar_mid (P := Tryz.prog) w' (w.heap.size + 2) 0 _ _ dS rD hdS1 hdS2 size46
 have hres := results_cct (Q := Tryz.prog) (fn := fn) (tmps := a'.tmps) (t := 4) (t' := 5) (t'' := 6) (W := w') hf pC hT pD hS
 rw [show a'.tmps.getD 6 undef = .bool en from pe] at hres
 exact hres
end
section
namespace Shape
theorem place_arg {s0 s1 s2 s3 s4 s5 : Int} (H : R5 s0 s1 s2 s3 s4) (v : Int) (w : World) : Calls Tryz.prog 96 #[.agg #[.int .i64 s0, .int .i64 s1, .int .i64 s2, .int .i64 s3, .int .i64 s4, .int .i64 s5], .bool false, .int .i64 v] w fun e w' => e = .returned (.tuple #[.int .i64 0, .int .i64 2]) ∧ Below w.heap.size w w' := by
  have HH := hide H
  clear H
  obtain ⟨W0, hW0, B0, K⟩ := box w s0 s1 s2 s3 s4 s5
  have HB := hide B0
  obtain ⟨-, l0, x0, x1, x2, x3, x4, x5⟩ := K.out W0 (Below.refl _ _)
  clear B0
  go_enter Tryz.func96, Tryz.ntmps96
  go_wp2_with (go_at_call 25; refine (rcheck_ok HH.out _).mono ?_; rintro e w1 ⟨rfl, hb1⟩; have HB1 := hide hb1; clear hb1; obtain ⟨-, m1, y0, y1, y2, y3, y4, y5⟩ := K.out w1 HB1.out)
  go_ret2
  exact ⟨rfl, (K.out _ HB1.out).1⟩
theorem place_ok {s0 s1 s2 s3 s4 s5 : Int} (H : R5 s0 s1 s2 s3 s4) (v : Int) (w : World) : Calls Tryz.prog 96 #[.agg #[.int .i64 s0, .int .i64 s1, .int .i64 s2, .int .i64 s3, .int .i64 s4, .int .i64 s5], .bool true, .int .i64 v] w fun e w' => e = .returned (.tuple #[.int .i64 v, .int .i64 0]) ∧ Below w.heap.size w w' := by
  have HH := hide H
  clear H
  obtain ⟨W0, hW0, B0, K⟩ := box w s0 s1 s2 s3 s4 s5
  have HB := hide B0
  obtain ⟨-, l0, x0, x1, x2, x3, x4, x5⟩ := K.out W0 (Below.refl _ _)
  clear B0
  go_enter Tryz.func96, Tryz.ntmps96
  go_wp2_with (go_at_call 25; refine (rcheck_ok HH.out _).mono ?_; rintro e w1 ⟨rfl, hb1⟩; have HB1 := hide hb1; clear hb1; obtain ⟨-, m1, y0, y1, y2, y3, y4, y5⟩ := K.out w1 HB1.out)
  go_ret2
  exact ⟨rfl, (K.out _ HB1.out).1⟩
theorem rsize_bad {s0 s1 s2 s3 s4 s5 : Int} (H : ¬ R5 s0 s1 s2 s3 s4) (w : World) : Calls Tryz.prog 11 #[.agg #[.int .i64 s0, .int .i64 s1, .int .i64 s2, .int .i64 s3, .int .i64 s4, .int .i64 s5]] w fun e w' => e = .returned (.tuple #[.int .i64 0, .int .i64 120]) ∧ Below w.heap.size w w' := by
  have HH := hide H
  clear H
  obtain ⟨W0, hW0, B0, K⟩ := box w s0 s1 s2 s3 s4 s5
  have HB := hide B0
  obtain ⟨-, l0, x0, x1, x2, x3, x4, x5⟩ := K.out W0 (Below.refl _ _)
  clear B0
  go_enter Tryz.func11, Tryz.ntmps11
  go_wp2_with (go_at_call 25; refine (rcheck_bad HH.out _).mono ?_; rintro e w1 ⟨rfl, hb1⟩; have HB1 := hide hb1; clear hb1; obtain ⟨-, m1, y0, y1, y2, y3, y4, y5⟩ := K.out w1 HB1.out)
  go_ret2
  exact ⟨rfl, (K.out _ HB1.out).1⟩
theorem rsize_ok {o s h r k : Nat} {s5 : Int} (H : (⟨o, s, h, r, k⟩ : Sh).Ok) (w : World) : Calls Tryz.prog 11 #[.agg #[.int .i64 (o : Int), .int .i64 (s : Int), .int .i64 (h : Int), .int .i64 (r : Int), .int .i64 (k : Int), .int .i64 s5]] w fun e w' => e = .returned (.tuple #[.int .i64 ((size ⟨o, s, h, r, k⟩ : Nat) : Int), .int .i64 0]) ∧ Below w.heap.size w w' := by
  have HH := hide (r5 H)
  obtain ⟨b1, b2, b3, b4, b5, b6, b7, b8, b9, b10⟩ := bnds H
  obtain ⟨q, hq⟩ : ∃ q, o * (3 + s) = q := ⟨_, rfl⟩
  obtain ⟨p, hp⟩ : ∃ p, h * r = p := ⟨_, rfl⟩
  have ES := hide (show ((size ⟨o, s, h, r, k⟩ : Nat) : Int) = 8 + (h : Int) + (p : Int) + (k : Int) + (q : Int) from by simp only [size, bO, bK, bR, ow]; rw [hp, hq]; omega)
  rw [hp] at b6
  rw [hq] at b7
  have hp' : (h : Int) * (r : Int) = (p : Int) := by rw [← hp]; simp
  have hq' : (o : Int) * (3 + (s : Int)) = (q : Int) := by rw [← hq]; simp
  clear H hq hp
  obtain ⟨W0, hW0, B0, K⟩ := box w (o : Int) (s : Int) (h : Int) (r : Int) (k : Int) s5
  have HB := hide B0
  obtain ⟨-, l0, x0, x1, x2, x3, x4, x5⟩ := K.out W0 (Below.refl _ _)
  clear B0
  go_enter Tryz.func11, Tryz.ntmps11
  go_wp2_with (go_at_call 25; refine (rcheck_ok HH.out _).mono ?_; rintro e w1 ⟨rfl, hb1⟩; have HB1 := hide hb1; clear hb1; obtain ⟨-, m1, y0, y1, y2, y3, y4, y5⟩ := K.out w1 HB1.out)
  go_ret2
  exact ⟨by rw [ES.out]; rfl, (K.out _ HB1.out).1⟩
theorem robject_of {s0 s1 s2 s3 s4 s5 : Int} {a v e : Int} {q : Bool} (T1 : Hid (∀ w1 : World, Calls Tryz.prog 48 #[.int .i64 a, .int .i64 1, .int .i64 s0] w1 fun e w' => e = .returned (.bool q) ∧ w' = w1)) (PL : Hid (∀ w1 : World, Calls Tryz.prog 96 #[.agg #[.int .i64 s0, .int .i64 s1, .int .i64 s2, .int .i64 s3, .int .i64 s4, .int .i64 s5], .bool q, .int .i64 (IntKind.i64.wrap ((IntKind.i64.wrap ((IntKind.i64.wrap ((IntKind.i64.wrap (8 + s2)) + (IntKind.i64.wrap (s2 * s3)))) + s4)) + (IntKind.i64.wrap ((IntKind.i64.wrap (a - 1)) * (IntKind.i64.wrap (3 + s1))))))] w1 fun e' w' => e' = .returned (.tuple #[.int .i64 v, .int .i64 e]) ∧ Below w1.heap.size w1 w')) (w : World) : Calls Tryz.prog 62 #[.agg #[.int .i64 s0, .int .i64 s1, .int .i64 s2, .int .i64 s3, .int .i64 s4, .int .i64 s5], .int .i64 a] w fun e' w' => e' = .returned (.tuple #[.int .i64 v, .int .i64 e]) ∧ Below w.heap.size w w' := by
  obtain ⟨W0, hW0, B0, K⟩ := box w s0 s1 s2 s3 s4 s5
  have HB := hide B0
  obtain ⟨-, l0, x0, x1, x2, x3, x4, x5⟩ := K.out W0 (Below.refl _ _)
  clear B0
  go_enter Tryz.func62, Tryz.ntmps62
  go_wp2_with fail
  refine Lt.region (ks := [(0, 6), (1, 7), (2, 8), (3, 9), (4, 10), (5, 11), (6, 12), (7, 13), (8, 14), (9, 15), (10, 16), (11, 17), (12, 18), (13, 19), (14, 20), (15, 21), (16, 22), (17, 23), (18, 24), (19, 25), (20, 26), (21, 27), (22, 28), (23, 29), (24, 30), (25, 31), (26, 32), (27, 4), (28, 5)]) (vals := fun iv => match iv with
      | 0 => .agg #[.int .i64 s0, .int .i64 s1, .int .i64 s2, .int .i64 s3, .int .i64 s4, .int .i64 s5]
      | 1 => .int .i64 a
      | 2 => .pointer (some ⟨w.heap.size, 0, none⟩)
      | 3 => .int .i64 s0
      | 4 => .bool q
      | 5 => .pointer (some ⟨w.heap.size, 2, none⟩)
      | 6 => .int .i64 s2
      | 7 => .int .i64 (IntKind.i64.wrap (8 + s2))
      | 8 => .pointer (some ⟨w.heap.size, 2, none⟩)
      | 9 => .int .i64 s2
      | 10 => .pointer (some ⟨w.heap.size, 3, none⟩)
      | 11 => .int .i64 s3
      | 12 => .int .i64 (IntKind.i64.wrap (s2 * s3))
      | 13 => .int .i64 (IntKind.i64.wrap ((IntKind.i64.wrap (8 + s2)) + (IntKind.i64.wrap (s2 * s3))))
      | 14 => .pointer (some ⟨w.heap.size, 4, none⟩)
      | 15 => .int .i64 s4
      | 16 => .int .i64 (IntKind.i64.wrap ((IntKind.i64.wrap ((IntKind.i64.wrap (8 + s2)) + (IntKind.i64.wrap (s2 * s3)))) + s4))
      | 17 => .int .i64 a
      | 18 => .int .i64 (IntKind.i64.wrap (a - 1))
      | 19 => .pointer (some ⟨w.heap.size, 1, none⟩)
      | 20 => .int .i64 s1
      | 21 => .int .i64 (IntKind.i64.wrap (3 + s1))
      | 22 => .int .i64 (IntKind.i64.wrap ((IntKind.i64.wrap (a - 1)) * (IntKind.i64.wrap (3 + s1))))
      | 23 => .int .i64 (IntKind.i64.wrap ((IntKind.i64.wrap ((IntKind.i64.wrap ((IntKind.i64.wrap (8 + s2)) + (IntKind.i64.wrap (s2 * s3)))) + s4)) + (IntKind.i64.wrap ((IntKind.i64.wrap (a - 1)) * (IntKind.i64.wrap (3 + s1))))))
      | 24 => .tuple #[.int .i64 v, .int .i64 e]
      | 25 => .int .i64 v
      | 26 => .int .i64 e
      | 27 => .int .i64 v
      | 28 => .int .i64 e
      | _ => undef) (WI := fun w' => Below W0.heap.size W0 w') (by kernel_rfl) ?bk rfl ?dd (⟨rfl, rfl, rfl, Nat.le_refl _, fun _ _ => rfl⟩) ?does ?fin
  case bk =>
    intro iq oq ho
    have hiq : iq < 29 := by have := (Array.getElem?_eq_some_iff.1 ho).1; simpa using this
    match iq, hiq with
    | 0, _ | 1, _ | 2, _ | 3, _ | 4, _ | 5, _ | 6, _ | 7, _ | 8, _ | 9, _ | 10, _ | 11, _ | 12, _ | 13, _ | 14, _ | 15, _ | 16, _ | 17, _ | 18, _ | 19, _ | 20, _ | 21, _ | 22, _ | 23, _ | 24, _ | 25, _ | 26, _ | 27, _ | 28, _ => injection ho with ho; subst ho; simp [Region.binds]
  case dd =>
    intro k hk
    have hk' : k < 33 := by
      simp [Lt.D] at hk
      omega
    simpa using hk'
  case does =>
    intro iq oq ho
    have hiq : iq < 29 := by have := (Array.getElem?_eq_some_iff.1 ho).1; simpa using this
    match iq, hiq with
    | 0, _ => injection ho with ho; subst ho; exact Lt.Does.read rfl (fun Lq aq w' hI hq => Lt.wn0 rfl) (fun Lq aq w' hI hq => Lt.ex_load_row rfl (hI.fix 2 (Lt.notD rfl)) (by obtain ⟨-, -, y0, y1, y2, y3, y4, y5⟩ := K.out w' hI.world; exact rng y0 y1 y2 y3 y4 y5) (by kernel_rfl) (by kernel_rfl))
    | 1, _ => injection ho with ho; subst ho; exact Lt.Does.read rfl (fun Lq aq w' hI hq => Lt.wn0 rfl) (fun Lq aq w' hI hq => Lt.ex_move rfl (hI.fix 1 (Lt.notD rfl)))
    | 2, _ => injection ho with ho; subst ho; exact Lt.Does.read rfl (fun Lq aq w' hI hq => Lt.wn0 rfl) (fun Lq aq w' hI hq => Lt.ex_field rfl (hI.fix 2 (Lt.notD rfl)) (by simp [go_sem]))
    | 3, _ => injection ho with ho; subst ho; exact Lt.Does.read rfl (fun Lq aq w' hI hq => Lt.wn0 rfl) (fun Lq aq w' hI hq => Lt.ex_load rfl (hI.pure 2 _ _ rfl (hq ⟨2, .data⟩ (by simp) rfl)) (by simp [go_sem]) (by obtain ⟨-, -, y0, y1, y2, y3, y4, y5⟩ := K.out w' hI.world; exact y0))
    | 4, _ => injection ho with ho; subst ho; exact Lt.Does.call rfl (fun Lq aq w' hI hq => Lt.wn0 rfl) (fun Lq aq w' hI hq => Lt.call3 rfl (hI.pure 1 _ _ rfl (hq ⟨1, .data⟩ (by simp) rfl)) rfl (hI.pure 3 _ _ rfl (hq ⟨3, .data⟩ (by simp) rfl)) rfl (by simp [go_sem])) (fun w1 hw1 => (T1.out w1).mono (by rintro e w2 ⟨rfl, hw2⟩; obtain rfl := hw2.symm; exact ⟨rfl, hw1⟩))
    | 5, _ => injection ho with ho; subst ho; exact Lt.Does.read rfl (fun Lq aq w' hI hq => Lt.wn0 rfl) (fun Lq aq w' hI hq => Lt.ex_field rfl (hI.fix 2 (Lt.notD rfl)) (by simp [go_sem]))
    | 6, _ => injection ho with ho; subst ho; exact Lt.Does.read rfl (fun Lq aq w' hI hq => Lt.wn0 rfl) (fun Lq aq w' hI hq => Lt.ex_load rfl (hI.pure 5 _ _ rfl (hq ⟨5, .data⟩ (by simp) rfl)) (by simp [go_sem]) (by obtain ⟨-, -, y0, y1, y2, y3, y4, y5⟩ := K.out w' hI.world; exact y2))
    | 7, _ => injection ho with ho; subst ho; exact Lt.Does.read rfl (fun Lq aq w' hI hq => Lt.wn0 rfl) (fun Lq aq w' hI hq => Lt.ex_addI rfl rfl (hI.pure 6 _ _ rfl (hq ⟨6, .data⟩ (by simp) rfl)) rfl)
    | 8, _ => injection ho with ho; subst ho; exact Lt.Does.read rfl (fun Lq aq w' hI hq => Lt.wn0 rfl) (fun Lq aq w' hI hq => Lt.ex_field rfl (hI.fix 2 (Lt.notD rfl)) (by simp [go_sem]))
    | 9, _ => injection ho with ho; subst ho; exact Lt.Does.read rfl (fun Lq aq w' hI hq => Lt.wn0 rfl) (fun Lq aq w' hI hq => Lt.ex_load rfl (hI.pure 8 _ _ rfl (hq ⟨8, .data⟩ (by simp) rfl)) (by simp [go_sem]) (by obtain ⟨-, -, y0, y1, y2, y3, y4, y5⟩ := K.out w' hI.world; exact y2))
    | 10, _ => injection ho with ho; subst ho; exact Lt.Does.read rfl (fun Lq aq w' hI hq => Lt.wn0 rfl) (fun Lq aq w' hI hq => Lt.ex_field rfl (hI.fix 2 (Lt.notD rfl)) (by simp [go_sem]))
    | 11, _ => injection ho with ho; subst ho; exact Lt.Does.read rfl (fun Lq aq w' hI hq => Lt.wn0 rfl) (fun Lq aq w' hI hq => Lt.ex_load rfl (hI.pure 10 _ _ rfl (hq ⟨10, .data⟩ (by simp) rfl)) (by simp [go_sem]) (by obtain ⟨-, -, y0, y1, y2, y3, y4, y5⟩ := K.out w' hI.world; exact y3))
    | 12, _ => injection ho with ho; subst ho; exact Lt.Does.read rfl (fun Lq aq w' hI hq => Lt.wn0 rfl) (fun Lq aq w' hI hq => Lt.ex_mulI rfl (hI.pure 9 _ _ rfl (hq ⟨9, .data⟩ (by simp) rfl)) (hI.pure 11 _ _ rfl (hq ⟨11, .data⟩ (by simp) rfl)) rfl)
    | 13, _ => injection ho with ho; subst ho; exact Lt.Does.read rfl (fun Lq aq w' hI hq => Lt.wn0 rfl) (fun Lq aq w' hI hq => Lt.ex_addI rfl (hI.pure 7 _ _ rfl (hq ⟨7, .data⟩ (by simp) rfl)) (hI.pure 12 _ _ rfl (hq ⟨12, .data⟩ (by simp) rfl)) rfl)
    | 14, _ => injection ho with ho; subst ho; exact Lt.Does.read rfl (fun Lq aq w' hI hq => Lt.wn0 rfl) (fun Lq aq w' hI hq => Lt.ex_field rfl (hI.fix 2 (Lt.notD rfl)) (by simp [go_sem]))
    | 15, _ => injection ho with ho; subst ho; exact Lt.Does.read rfl (fun Lq aq w' hI hq => Lt.wn0 rfl) (fun Lq aq w' hI hq => Lt.ex_load rfl (hI.pure 14 _ _ rfl (hq ⟨14, .data⟩ (by simp) rfl)) (by simp [go_sem]) (by obtain ⟨-, -, y0, y1, y2, y3, y4, y5⟩ := K.out w' hI.world; exact y4))
    | 16, _ => injection ho with ho; subst ho; exact Lt.Does.read rfl (fun Lq aq w' hI hq => Lt.wn0 rfl) (fun Lq aq w' hI hq => Lt.ex_addI rfl (hI.pure 13 _ _ rfl (hq ⟨13, .data⟩ (by simp) rfl)) (hI.pure 15 _ _ rfl (hq ⟨15, .data⟩ (by simp) rfl)) rfl)
    | 17, _ => injection ho with ho; subst ho; exact Lt.Does.read rfl (fun Lq aq w' hI hq => Lt.wn0 rfl) (fun Lq aq w' hI hq => Lt.ex_move rfl (hI.fix 1 (Lt.notD rfl)))
    | 18, _ => injection ho with ho; subst ho; exact Lt.Does.read rfl (fun Lq aq w' hI hq => Lt.wn0 rfl) (fun Lq aq w' hI hq => Lt.ex_subI rfl (hI.pure 17 _ _ rfl (hq ⟨17, .data⟩ (by simp) rfl)) rfl rfl)
    | 19, _ => injection ho with ho; subst ho; exact Lt.Does.read rfl (fun Lq aq w' hI hq => Lt.wn0 rfl) (fun Lq aq w' hI hq => Lt.ex_field rfl (hI.fix 2 (Lt.notD rfl)) (by simp [go_sem]))
    | 20, _ => injection ho with ho; subst ho; exact Lt.Does.read rfl (fun Lq aq w' hI hq => Lt.wn0 rfl) (fun Lq aq w' hI hq => Lt.ex_load rfl (hI.pure 19 _ _ rfl (hq ⟨19, .data⟩ (by simp) rfl)) (by simp [go_sem]) (by obtain ⟨-, -, y0, y1, y2, y3, y4, y5⟩ := K.out w' hI.world; exact y1))
    | 21, _ => injection ho with ho; subst ho; exact Lt.Does.read rfl (fun Lq aq w' hI hq => Lt.wn0 rfl) (fun Lq aq w' hI hq => Lt.ex_addI rfl rfl (hI.pure 20 _ _ rfl (hq ⟨20, .data⟩ (by simp) rfl)) rfl)
    | 22, _ => injection ho with ho; subst ho; exact Lt.Does.read rfl (fun Lq aq w' hI hq => Lt.wn0 rfl) (fun Lq aq w' hI hq => Lt.ex_mulI rfl (hI.pure 18 _ _ rfl (hq ⟨18, .data⟩ (by simp) rfl)) (hI.pure 21 _ _ rfl (hq ⟨21, .data⟩ (by simp) rfl)) rfl)
    | 23, _ => injection ho with ho; subst ho; exact Lt.Does.read rfl (fun Lq aq w' hI hq => Lt.wn0 rfl) (fun Lq aq w' hI hq => Lt.ex_addI rfl (hI.pure 16 _ _ rfl (hq ⟨16, .data⟩ (by simp) rfl)) (hI.pure 22 _ _ rfl (hq ⟨22, .data⟩ (by simp) rfl)) rfl)
    | 24, _ => injection ho with ho; subst ho; exact Lt.Does.call rfl (fun Lq aq w' hI hq => Lt.wn0 rfl) (fun Lq aq w' hI hq => Lt.call3 rfl (hI.pure 0 _ _ rfl (hq ⟨0, .data⟩ (by simp) rfl)) (hI.pure 4 _ _ rfl (hq ⟨4, .data⟩ (by simp) rfl)) (hI.pure 23 _ _ rfl (hq ⟨23, .data⟩ (by simp) rfl)) rfl (by simp [go_sem])) (fun w1 hw1 => (PL.out w1).mono (by rintro e w2 ⟨rfl, hb⟩; exact ⟨rfl, hw1.trans (hb.mono hw1.size)⟩))
    | 25, _ => injection ho with ho; subst ho; exact Lt.Does.read rfl (fun Lq aq w' hI hq => Lt.wn0 rfl) (fun Lq aq w' hI hq => Lt.ex_extract rfl (hI.pure 24 _ _ rfl (hq ⟨24, .data⟩ (by simp) rfl)) rfl)
    | 26, _ => injection ho with ho; subst ho; exact Lt.Does.read rfl (fun Lq aq w' hI hq => Lt.wn0 rfl) (fun Lq aq w' hI hq => Lt.ex_extract rfl (hI.pure 24 _ _ rfl (hq ⟨24, .data⟩ (by simp) rfl)) rfl)
    | 27, _ => injection ho with ho; subst ho; exact Lt.Does.read rfl (fun Lq aq w' hI hq => Lt.wn0 rfl) (fun Lq aq w' hI hq => Lt.ex_assign rfl (hI.pure 25 _ _ rfl (hq ⟨25, .data⟩ (by simp) rfl)))
    | 28, _ => injection ho with ho; subst ho; exact Lt.Does.read rfl (fun Lq aq w' hI hq => Lt.wn0 rfl) (fun Lq aq w' hI hq => Lt.ex_assign rfl (hI.pure 26 _ _ rfl (hq ⟨26, .data⟩ (by simp) rfl)))
  case fin =>
    intro Lq a' w' hI hall
    have hw := hI.world
    obtain rfl : a' = ⟨#[.agg #[.int .i64 s0, .int .i64 s1, .int .i64 s2, .int .i64 s3, .int .i64 s4, .int .i64 s5], .int .i64 a, .pointer (some ⟨w.heap.size, 0, none⟩), undef, .int .i64 v, .int .i64 e, .agg #[.int .i64 s0, .int .i64 s1, .int .i64 s2, .int .i64 s3, .int .i64 s4, .int .i64 s5], .int .i64 a, .pointer (some ⟨w.heap.size, 0, none⟩), .int .i64 s0, .bool q, .pointer (some ⟨w.heap.size, 2, none⟩), .int .i64 s2, .int .i64 (IntKind.i64.wrap (8 + s2)), .pointer (some ⟨w.heap.size, 2, none⟩), .int .i64 s2, .pointer (some ⟨w.heap.size, 3, none⟩), .int .i64 s3, .int .i64 (IntKind.i64.wrap (s2 * s3)), .int .i64 (IntKind.i64.wrap ((IntKind.i64.wrap (8 + s2)) + (IntKind.i64.wrap (s2 * s3)))), .pointer (some ⟨w.heap.size, 4, none⟩), .int .i64 s4, .int .i64 (IntKind.i64.wrap ((IntKind.i64.wrap ((IntKind.i64.wrap (8 + s2)) + (IntKind.i64.wrap (s2 * s3)))) + s4)), .int .i64 a, .int .i64 (IntKind.i64.wrap (a - 1)), .pointer (some ⟨w.heap.size, 1, none⟩), .int .i64 s1, .int .i64 (IntKind.i64.wrap (3 + s1)), .int .i64 (IntKind.i64.wrap ((IntKind.i64.wrap (a - 1)) * (IntKind.i64.wrap (3 + s1)))), .int .i64 (IntKind.i64.wrap ((IntKind.i64.wrap ((IntKind.i64.wrap ((IntKind.i64.wrap (8 + s2)) + (IntKind.i64.wrap (s2 * s3)))) + s4)) + (IntKind.i64.wrap ((IntKind.i64.wrap (a - 1)) * (IntKind.i64.wrap (3 + s1)))))), .tuple #[.int .i64 v, .int .i64 e], .int .i64 v, .int .i64 e], []⟩ := Lt.act_eq a' [.agg #[.int .i64 s0, .int .i64 s1, .int .i64 s2, .int .i64 s3, .int .i64 s4, .int .i64 s5], .int .i64 a, .pointer (some ⟨w.heap.size, 0, none⟩), undef, .int .i64 v, .int .i64 e, .agg #[.int .i64 s0, .int .i64 s1, .int .i64 s2, .int .i64 s3, .int .i64 s4, .int .i64 s5], .int .i64 a, .pointer (some ⟨w.heap.size, 0, none⟩), .int .i64 s0, .bool q, .pointer (some ⟨w.heap.size, 2, none⟩), .int .i64 s2, .int .i64 (IntKind.i64.wrap (8 + s2)), .pointer (some ⟨w.heap.size, 2, none⟩), .int .i64 s2, .pointer (some ⟨w.heap.size, 3, none⟩), .int .i64 s3, .int .i64 (IntKind.i64.wrap (s2 * s3)), .int .i64 (IntKind.i64.wrap ((IntKind.i64.wrap (8 + s2)) + (IntKind.i64.wrap (s2 * s3)))), .pointer (some ⟨w.heap.size, 4, none⟩), .int .i64 s4, .int .i64 (IntKind.i64.wrap ((IntKind.i64.wrap ((IntKind.i64.wrap (8 + s2)) + (IntKind.i64.wrap (s2 * s3)))) + s4)), .int .i64 a, .int .i64 (IntKind.i64.wrap (a - 1)), .pointer (some ⟨w.heap.size, 1, none⟩), .int .i64 s1, .int .i64 (IntKind.i64.wrap (3 + s1)), .int .i64 (IntKind.i64.wrap ((IntKind.i64.wrap (a - 1)) * (IntKind.i64.wrap (3 + s1)))), .int .i64 (IntKind.i64.wrap ((IntKind.i64.wrap ((IntKind.i64.wrap ((IntKind.i64.wrap (8 + s2)) + (IntKind.i64.wrap (s2 * s3)))) + s4)) + (IntKind.i64.wrap ((IntKind.i64.wrap (a - 1)) * (IntKind.i64.wrap (3 + s1)))))), .tuple #[.int .i64 v, .int .i64 e], .int .i64 v, .int .i64 e] hI.df (by rw [hI.sz]; rfl) (fun k hk => by
      have hk' : k < 33 := hk
      match k, hk' with
      | 0, _ => exact hI.fix 0 (Lt.notD rfl)
      | 1, _ => exact hI.fix 1 (Lt.notD rfl)
      | 2, _ => exact hI.fix 2 (Lt.notD rfl)
      | 3, _ => exact hI.fix 3 (Lt.notD rfl)
      | 4, _ => exact hI.pure 27 4 _ rfl (hall 27 (by decide))
      | 5, _ => exact hI.pure 28 5 _ rfl (hall 28 (by decide))
      | 6, _ => exact hI.pure 0 6 _ rfl (hall 0 (by decide))
      | 7, _ => exact hI.pure 1 7 _ rfl (hall 1 (by decide))
      | 8, _ => exact hI.pure 2 8 _ rfl (hall 2 (by decide))
      | 9, _ => exact hI.pure 3 9 _ rfl (hall 3 (by decide))
      | 10, _ => exact hI.pure 4 10 _ rfl (hall 4 (by decide))
      | 11, _ => exact hI.pure 5 11 _ rfl (hall 5 (by decide))
      | 12, _ => exact hI.pure 6 12 _ rfl (hall 6 (by decide))
      | 13, _ => exact hI.pure 7 13 _ rfl (hall 7 (by decide))
      | 14, _ => exact hI.pure 8 14 _ rfl (hall 8 (by decide))
      | 15, _ => exact hI.pure 9 15 _ rfl (hall 9 (by decide))
      | 16, _ => exact hI.pure 10 16 _ rfl (hall 10 (by decide))
      | 17, _ => exact hI.pure 11 17 _ rfl (hall 11 (by decide))
      | 18, _ => exact hI.pure 12 18 _ rfl (hall 12 (by decide))
      | 19, _ => exact hI.pure 13 19 _ rfl (hall 13 (by decide))
      | 20, _ => exact hI.pure 14 20 _ rfl (hall 14 (by decide))
      | 21, _ => exact hI.pure 15 21 _ rfl (hall 15 (by decide))
      | 22, _ => exact hI.pure 16 22 _ rfl (hall 16 (by decide))
      | 23, _ => exact hI.pure 17 23 _ rfl (hall 17 (by decide))
      | 24, _ => exact hI.pure 18 24 _ rfl (hall 18 (by decide))
      | 25, _ => exact hI.pure 19 25 _ rfl (hall 19 (by decide))
      | 26, _ => exact hI.pure 20 26 _ rfl (hall 20 (by decide))
      | 27, _ => exact hI.pure 21 27 _ rfl (hall 21 (by decide))
      | 28, _ => exact hI.pure 22 28 _ rfl (hall 22 (by decide))
      | 29, _ => exact hI.pure 23 29 _ rfl (hall 23 (by decide))
      | 30, _ => exact hI.pure 24 30 _ rfl (hall 24 (by decide))
      | 31, _ => exact hI.pure 25 31 _ rfl (hall 25 (by decide))
      | 32, _ => exact hI.pure 26 32 _ rfl (hall 26 (by decide))
      | q + 33, hq => exact absurd hq (by omega))
    rename_i K2 hK2
    refine hK2 _ _ ?_
    go_wp2_with fail
    go_ret2
    exact ⟨rfl, (K.out _ hw).1⟩
end Shape
end
section
namespace Rom
open Hp
theorem rwithin_q {n lo hi : Int} {q : Bool} (h : decide (lo ≤ n ∧ n ≤ hi) = q) (w : World) : Calls Tryz.prog 48 #[.int .i64 n, .int .i64 lo, .int .i64 hi] w fun e w' => e = .returned (.bool q) ∧ w' = w := by
 rw [← h]; exact Shape.rwithin_any w
theorem robject_no {sh : Shp} (h : Shape.R5 sh.a sh.b sh.c sh.d sh.e) {i : Int} (ht : ¬ there sh i) (w : World) : Calls Tryz.prog 62 #[sh.val, .int .i64 i] w fun e w' => e = .returned (.tuple #[.int .i64 0, .int .i64 2]) ∧ Below w.heap.size w w' :=
 Shape.robject_of (q := false) (hide (fun w1 => rwithin_q (decide_eq_false ht) w1)) (hide (fun w1 => Shape.place_arg h _ w1)) w
theorem robject_yes {sh : Shp} (h : Shape.R5 sh.a sh.b sh.c sh.d sh.e) {i : Int} (ht : there sh i) (w : World) : Calls Tryz.prog 62 #[sh.val, .int .i64 i] w fun e w' => e = .returned (.tuple #[.int .i64 (headAt sh i), .int .i64 0]) ∧ Below w.heap.size w w' := by
 refine Shape.robject_of (q := true) (hide (fun w1 => rwithin_q (decide_eq_true ht) w1)) (hide (fun w1 => ?_)) w
 have e : IntKind.i64.wrap (IntKind.i64.wrap (IntKind.i64.wrap (IntKind.i64.wrap (8 + sh.c) + IntKind.i64.wrap (sh.c * sh.d)) + sh.e) + IntKind.i64.wrap (IntKind.i64.wrap (i - 1) * IntKind.i64.wrap (3 + sh.b))) = headAt sh i := by
  unfold headAt
  rw [if_pos ht]
  obtain ⟨⟨a1, a2⟩, ⟨b1, b2⟩, ⟨c1, c2⟩, ⟨d1, d2⟩, f1, f2⟩ := h
  have p1 : 0 ≤ sh.c * sh.d ∧ sh.c * sh.d ≤ 7 * 8 := ⟨Int.mul_nonneg (by omega) (by omega), Int.mul_le_mul c2 d2 (by omega) (by omega)⟩
  have p2 : 0 ≤ (i - 1) * (3 + sh.b) ∧ (i - 1) * (3 + sh.b) ≤ 64 * 7 := ⟨Int.mul_nonneg (by have := ht.1; omega) (by omega), Int.mul_le_mul (by have := ht.2; omega) (by omega) (by omega) (by omega)⟩
  have i1 := ht.1
  have i2 := ht.2
  obtain ⟨p, hp⟩ : ∃ p, sh.c * sh.d = p := ⟨_, rfl⟩
  obtain ⟨q, hq⟩ : ∃ q, (i - 1) * (3 + sh.b) = q := ⟨_, rfl⟩
  rw [hp] at p1
  rw [hq] at p2
  rw [Shape.wI (x := i - 1) (by omega) (by omega), Shape.wI (x := 3 + sh.b) (by omega) (by omega), Shape.wI (x := 8 + sh.c) (by omega) (by omega), hp, hq, Shape.wI (x := p) (by omega) (by omega), Shape.wI (x := q) (by omega) (by omega), Shape.wI (x := 8 + sh.c + p) (by omega) (by omega), Shape.wI (x := 8 + sh.c + p + sh.e) (by omega) (by omega), Shape.wI (by omega) (by omega)]
 have K := Shape.place_ok (s5 := sh.f) h (IntKind.i64.wrap (IntKind.i64.wrap (IntKind.i64.wrap (IntKind.i64.wrap (8 + sh.c) + IntKind.i64.wrap (sh.c * sh.d)) + sh.e) + IntKind.i64.wrap (IntKind.i64.wrap (i - 1) * IntKind.i64.wrap (3 + sh.b)))) w1
 rw [e] at K ⊢
 exact K
theorem rhead_any {sh : Shp} (h : Shape.R5 sh.a sh.b sh.c sh.d sh.e) (i : Int) (w : World) : Calls Tryz.prog 33 #[sh.val, .int .i64 i] w fun e w' => e = .returned (.int .i64 (headAt sh i)) ∧ Below w.heap.size w w' := by
 by_cases ht : there sh i
 ·have OB := hide (fun w1 : World => robject_yes h ht w1)
  obtain ⟨p, hp⟩ : ∃ p, headAt sh i = p := ⟨_, rfl⟩
  rw [hp] at OB ⊢
  clear h ht hp
  obtain ⟨s0, s1, s2, s3, s4, s5⟩ := sh
  simp only [Shp.val] at OB ⊢
  obtain ⟨W0, hW0, B0, K⟩ := Shape.box w s0 s1 s2 s3 s4 s5
  have HB := hide B0
  obtain ⟨-, l0, x0, x1, x2, x3, x4, x5⟩ := K.out W0 (Below.refl _ _)
  clear B0
  go_enter Tryz.func33, Tryz.ntmps33
  go_wp2_with (go_at_call 62; refine (OB.out _).mono ?_; rintro e w1 ⟨rfl, hb1⟩; have HB1 := hide (HB.out.trans (hb1.mono HB.out.size)); clear hb1)
  go_ret
  exact ⟨rfl, HB1.out⟩
 ·have OB := hide (fun w1 : World => robject_no h ht w1)
  rw [show headAt sh i = -1 from by simp [headAt, ht]]
  clear h ht
  obtain ⟨s0, s1, s2, s3, s4, s5⟩ := sh
  simp only [Shp.val] at OB ⊢
  obtain ⟨W0, hW0, B0, K⟩ := Shape.box w s0 s1 s2 s3 s4 s5
  have HB := hide B0
  obtain ⟨-, l0, x0, x1, x2, x3, x4, x5⟩ := K.out W0 (Below.refl _ _)
  clear B0
  go_enter Tryz.func33, Tryz.ntmps33
  go_wp2_with (go_at_call 62; refine (OB.out _).mono ?_; rintro e w1 ⟨rfl, hb1⟩; have HB1 := hide (HB.out.trans (hb1.mono HB.out.size)); clear hb1)
  go_ret
  exact ⟨rfl, HB1.out⟩
theorem head_cases {sh : Shp} (h : Shape.R5 sh.a sh.b sh.c sh.d sh.e) (i : Int) : (there sh i ∧ 8 ≤ headAt sh i ∧ headAt sh i ≤ 1000 ∧ linkAt sh i = headAt sh i + 1) ∨ (¬ there sh i ∧ headAt sh i = -1 ∧ linkAt sh i = -1) := by
 by_cases ht : there sh i
 ·refine .inl ⟨ht, ?_⟩
  unfold headAt linkAt
  rw [if_pos ht, if_pos ht]
  obtain ⟨⟨a1, a2⟩, ⟨b1, b2⟩, ⟨c1, c2⟩, ⟨d1, d2⟩, f1, f2⟩ := h
  have p1 : 0 ≤ sh.c * sh.d ∧ sh.c * sh.d ≤ 7 * 8 := ⟨Int.mul_nonneg (by omega) (by omega), Int.mul_le_mul c2 d2 (by omega) (by omega)⟩
  have p2 : 0 ≤ (i - 1) * (3 + sh.b) ∧ (i - 1) * (3 + sh.b) ≤ 64 * 7 := ⟨Int.mul_nonneg (by have := ht.1; omega) (by omega), Int.mul_le_mul (by have := ht.2; omega) (by omega) (by omega) (by omega)⟩
  omega
 ·exact .inr ⟨ht, by simp [headAt, ht], by simp [linkAt, ht]⟩
def besideAt (sh : Shp) (i k : Int) : Int := if there sh i then headAt sh i + k else -1
theorem beside_link {sh : Shp} (h : Shape.R5 sh.a sh.b sh.c sh.d sh.e) (i : Int) : besideAt sh i 1 = linkAt sh i := by
 unfold besideAt
 rcases head_cases h i with ⟨h1, _, _, h4⟩ | ⟨h1, h2, h3⟩
 ·rw [if_pos h1, h4]
 ·rw [if_neg h1, h3]
theorem beside_slot {sh : Shp} (h : Shape.R5 sh.a sh.b sh.c sh.d sh.e) {i s : Int} (hs : slotIn sh i s) : besideAt sh i (3 + s) = slotAt sh i s := by
 unfold besideAt
 rw [if_pos hs.1, slot_bd h hs]
 omega
theorem rbeside_any {sh : Shp} (h : Shape.R5 sh.a sh.b sh.c sh.d sh.e) (i k : Int) (hk : 0 ≤ k ∧ k ≤ 100) (w : World) : Calls Tryz.prog 81 #[sh.val, .int .i64 i, .int .i64 k] w fun e w' => e = .returned (.int .i64 (besideAt sh i k)) ∧ Below w.heap.size w w' := by
 have OB := hide (fun w1 : World => rhead_any h i w1)
 rcases head_cases h i with ⟨h1, h2, h3, h4⟩ | ⟨h1, h2, h3⟩
 ·rw [show besideAt sh i k = headAt sh i + k from by unfold besideAt; rw [if_pos h1]]
  obtain ⟨p, hp⟩ : ∃ p, headAt sh i = p := ⟨_, rfl⟩
  rw [hp] at OB h2 h3 ⊢
  clear h h1 hp h4
  obtain ⟨s0, s1, s2, s3, s4, s5⟩ := sh
  simp only [Shp.val] at OB ⊢
  have g1 : wrap64 (p + k) = p + k := by unfold wrap64; omega
  have g2 : decide (p < 0) = false := by simp; omega
  obtain ⟨W0, hW0, B0, K⟩ := Shape.box w s0 s1 s2 s3 s4 s5
  have HB := hide B0
  obtain ⟨-, l0, x0, x1, x2, x3, x4, x5⟩ := K.out W0 (Below.refl _ _)
  clear B0
  go_enter Tryz.func81, Tryz.ntmps81
  go_wp2_with (go_at_call 33; refine (OB.out _).mono ?_; rintro e w1 ⟨rfl, hb1⟩; have HB1 := hide (HB.out.trans (hb1.mono HB.out.size)); clear hb1)
  go_ret
  exact ⟨rfl, HB1.out⟩
 ·rw [show besideAt sh i k = -1 from by unfold besideAt; rw [if_neg h1]]
  rw [h2] at OB
  clear h h1 h2 h3
  obtain ⟨s0, s1, s2, s3, s4, s5⟩ := sh
  simp only [Shp.val] at OB ⊢
  obtain ⟨W0, hW0, B0, K⟩ := Shape.box w s0 s1 s2 s3 s4 s5
  have HB := hide B0
  obtain ⟨-, l0, x0, x1, x2, x3, x4, x5⟩ := K.out W0 (Below.refl _ _)
  clear B0
  go_enter Tryz.func81, Tryz.ntmps81
  go_wp2_with (go_at_call 33; refine (OB.out _).mono ?_; rintro e w1 ⟨rfl, hb1⟩; have HB1 := hide (HB.out.trans (hb1.mono HB.out.size)); clear hb1)
  go_ret
  exact ⟨rfl, HB1.out⟩
end Rom
end
end Go.Proofs.YtmikhglnomgbfaaGreat
