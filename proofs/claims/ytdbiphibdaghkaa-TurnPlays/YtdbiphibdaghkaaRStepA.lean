/-
  The reference's tasks of one act: StepAct.
-/
import Derived.Test.YtdbiphibdaghkaaRTk
import Derived.Test.YtdbiphibdaghkaaRef
import Derived.Test.YtdbiphibdaghkaaRRet
import Derived.Test.YtdbiphibdaghkaaRDone3
import Derived.Deep.RegionHeld
namespace Go.Proofs.Ytdbiphibdaghkaa
open Go.RowKit
set_option linter.unusedVariables false
set_option linter.unusedSimpArgs false
set_option linter.unnecessarySimpa false
set_option maxRecDepth 20000

theorem size46 : (Try.prog.info? 46).map (·.size) = some 6 := by kernel_rfl
theorem row46 : ∃ d, Try.prog.underlying 46 = some d ∧ d.isRow = true := by
  have h : (Try.prog.underlying 46).map (fun d => d.isRow) = some true := by kernel_rfl
  exact Option.map_eq_some_iff.1 h

theorem lrow_set {l : List Value} {i : Nat} {v : Value} (hi : i < l.length) : (fun j => if j = i then v else lrow l j) = lrow (l.set i v) := by
  funext q
  unfold lrow
  by_cases h : q = i
  · subst h; simp [hi]
  · simp [h, List.getElem?_set, Ne.symm h]
/-- A row of cells that is a list: written, and seen as a range. -/
theorem rowIs.setL {w : World} {b : Nat} {t : TypeId} {n : Nat} {l : List Value} (h : w.rowIs b t n (lrow l)) {i : Nat} (hi : i < l.length) (v : Value) : (w.setCell ⟨b, i, none⟩ v).rowIs b t n (lrow (l.set i v)) := by
  have := h.set i v
  rwa [lrow_set hi] at this
theorem rowIs.range {w : World} {b : Nat} {t : TypeId} {n : Nat} {l : List Value} (h : w.rowIs b t n (lrow l)) (hl : l.length = n) : w.rangeAt b 0 l := fun j v hv => by
  have hj := (List.getElem?_eq_some_iff.1 hv).1
  rw [Nat.zero_add, h.cell (i := j) (by omega), lrow_of hv]
theorem rowL_alloc (w : World) (l : List Value) (t : TypeId) {n : Nat} (hn : l.length = n) : (w.alloc (.cells l.toArray t)).rowIs w.heap.size t n (lrow l) := World.rowIs_alloc' w l.toArray t n (by simpa using hn) (fun i hi => by simp [lrow, hn, hi])

set_option maxHeartbeats 4000000 in
theorem stepA_any {w : World} {g n cap : Nat} {f : Nat → Int} (sh : Shp) (s : ActS) (hr : IsRow w g n cap f) (hk : kAct.err s.j = 0) (hw : s.j.wf) :
    Calls Try.prog 38 #[.agg (tk sh s.hand s.j 0 .zero s.told).toArray, .slice (some ⟨g, 0, none⟩) n cap] w fun e w' =>
      e = .returned (.tuple #[.agg (tk sh s.hand s.j 0 .zero (kAct.next s (stepOf n f (kAct.req s))).told).toArray, (stepOf n f (kAct.req s)).val, .bool true]) ∧ IsRow w' g n cap (wordsOf n f (kAct.req s)) ∧ w.grownBy w' (some g) := by
  obtain ⟨s0, s1, s2, s3, s4, s5⟩ := sh
  obtain ⟨hand, ⟨kind, a, b, c, hh⟩, ⟨ok, val⟩⟩ := s
  have hk5 : 1 ≤ kind ∧ kind ≤ 5 := by simp only [kAct] at hk; split at hk; cases hk; omega
  obtain ⟨x, hx⟩ : ∃ x, stepOf n f (kAct.req ⟨hand, ⟨kind, a, b, c, hh⟩, ⟨ok, val⟩⟩) = x := ⟨_, rfl⟩
  rw [hx]
  obtain ⟨f', hf'⟩ : ∃ f', wordsOf n f (kAct.req ⟨hand, ⟨kind, a, b, c, hh⟩, ⟨ok, val⟩⟩) = f' := ⟨_, rfl⟩
  rw [hf']
  have DO := hide (fun (w' : World) (hr' : IsRow w' g n cap f) => ref_do (s := ⟨hand, kind, a, b % 18446744073709551616, hh, true⟩) hr' hw hk5)
  have HX : Hid (stepOf n f ⟨hand, kind, a, b % 18446744073709551616, hh, true⟩ = x) := hx
  have HF : Hid (wordsOf n f ⟨hand, kind, a, b % 18446744073709551616, hh, true⟩ = f') := hf'
  have hbb : IntKind.u64.wrap b = b % 18446744073709551616 := wrap_u64 b
  have HR := hide hr
  have lg := hr.lt
  have told : (kAct.next ⟨hand, ⟨kind, a, b, c, hh⟩, ⟨ok, val⟩⟩ x).told = ⟨x.ok, x.had⟩ := rfl
  rw [told]
  obtain ⟨l0, hl0⟩ : ∃ l, tk ⟨s0, s1, s2, s3, s4, s5⟩ hand ⟨kind, a, b, c, hh⟩ 0 .zero ⟨ok, val⟩ = l := ⟨_, rfl⟩
  have hl0' : l0.length = 28 := by rw [← hl0]; rfl
  have hset : (l0.set 22 (.bool x.ok)).set 23 (.int .u64 x.had) = tk ⟨s0, s1, s2, s3, s4, s5⟩ hand ⟨kind, a, b, c, hh⟩ 0 .zero ⟨x.ok, x.had⟩ := by rw [← hl0]; rfl
  obtain ⟨l1, hl1⟩ : ∃ l, tk ⟨s0, s1, s2, s3, s4, s5⟩ hand ⟨kind, a, b, c, hh⟩ 0 .zero ⟨x.ok, x.had⟩ = l := ⟨_, rfl⟩
  rw [hl0, hl1]
  rw [hl1] at hset
  have hl1i := hide (show IsTk l1 from by rw [← hl1]; exact tk_is _ _ _ _ _ _)
  obtain ⟨W3, hW3⟩ : ∃ W3, ((w.alloc (.cells l0.toArray 79)).alloc (.cells tk0.toArray 79)).alloc (.cells [Value.int .i64 0, .int .i64 0, .int .i64 0, .int .u64 0, .int .u64 0, .bool false].toArray 46) = W3 := ⟨_, rfl⟩
  have sz3 : W3.heap.size = w.heap.size + 3 := by rw [← hW3]; simp
  have R0 : W3.rowIs w.heap.size 79 28 (lrow l0) := by rw [← hW3]; exact ((rowL_alloc w l0 _ hl0').alloc _).alloc _
  have R1 : W3.rowIs (w.heap.size + 1) 79 28 (lrow tk0) := by
    rw [← hW3]
    have := (rowL_alloc (w.alloc (.cells l0.toArray 79)) tk0 79 (n := 28) rfl).alloc (.cells [Value.int .i64 0, .int .i64 0, .int .i64 0, .int .u64 0, .int .u64 0, .bool false].toArray 46)
    rwa [World.size_alloc] at this
  have R2 : W3.rowIs (w.heap.size + 2) 46 6 (lrow [Value.int .i64 0, .int .i64 0, .int .i64 0, .int .u64 0, .int .u64 0, .bool false]) := by
    rw [← hW3]
    have := rowL_alloc ((w.alloc (.cells l0.toArray 79)).alloc (.cells tk0.toArray 79)) [Value.int .i64 0, .int .i64 0, .int .i64 0, .int .u64 0, .int .u64 0, .bool false] 46 (n := 6) rfl
    rwa [World.size_alloc, World.size_alloc] at this
  have G3 : w.grownBy W3 (some g) := by rw [← hW3]; exact grown_alloc (grown_alloc (grown_alloc (grown_refl _ _) _) _) _
  have HR3 := hide (show IsRow W3 g n cap f from hr.grown (grown_none (by rw [← hW3]; exact grown_alloc (grown_alloc (grown_alloc (grown_refl _ _) _) _) _) none) (by simp))
  have cell : ∀ i v, l0[i]? = some v → W3.cell? ⟨w.heap.size, i, none⟩ = some v := fun i v hv => by rw [R0.cell (i := i) (by have := (List.getElem?_eq_some_iff.1 hv).1; omega), lrow_of hv]
  have c6 := cell 6 (.int .i64 hand) (by rw [← hl0]; rfl)
  have c7 := cell 7 (.int .i64 kind) (by rw [← hl0]; rfl)
  have c8 := cell 8 (.int .i64 a) (by rw [← hl0]; rfl)
  have c9 := cell 9 (.int .i64 b) (by rw [← hl0]; rfl)
  have c11 := cell 11 (.int .u64 hh) (by rw [← hl0]; rfl)
  obtain ⟨dT, hdT1, hdT2⟩ := row79
  obtain ⟨dS, hdS1, hdS2⟩ := row46
  have HD := hide (And.intro hdT1 (And.intro hdT2 (And.intro hdS1 hdS2)))
  have HR0 := hide R0
  have HR1 := hide R1
  have HR2 := hide R2
  have HG3 := hide G3
  have HSET := hide hset
  have HL0 := hide hl0'
  clear hx hf' hr hw hk told R0 R1 R2 G3 cell hset hl0' hl0 hl1 hdT1 hdT2 hdS1 hdS2
  simp only [tk0] at hW3
  go_enter Try.func38, Try.ntmps38
  go_wp2_with (go_at_call 67; refine (DO.out _ HR3.out).mono ?_; rintro e w1 ⟨rfl, hr1, hg1⟩; rw [HX.out]; rw [HF.out] at hr1; simp only [Stp.val]; have sz1 := hg1.size; have HR4 := hide (HR0.out.of_block (hg1.block w.heap.size (by omega) (by simp; omega))); have HR5 := hide (HR1.out.of_block (hg1.block (w.heap.size + 1) (by omega) (by simp; omega))); have HR6 := hide (HR2.out.of_block (hg1.block (w.heap.size + 2) (by omega) (by simp; omega))); have HR1' := hide hr1; have HG1 := hide hg1; obtain ⟨u22, e22⟩ : ∃ u, w1.cell? ⟨w.heap.size, 22, none⟩ = some u := ⟨_, HR4.out.cell (by omega)⟩; obtain ⟨u23, e23⟩ : ∃ u, w1.cell? ⟨w.heap.size, 23, none⟩ = some u := ⟨_, HR4.out.cell (by omega)⟩; have f22 := HR4.out.frozen 22; have f23 := HR4.out.frozen 23; have l1w : w.heap.size < w1.heap.size := (by omega); clear hr1 hg1)
  obtain ⟨w2, hw2⟩ : ∃ w2, (w1.setCell ⟨w.heap.size, 22, none⟩ (.bool x.ok)).setCell ⟨w.heap.size, 23, none⟩ (.int .u64 x.had) = w2 := ⟨_, rfl⟩
  have sz2 : w2.heap.size = w1.heap.size := by rw [← hw2]; simp
  have tt2 : Touch w1 w2 (fun k => k = w.heap.size) := by rw [← hw2]; exact Touch.setCell (S := fun k => k = w.heap.size) (Touch.setCell (S := fun k => k = w.heap.size) (Touch.refl w1 _) ⟨w.heap.size, 22, none⟩ (.inl rfl) _) ⟨w.heap.size, 23, none⟩ (.inl rfl) _
  have rA : (w2.alloc (.cells [Value.int .i64 x.hand, .int .i64 x.act, .int .i64 x.at_, .int .u64 x.had, .int .u64 x.put, .bool x.ok].toArray 46)).rangeAt w.heap.size 0 l1 := by
    have := rowIs.range (rowIs.setL (rowIs.setL HR4.out (i := 22) (by rw [HL0.out]; omega) (.bool x.ok)) (i := 23) (by rw [List.length_set, HL0.out]; omega) (.int .u64 x.had)) (by simp [HL0.out])
    rw [HSET.out, hw2] at this
    exact World.rangeAt_alloc this _
  have rB : (w2.alloc (.cells [Value.int .i64 x.hand, .int .i64 x.act, .int .i64 x.at_, .int .u64 x.had, .int .u64 x.put, .bool x.ok].toArray 46)).rangeAt w1.heap.size 0 [Value.int .i64 x.hand, .int .i64 x.act, .int .i64 x.at_, .int .u64 x.had, .int .u64 x.put, .bool x.ok] := by
    have := rowIs.range (rowL_alloc w2 [Value.int .i64 x.hand, .int .i64 x.act, .int .i64 x.at_, .int .u64 x.had, .int .u64 x.put, .bool x.ok] 46 (n := 6) rfl) rfl
    rwa [sz2] at this
  have tC : (w2.alloc (.cells [Value.int .i64 x.hand, .int .i64 x.act, .int .i64 x.at_, .int .u64 x.had, .int .u64 x.put, .bool x.ok].toArray 46)).there (w.heap.size + 1) 0 28 := rowIs.there ((HR5.out.of_block (tt2.block _ (by omega) (by omega))).alloc _) (by omega)
  have tD : (w2.alloc (.cells [Value.int .i64 x.hand, .int .i64 x.act, .int .i64 x.at_, .int .u64 x.had, .int .u64 x.put, .bool x.ok].toArray 46)).there (w.heap.size + 2) 0 6 := rowIs.there ((HR6.out.of_block (tt2.block _ (by omega) (by omega))).alloc _) (by omega)
  have rW : IsRow (w2.alloc (.cells [Value.int .i64 x.hand, .int .i64 x.act, .int .i64 x.at_, .int .u64 x.had, .int .u64 x.put, .bool x.ok].toArray 46)) g n cap f' := (HR1'.out.block (tt2.block g (by omega) (by omega))).alloc _
  have gW : W3.grownBy (w2.alloc (.cells [Value.int .i64 x.hand, .int .i64 x.act, .int .i64 x.at_, .int .u64 x.had, .int .u64 x.put, .bool x.ok].toArray 46)) (some g) ∨ True := .inr trivial
  have TW : Touch w (w2.alloc (.cells [Value.int .i64 x.hand, .int .i64 x.act, .int .i64 x.at_, .int .u64 x.had, .int .u64 x.put, .bool x.ok].toArray 46)) (fun k => k = g) := (((Touch.of_grown HG3.out).mono (S' := fun k => k = g) (fun k _ h => by simpa using h)).trans' (Touch.of_grown HG1.out) (fun k _ h => by simpa using h)).trans' (tt2.alloc _) (fun k hk h => absurd hk (by omega))
  rw [hw2]
  have HTW := hide TW
  have HRW := hide rW
  clear gW TW rW hw2
  refine ret3 (A := w.heap.size) (B := w1.heap.size) (C := w.heap.size + 1) (D := w.heap.size + 2) (xA := 2) (xB := 7) (xC := 4) (xD := 5) (sA := 31) (sB := 32) (e := 6) (lt := l1) (ls := [Value.int .i64 x.hand, .int .i64 x.act, .int .i64 x.at_, .int .u64 x.had, .int .u64 x.put, .bool x.ok]) (v := .bool true) (by kernel_rfl) rfl rfl rfl rfl rfl rfl rfl rfl rfl rfl ?g ?b ⟨⟨0, .data⟩, by simp, rfl, rfl⟩ ⟨⟨1, .data⟩, by simp, rfl, rfl⟩ HD.out.1 HD.out.2.1 (by rw [hl1i.out.1]; exact size79) HD.out.2.2.1 HD.out.2.2.2 size46 hl1i.out.2 (by simp [Value.oneCell']) (fun _ _ => rfl) (by decide) (by simp) rfl ⟨by omega, by omega, by omega, by omega, by omega⟩ rfl rfl rfl rfl rA rB (by rw [hl1i.out.1]; exact tC) tD ?h
  case g =>
    intro i o ho
    have hi : i < 5 := by have := (Array.getElem?_eq_some_iff.1 ho).1; simpa using this
    match i, hi with
    | 0, _ | 1, _ | 2, _ | 3, _ | 4, _ => injection ho with ho; subst ho; rfl
  case b =>
    intro i o ho
    have hi : i < 5 := by have := (Array.getElem?_eq_some_iff.1 ho).1; simpa using this
    match i, hi with
    | 0, _ | 1, _ | 2, _ | 3, _ | 4, _ => injection ho with ho; subst ho; simp [Region.binds]
  case h =>
    intro a' w' hdf pC pD pe rC rD tch
    rename_i K2 hK2
    refine hK2 _ _ ?_
    have hT := run_loadVar_mid (P := Try.prog) w' (w.heap.size + 1) 0 _ l1 dT rC HD.out.1 HD.out.2.1 (by rw [hl1i.out.1]; exact size79)
    have hS := run_loadVar_mid (P := Try.prog) w' (w.heap.size + 2) 0 _ _ dS rD HD.out.2.2.1 HD.out.2.2.2 size46
    have hres := results_cct (Q := Try.prog) (fn := Try.f38) (tmps := a'.tmps) (t := 4) (t' := 5) (t'' := 6) (W := w') (by rfl) pC hT pD hS
    rw [show a'.tmps.getD 6 undef = .bool true from pe] at hres
    go_wp2
    refine bodyPost_ret (v := .tuple #[.agg l1.toArray, x.val, .bool true]) hres hdf ⟨rfl, HRW.out.block (tch.block g HRW.out.lt (by omega)), ?_⟩
    have := HTW.out.trans' tch (fun k hk h => absurd hk (by omega))
    exact ⟨this.os, this.tape, this.output, this.size, fun k hk hn => this.block k hk (by simpa using hn)⟩
end Go.Proofs.Ytdbiphibdaghkaa
