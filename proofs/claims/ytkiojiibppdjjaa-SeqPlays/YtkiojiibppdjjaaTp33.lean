/-
  Lemmas: SeqRA.
-/
import Derived.Test.YtkiojiibppdjjaaTp22
import Derived.Test.YtkiojiibppdjjaaTp19
/-
  The seq's reference: writing.
-/
namespace Go.Proofs.Ytkiojiibppdjjaa
open Go.RowKit
set_option linter.unusedVariables false
set_option linter.unusedSimpArgs false
set_option linter.unnecessarySimpa false
set_option maxRecDepth 20000
namespace Seq

theorem rwrap_u64 (x : Int) : IntKind.u64.wrap x = u64 x := by rw [IntKind.wrap_u64]; rfl
theorem fieldS3 (w : World) (b : Nat) : (Instr.fieldAt 77 (.pointer (some ⟨b, 0, none⟩)) 3).run Try.prog w = .ok (.pointer (some ⟨b, 3, none⟩)) w := by simp [go_sem]
theorem ex_addu {ev : Operand → Value} {o : Oper} {w : World} {x y : Operand} {v z u : Int} (ho : o.op = .binOp .add 47 x y 47) (hx : ev x = .int .u64 v) (hy : ev y = .int .u64 z) (hu : u64 (v + z) = u) : (execOp ev o).run Try.prog w = .ok (.value (.int .u64 u)) w := by
  have g : IntKind.u64.wrap (v + z) = u := by rw [IntKind.wrap_u64]; exact hu
  simp [execOp, ho, hx, hy, go_sem, g]

set_option maxHeartbeats 8000000 in
theorem rw0 {w : World} {g n cap : Nat} {f f' : Nat → Int} {x : Stp} {s0 s1 s2 s3 s4 s5 hand a b c hh r0 r1 r2 r3 val : Int} {ok : Bool} (hr : IsRow w g n cap f)  (hx : stepOf n f ⟨hand, 1, 0, 0, 0, true⟩ = x) (hf' : wordsOf n f ⟨hand, 1, 0, 0, 0, true⟩ = f') :
    Calls Try.prog 54 #[.agg (tk ⟨s0, s1, s2, s3, s4, s5⟩ hand ⟨1, a, b, c, hh⟩ 0 ⟨r0, r1, r2, r3, 0, 0, 0, 0⟩ ⟨ok, val⟩).toArray, .slice (some ⟨g, 0, none⟩) n cap] w fun e w' =>
      e = .returned (.tuple #[.agg (tk ⟨s0, s1, s2, s3, s4, s5⟩ hand ⟨1, a, b, c, hh⟩ 1 ⟨x.had, r1, r2, r3, 0, 0, 0, 0⟩ ⟨ok, val⟩).toArray, x.val, .bool false]) ∧ IsRow w' g n cap f' ∧ w.grownBy w' (some g) := by
  have DO := hide (fun (w' : World) (hr' : IsRow w' g n cap f) => ref_do (s := ⟨hand, 1, 0, 0, 0, true⟩) hr' ⟨Int.le_refl 0, by show (0 : Int) ≤ 18446744073709551615; decide⟩ ⟨by show (1 : Int) ≤ 1; decide, by show (1 : Int) ≤ 5; decide⟩)
  have HX := hide hx
  have HF := hide hf'
  have lg := hr.lt
  obtain ⟨l0, hl0⟩ : ∃ l, tk ⟨s0, s1, s2, s3, s4, s5⟩ hand ⟨1, a, b, c, hh⟩ 0 ⟨r0, r1, r2, r3, 0, 0, 0, 0⟩ ⟨ok, val⟩ = l := ⟨_, rfl⟩
  have hl0' : l0.length = 28 := by rw [← hl0]; rfl
  have hset : ((l0.set 13 (.int .u64 x.had)).set 12 (.int .i64 1)) = tk ⟨s0, s1, s2, s3, s4, s5⟩ hand ⟨1, a, b, c, hh⟩ 1 ⟨x.had, r1, r2, r3, 0, 0, 0, 0⟩ ⟨ok, val⟩ := by rw [← hl0]; rfl
  obtain ⟨l1, hl1⟩ : ∃ l, tk ⟨s0, s1, s2, s3, s4, s5⟩ hand ⟨1, a, b, c, hh⟩ 1 ⟨x.had, r1, r2, r3, 0, 0, 0, 0⟩ ⟨ok, val⟩ = l := ⟨_, rfl⟩
  rw [hl0, hl1]
  rw [hl1] at hset
  have hl1i := hide (show IsTk l1 from by rw [← hl1]; exact tk_is _ _ _ _ _ _)
  obtain ⟨W3, hW3⟩ : ∃ W3, ((w.alloc (.cells l0.toArray 64)).alloc (.cells tk0.toArray 64)).alloc (.cells [Value.int .i64 0, .int .i64 0, .int .i64 0, .int .u64 0, .int .u64 0, .bool false].toArray 77) = W3 := ⟨_, rfl⟩
  have sz3 : W3.heap.size = w.heap.size + 3 := by rw [← hW3]; simp
  have R0 : W3.rowIs w.heap.size 64 28 (lrow l0) := by rw [← hW3]; exact ((rowL_alloc w l0 _ hl0').alloc _).alloc _
  have R1 : W3.rowIs (w.heap.size + 1) 64 28 (lrow tk0) := by
    rw [← hW3]
    have := (rowL_alloc (w.alloc (.cells l0.toArray 64)) tk0 64 (n := 28) rfl).alloc (.cells [Value.int .i64 0, .int .i64 0, .int .i64 0, .int .u64 0, .int .u64 0, .bool false].toArray 77)
    rwa [World.size_alloc] at this
  have R2 : W3.rowIs (w.heap.size + 2) 77 6 (lrow [Value.int .i64 0, .int .i64 0, .int .i64 0, .int .u64 0, .int .u64 0, .bool false]) := by
    rw [← hW3]
    have := rowL_alloc ((w.alloc (.cells l0.toArray 64)).alloc (.cells tk0.toArray 64)) [Value.int .i64 0, .int .i64 0, .int .i64 0, .int .u64 0, .int .u64 0, .bool false] 77 (n := 6) rfl
    rwa [World.size_alloc, World.size_alloc] at this
  have G3 : w.grownBy W3 (some g) := by rw [← hW3]; exact grown_alloc (grown_alloc (grown_alloc (grown_refl _ _) _) _) _
  have HR3 := hide (show IsRow W3 g n cap f from hr.grown (grown_none (by rw [← hW3]; exact grown_alloc (grown_alloc (grown_alloc (grown_refl _ _) _) _) _) none) (by simp))
  have cell : ∀ i v, l0[i]? = some v → W3.cell? ⟨w.heap.size, i, none⟩ = some v := fun i v hv => by rw [R0.cell (i := i) (by have := (List.getElem?_eq_some_iff.1 hv).1; omega), lrow_of hv]
  have g6 : l0[6]? = some (.int .i64 hand) := by rw [← hl0]; rfl
  have g12 : l0[12]? = some (.int .i64 0) := by rw [← hl0]; rfl
  have g13 : l0[13]? = some (.int .u64 r0) := by rw [← hl0]; rfl
  have c6 := cell 6 _ g6
  have c12 := cell 12 _ g12
  have c13 := cell 13 _ g13
  have G6 := hide g6
  have G12 := hide g12
  have G13 := hide g13
  obtain ⟨dT, hdT1, hdT2⟩ := row79
  obtain ⟨dS, hdS1, hdS2⟩ := row46
  have HD := hide (And.intro hdT1 (And.intro hdT2 (And.intro hdS1 hdS2)))
  have HR0 := hide R0
  have HR1 := hide R1
  have HR2 := hide R2
  have HG3 := hide G3
  have HSET := hide hset
  have HL0 := hide hl0'
  clear hx hf' hr R0 R1 R2 G3 cell hset hl0' hl0 hl1 hdT1 hdT2 hdS1 hdS2  g6 g12 g13
  simp only [tk0] at hW3
  go_enter Try.func54, Try.ntmps54
  go_wp2_with (first | (go_at_call 55; refine (DO.out _ HR3.out).mono ?_; rintro e w1 ⟨rfl, hr1, hg1⟩; rw [HX.out]; rw [HF.out] at hr1; simp only [Stp.val]; have sz1 := hg1.size; have HR4 := hide (HR0.out.of_block (hg1.block w.heap.size (by omega) (by simp; omega))); have HR5 := hide (HR1.out.of_block (hg1.block (w.heap.size + 1) (by omega) (by simp; omega))); have HR6 := hide (HR2.out.of_block (hg1.block (w.heap.size + 2) (by omega) (by simp; omega))); have HR1' := hide hr1; have HG1 := hide hg1; have e6 : w1.cell? ⟨w.heap.size, 6, none⟩ = some (.int .i64 hand) := (by rw [HR4.out.cell (i := 6) (by omega), lrow_of G6.out]); have f6 := HR4.out.frozen 6; have e12 : w1.cell? ⟨w.heap.size, 12, none⟩ = some (.int .i64 0) := (by rw [HR4.out.cell (i := 12) (by omega), lrow_of G12.out]); have f12 := HR4.out.frozen 12; have e13 : w1.cell? ⟨w.heap.size, 13, none⟩ = some (.int .u64 r0) := (by rw [HR4.out.cell (i := 13) (by omega), lrow_of G13.out]); have f13 := HR4.out.frozen 13; have l1w : w.heap.size < w1.heap.size := (by omega); clear hr1 hg1 c6 c12 c13))
  obtain ⟨w2, hw2⟩ : ∃ w2, ((w1.setCell ⟨w.heap.size, 13, none⟩ (.int .u64 x.had)).setCell ⟨w.heap.size, 12, none⟩ (.int .i64 1)) = w2 := ⟨_, rfl⟩
  have sz2 : w2.heap.size = w1.heap.size := by rw [← hw2]; simp
  have tt2 : Touch w1 w2 (fun k => k = w.heap.size) := by rw [← hw2]; exact (Touch.setCell (S := fun k => k = w.heap.size) (Touch.setCell (S := fun k => k = w.heap.size) (Touch.refl w1 _) ⟨w.heap.size, 13, none⟩ (.inl rfl) _) ⟨w.heap.size, 12, none⟩ (.inl rfl) _)
  have rA : (w2.alloc (.cells [Value.int .i64 x.hand, .int .i64 x.act, .int .i64 x.at_, .int .u64 x.had, .int .u64 x.put, .bool x.ok].toArray 77)).rangeAt w.heap.size 0 l1 := by
    have := rowIs.range (rowIs.setL (rowIs.setL HR4.out (i := 13) (by simp [HL0.out]) (.int .u64 x.had)) (i := 12) (by simp [HL0.out]) (.int .i64 1)) (by simp [HL0.out])
    rw [HSET.out, hw2] at this
    exact World.rangeAt_alloc this _
  have rB : (w2.alloc (.cells [Value.int .i64 x.hand, .int .i64 x.act, .int .i64 x.at_, .int .u64 x.had, .int .u64 x.put, .bool x.ok].toArray 77)).rangeAt w1.heap.size 0 [Value.int .i64 x.hand, .int .i64 x.act, .int .i64 x.at_, .int .u64 x.had, .int .u64 x.put, .bool x.ok] := by
    have := rowIs.range (rowL_alloc w2 [Value.int .i64 x.hand, .int .i64 x.act, .int .i64 x.at_, .int .u64 x.had, .int .u64 x.put, .bool x.ok] 77 (n := 6) rfl) rfl
    rwa [sz2] at this
  have tC : (w2.alloc (.cells [Value.int .i64 x.hand, .int .i64 x.act, .int .i64 x.at_, .int .u64 x.had, .int .u64 x.put, .bool x.ok].toArray 77)).there (w.heap.size + 1) 0 28 := rowIs.there ((HR5.out.of_block (tt2.block _ (by omega) (by omega))).alloc _) (by omega)
  have tD : (w2.alloc (.cells [Value.int .i64 x.hand, .int .i64 x.act, .int .i64 x.at_, .int .u64 x.had, .int .u64 x.put, .bool x.ok].toArray 77)).there (w.heap.size + 2) 0 6 := rowIs.there ((HR6.out.of_block (tt2.block _ (by omega) (by omega))).alloc _) (by omega)
  have rW : IsRow (w2.alloc (.cells [Value.int .i64 x.hand, .int .i64 x.act, .int .i64 x.at_, .int .u64 x.had, .int .u64 x.put, .bool x.ok].toArray 77)) g n cap f' := (HR1'.out.block (tt2.block g (by omega) (by omega))).alloc _
  have TW : Touch w (w2.alloc (.cells [Value.int .i64 x.hand, .int .i64 x.act, .int .i64 x.at_, .int .u64 x.had, .int .u64 x.put, .bool x.ok].toArray 77)) (fun k => k = g) := (((Touch.of_grown HG3.out).mono (S' := fun k => k = g) (fun k _ h => by simpa using h)).trans' (Touch.of_grown HG1.out) (fun k _ h => by simpa using h)).trans' (tt2.alloc _) (fun k hk h => absurd hk (by omega))
  have szA : (w2.alloc (.cells [Value.int .i64 x.hand, .int .i64 x.act, .int .i64 x.at_, .int .u64 x.had, .int .u64 x.put, .bool x.ok].toArray 77)).heap.size = w1.heap.size + 1 := by simp [sz2]
  rw [hw2]
  have HTW := hide TW
  have HRW := hide rW
  clear TW rW hw2
  obtain ⟨WA, hWA⟩ : ∃ W, (w2.alloc (.cells [Value.int .i64 x.hand, .int .i64 x.act, .int .i64 x.at_, .int .u64 x.had, .int .u64 x.put, .bool x.ok].toArray 77)) = W := ⟨_, rfl⟩
  rw [hWA] at rA rB tC tD szA HTW HRW
  have goA : (w2.alloc (.cells #[Value.int .i64 x.hand, .int .i64 x.act, .int .i64 x.at_, .int .u64 x.had, .int .u64 x.put, .bool x.ok] 77)) = WA := hWA
  simp only [goA]
  clear goA hWA
  refine RetN.region (ks := [(0, 22), (1, 23), (4, 6)]) (vals := fun i => match i with
      | 0 => .agg l1.toArray
      | 1 => .agg #[Value.int .i64 x.hand, .int .i64 x.act, .int .i64 x.at_, .int .u64 x.had, .int .u64 x.put, .bool x.ok]
      | 4 => .bool false
      | _ => undef) (C := w.heap.size + 1) (E := w.heap.size + 2) (iC := 2) (iE := 3) (lt := l1) (ls := [Value.int .i64 x.hand, .int .i64 x.act, .int .i64 x.at_, .int .u64 x.had, .int .u64 x.put, .bool x.ok]) (by kernel_rfl) ?g ?b rfl (by omega) (by decide) ?dd hl1i.out.2 (by simp [Value.oneCell']) (by rw [hl1i.out.1]; exact tC) tD ?kinds ?fin
  case g =>
    intro i o ho
    have hi : i < 5 := by have := (Array.getElem?_eq_some_iff.1 ho).1; simpa using this
    match i, hi with
    | 0, _ | 1, _ | 2, _ | 3, _ | 4, _ => injection ho with ho; subst ho; rfl
  case b =>
    intro i o ho
    have hi : i < 5 := by have := (Array.getElem?_eq_some_iff.1 ho).1; simpa using this
    match i, hi with
    | 0, _ | 1, _ | 2, _ | 3, _ | 4, _ => injection ho with ho; subst ho; simp [Region.binds]
  case dd =>
    intro k hk
    have hk' : k < 80 := by
      simp [RetN.D] at hk
      omega
    simpa using hk'
  case kinds =>
    intro i o ho
    have hi : i < 5 := by have := (Array.getElem?_eq_some_iff.1 ho).1; simpa using this
    match i, hi with
    | 0, _ => injection ho with ho; subst ho; exact .inl ⟨22, _, rfl, rfl, fun L a w' hI hd => ex_load_row rfl (hI.fix 2 (Reg.notD rfl)) (rangeAt_block rA (hI.tch.block _ (by omega) (by omega))) HD.out.1 HD.out.2.1 (by rw [hl1i.out.1]; exact size79)⟩
    | 1, _ => injection ho with ho; subst ho; exact .inl ⟨23, _, rfl, rfl, fun L a w' hI hd => ex_load_row rfl (hI.fix 7 (Reg.notD rfl)) (rangeAt_block rB (hI.tch.block _ (by omega) (by omega))) HD.out.2.2.1 HD.out.2.2.2 size46⟩
    | 2, _ => injection ho with ho; subst ho; exact .inr (.inl ⟨rfl, rfl, _, _, _, rfl, (by rw [hl1i.out.1]; exact size79), fun L a w' hI hd => ⟨hI.fix 4 (Reg.notD rfl), (hI.pure 0 _ _ rfl (hd ⟨0, .data⟩ (by simp) rfl))⟩⟩)
    | 3, _ => injection ho with ho; subst ho; exact .inr (.inr ⟨rfl, rfl, _, _, _, rfl, size46, fun L a w' hI hd => ⟨hI.fix 5 (Reg.notD rfl), (hI.pure 1 _ _ rfl (hd ⟨1, .data⟩ (by simp) rfl))⟩⟩)
    | 4, _ => injection ho with ho; subst ho; exact .inl ⟨6, _, rfl, rfl, fun L a w' hI hd => ex_assign rfl rfl⟩
  case fin =>
    intro L a' w' hI hall
    rename_i K2 hK2
    refine hK2 _ _ ?_
    have rC := hI.sC (hall 2 (by decide))
    have rD := hI.sE (hall 3 (by decide))
    have pC : a'.eval (.tmp 4) = .pointer (some ⟨w.heap.size + 1, 0, none⟩) := hI.fix 4 (Reg.notD rfl)
    have pD : a'.eval (.tmp 5) = .pointer (some ⟨w.heap.size + 2, 0, none⟩) := hI.fix 5 (Reg.notD rfl)
    have pe : a'.eval (.tmp 6) = .bool false := hI.pure 4 6 _ rfl (hall 4 (by decide))
    have tch := hI.tch
    have hdf : a'.defers = [] := hI.df
    have hT := run_loadVar_mid (P := Try.prog) w' (w.heap.size + 1) 0 _ l1 dT rC HD.out.1 HD.out.2.1 (by rw [hl1i.out.1]; exact size79)
    have hS := run_loadVar_mid (P := Try.prog) w' (w.heap.size + 2) 0 _ _ dS rD HD.out.2.2.1 HD.out.2.2.2 size46
    have hres := results_cct (Q := Try.prog) (fn := Try.f54) (tmps := a'.tmps) (t := 4) (t' := 5) (t'' := 6) (W := w') (by rfl) pC hT pD hS
    rw [show a'.tmps.getD 6 undef = .bool false from pe] at hres
    go_wp2
    refine bodyPost_ret (v := .tuple #[.agg l1.toArray, x.val, .bool false]) hres hdf ⟨rfl, HRW.out.block (tch.block g HRW.out.lt (by omega)), ?_⟩
    have := HTW.out.trans' tch (fun k hk h => absurd hk (by omega))
    exact ⟨this.os, this.tape, this.output, this.size, fun k hk hn => this.block k hk (by simpa using hn)⟩

set_option maxHeartbeats 8000000 in
theorem rw1 {w : World} {g n cap : Nat} {f f' : Nat → Int} {x : Stp} {s0 s1 s2 s3 s4 s5 hand a b c hh r0 r1 r2 r3 val : Int} {ok : Bool} (hr : IsRow w g n cap f) {e2 : Int} (he2 : u64 (r0 + 1) = e2)  (hx : stepOf n f ⟨hand, 2, 0, 0, e2, true⟩ = x) (hf' : wordsOf n f ⟨hand, 2, 0, 0, e2, true⟩ = f') :
    Calls Try.prog 54 #[.agg (tk ⟨s0, s1, s2, s3, s4, s5⟩ hand ⟨1, a, b, c, hh⟩ 1 ⟨r0, r1, r2, r3, 0, 0, 0, 0⟩ ⟨ok, val⟩).toArray, .slice (some ⟨g, 0, none⟩) n cap] w fun e w' =>
      e = .returned (.tuple #[.agg (tk ⟨s0, s1, s2, s3, s4, s5⟩ hand ⟨1, a, b, c, hh⟩ 2 ⟨r0, 1, r2, r3, 0, 0, 0, 0⟩ ⟨ok, val⟩).toArray, x.val, .bool false]) ∧ IsRow w' g n cap f' ∧ w.grownBy w' (some g) := by
  have DO := hide (fun (w' : World) (hr' : IsRow w' g n cap f) => ref_do (s := ⟨hand, 2, 0, 0, e2, true⟩) hr' (by rw [← he2]; exact ⟨u64_lo _, u64_hi _⟩) ⟨by show (1 : Int) ≤ 2; decide, by show (2 : Int) ≤ 5; decide⟩)
  have HX := hide hx
  have HF := hide hf'
  have lg := hr.lt
  obtain ⟨l0, hl0⟩ : ∃ l, tk ⟨s0, s1, s2, s3, s4, s5⟩ hand ⟨1, a, b, c, hh⟩ 1 ⟨r0, r1, r2, r3, 0, 0, 0, 0⟩ ⟨ok, val⟩ = l := ⟨_, rfl⟩
  have hl0' : l0.length = 28 := by rw [← hl0]; rfl
  have hset : ((l0.set 12 (.int .i64 2)).set 14 (.int .u64 1)) = tk ⟨s0, s1, s2, s3, s4, s5⟩ hand ⟨1, a, b, c, hh⟩ 2 ⟨r0, 1, r2, r3, 0, 0, 0, 0⟩ ⟨ok, val⟩ := by rw [← hl0]; rfl
  obtain ⟨l1, hl1⟩ : ∃ l, tk ⟨s0, s1, s2, s3, s4, s5⟩ hand ⟨1, a, b, c, hh⟩ 2 ⟨r0, 1, r2, r3, 0, 0, 0, 0⟩ ⟨ok, val⟩ = l := ⟨_, rfl⟩
  rw [hl0, hl1]
  rw [hl1] at hset
  have hl1i := hide (show IsTk l1 from by rw [← hl1]; exact tk_is _ _ _ _ _ _)
  obtain ⟨W3, hW3⟩ : ∃ W3, ((w.alloc (.cells l0.toArray 64)).alloc (.cells tk0.toArray 64)).alloc (.cells [Value.int .i64 0, .int .i64 0, .int .i64 0, .int .u64 0, .int .u64 0, .bool false].toArray 77) = W3 := ⟨_, rfl⟩
  have sz3 : W3.heap.size = w.heap.size + 3 := by rw [← hW3]; simp
  have R0 : W3.rowIs w.heap.size 64 28 (lrow l0) := by rw [← hW3]; exact ((rowL_alloc w l0 _ hl0').alloc _).alloc _
  have R1 : W3.rowIs (w.heap.size + 1) 64 28 (lrow tk0) := by
    rw [← hW3]
    have := (rowL_alloc (w.alloc (.cells l0.toArray 64)) tk0 64 (n := 28) rfl).alloc (.cells [Value.int .i64 0, .int .i64 0, .int .i64 0, .int .u64 0, .int .u64 0, .bool false].toArray 77)
    rwa [World.size_alloc] at this
  have R2 : W3.rowIs (w.heap.size + 2) 77 6 (lrow [Value.int .i64 0, .int .i64 0, .int .i64 0, .int .u64 0, .int .u64 0, .bool false]) := by
    rw [← hW3]
    have := rowL_alloc ((w.alloc (.cells l0.toArray 64)).alloc (.cells tk0.toArray 64)) [Value.int .i64 0, .int .i64 0, .int .i64 0, .int .u64 0, .int .u64 0, .bool false] 77 (n := 6) rfl
    rwa [World.size_alloc, World.size_alloc] at this
  have G3 : w.grownBy W3 (some g) := by rw [← hW3]; exact grown_alloc (grown_alloc (grown_alloc (grown_refl _ _) _) _) _
  have HR3 := hide (show IsRow W3 g n cap f from hr.grown (grown_none (by rw [← hW3]; exact grown_alloc (grown_alloc (grown_alloc (grown_refl _ _) _) _) _) none) (by simp))
  have cell : ∀ i v, l0[i]? = some v → W3.cell? ⟨w.heap.size, i, none⟩ = some v := fun i v hv => by rw [R0.cell (i := i) (by have := (List.getElem?_eq_some_iff.1 hv).1; omega), lrow_of hv]
  have g6 : l0[6]? = some (.int .i64 hand) := by rw [← hl0]; rfl
  have g12 : l0[12]? = some (.int .i64 1) := by rw [← hl0]; rfl
  have g13 : l0[13]? = some (.int .u64 r0) := by rw [← hl0]; rfl
  have g14 : l0[14]? = some (.int .u64 r1) := by rw [← hl0]; rfl
  have c6 := cell 6 _ g6
  have c12 := cell 12 _ g12
  have c13 := cell 13 _ g13
  have c14 := cell 14 _ g14
  have G6 := hide g6
  have G12 := hide g12
  have G13 := hide g13
  have G14 := hide g14
  obtain ⟨dT, hdT1, hdT2⟩ := row79
  obtain ⟨dS, hdS1, hdS2⟩ := row46
  have HD := hide (And.intro hdT1 (And.intro hdT2 (And.intro hdS1 hdS2)))
  have HR0 := hide R0
  have HR1 := hide R1
  have HR2 := hide R2
  have HG3 := hide G3
  have HSET := hide hset
  have HL0 := hide hl0'
  have HE2 := hide he2
  clear hx hf' hr R0 R1 R2 G3 cell hset hl0' hl0 hl1 hdT1 hdT2 hdS1 hdS2  g6 g12 g13 g14
  simp only [tk0] at hW3
  have fz12 := HR0.out.frozen 12
  have fz14 := HR0.out.frozen 14
  obtain ⟨la, hla⟩ : ∃ l, ((l0.set 12 (.int .i64 2)).set 14 (.int .u64 1)) = l := ⟨_, rfl⟩
  have HLA := hide (show la.length = 28 from by rw [← hla]; simpa using HL0.out)
  have GA6 := hide (show la[6]? = some (.int .i64 hand) from by rw [← hla]; simp [G6.out])
  have GA12 := hide (show la[12]? = some (.int .i64 2) from by rw [← hla]; simp [HL0.out])
  have GA13 := hide (show la[13]? = some (.int .u64 r0) from by rw [← hla]; simp [G13.out])
  have GA14 := hide (show la[14]? = some (.int .u64 1) from by rw [← hla]; simp [HL0.out])
  obtain ⟨w2, hw2⟩ : ∃ w2, ((W3.setCell ⟨w.heap.size, 12, none⟩ (.int .i64 2)).setCell ⟨w.heap.size, 14, none⟩ (.int .u64 1)) = w2 := ⟨_, rfl⟩
  have sz2 : w2.heap.size = W3.heap.size := by rw [← hw2]; simp
  have tt2 : Touch W3 w2 (fun k => k = w.heap.size) := by rw [← hw2]; exact (Touch.setCell (S := fun k => k = w.heap.size) (Touch.setCell (S := fun k => k = w.heap.size) (Touch.refl W3 _) ⟨w.heap.size, 12, none⟩ (.inl rfl) _) ⟨w.heap.size, 14, none⟩ (.inl rfl) _)
  have HA0 := hide (show w2.rowIs w.heap.size 64 28 (lrow la) from by rw [← hw2, ← hla]; exact (rowIs.setL (rowIs.setL HR0.out (i := 12) (by simp [HL0.out]) (.int .i64 2)) (i := 14) (by simp [HL0.out]) (.int .u64 1)))
  have HA1 := hide (HR1.out.of_block (tt2.block _ (by omega) (by omega)))
  have HA2 := hide (HR2.out.of_block (tt2.block _ (by omega) (by omega)))
  have HA3 := hide (HR3.out.block (tt2.block g (by omega) (by omega)))
  have HGA := hide (show w.grownBy w2 (some g) from by rw [← hw2]; exact (grown_setCell (grown_setCell HG3.out _ (.inr (Nat.le_refl _)) _) _ (.inr (Nat.le_refl _)) _))
  have p6 : w2.cell? ⟨w.heap.size, 6, none⟩ = some (.int .i64 hand) := by rw [HA0.out.cell (i := 6) (by omega), lrow_of GA6.out]
  have p12 : w2.cell? ⟨w.heap.size, 12, none⟩ = some (.int .i64 2) := by rw [HA0.out.cell (i := 12) (by omega), lrow_of GA12.out]
  have p13 : w2.cell? ⟨w.heap.size, 13, none⟩ = some (.int .u64 r0) := by rw [HA0.out.cell (i := 13) (by omega), lrow_of GA13.out]
  have p14 : w2.cell? ⟨w.heap.size, 14, none⟩ = some (.int .u64 1) := by rw [HA0.out.cell (i := 14) (by omega), lrow_of GA14.out]
  have HSA := hide hla
  clear tt2 hla
  have hla : la = l1 := by rw [← HSA.out]; exact HSET.out
  subst hla
  have rA : w2.rangeAt w.heap.size 0 la := rowIs.range HA0.out HLA.out
  have tC : w2.there (w.heap.size + 1) 0 28 := rowIs.there HA1.out (by omega)
  have tD : w2.there (w.heap.size + 2) 0 6 := rowIs.there HA2.out (by omega)
  have HTW := hide (show Touch w w2 (fun k => k = g) from (Touch.of_grown HGA.out).mono (S' := fun k => k = g) (fun k _ h => by simpa using h))
  have q6 := GA6.out
  have q13 := GA13.out
  have STB := hide (show ∀ c w' w'', Touch w' w'' (fun k => k = w.heap.size + 1 ∨ k = w.heap.size + 2) → (fun (c : Bool) (w' : World) => w'.rangeAt w.heap.size 0 la ∧ IsRow w' g n cap (if c = true then f' else f) ∧ Touch w2 w' (fun k => k = g ∨ k = w.heap.size + 1 ∨ k = w.heap.size + 2)) c w' → (fun (c : Bool) (w' : World) => w'.rangeAt w.heap.size 0 la ∧ IsRow w' g n cap (if c = true then f' else f) ∧ Touch w2 w' (fun k => k = g ∨ k = w.heap.size + 1 ∨ k = w.heap.size + 2)) c w'' from fun c w' w'' ht ⟨p1, p2, p3⟩ => by
    have ls := p3.size
    exact ⟨rangeAt_block p1 (ht.block _ (by omega) (by omega)), p2.block (ht.block g (by omega) (by omega)), p3.trans' ht (fun k _ h => .inr h)⟩)
  have DC := hide (show ∀ w', (fun (c : Bool) (w' : World) => w'.rangeAt w.heap.size 0 la ∧ IsRow w' g n cap (if c = true then f' else f) ∧ Touch w2 w' (fun k => k = g ∨ k = w.heap.size + 1 ∨ k = w.heap.size + 2)) false w' → Calls Try.prog 55 #[.slice (some ⟨g, 0, none⟩) n cap, .int .i64 hand, .int .i64 2, .int .i64 (0), .int .u64 0, .int .u64 e2] w' fun e w'' => e = .returned x.val ∧ (fun (c : Bool) (w' : World) => w'.rangeAt w.heap.size 0 la ∧ IsRow w' g n cap (if c = true then f' else f) ∧ Touch w2 w' (fun k => k = g ∨ k = w.heap.size + 1 ∨ k = w.heap.size + 2)) true w'' ∧ w''.heap[w.heap.size + 1]? = w'.heap[w.heap.size + 1]? ∧ w''.heap[w.heap.size + 2]? = w'.heap[w.heap.size + 2]? from fun w' ⟨p1, p2, p3⟩ => by
    have ls := p3.size
    refine (DO.out w' (by simpa using p2)).mono ?_
    rintro e w'' ⟨rfl, h1, h2⟩
    rw [HX.out]
    rw [HF.out] at h1
    exact ⟨rfl, ⟨rangeAt_block p1 (h2.block _ (by omega) (by simp; omega)), by simpa using h1, p3.trans' (Touch.of_grown h2) (fun k _ e => .inl (by simpa using e))⟩, h2.block _ (by omega) (by simp; omega), h2.block _ (by omega) (by simp; omega)⟩)
  go_enter Try.func54, Try.ntmps54
  go_wp2_with fail
  clear hw2 hW3 c6 c12 c13 c14 p6 p12 p13 p14
  refine RG.region (ks := [(0, 29), (1, 30), (2, 31), (3, 32), (4, 33), (5, 34), (6, 35), (7, 36), (8, 37), (11, 6)]) (vals := fun i => match i with
      | 0 => .agg la.toArray
      | 1 => .slice (some ⟨g, 0, none⟩) n cap
      | 2 => .pointer (some ⟨w.heap.size, 6, none⟩)
      | 3 => .int .i64 hand
      | 4 => .pointer (some ⟨w.heap.size, 13, none⟩)
      | 5 => .pointer (some ⟨w.heap.size, 13, none⟩)
      | 6 => .int .u64 r0
      | 7 => .int .u64 e2
      | 8 => .agg #[Value.int .i64 x.hand, .int .i64 x.act, .int .i64 x.at_, .int .u64 x.had, .int .u64 x.put, .bool x.ok]
      | 11 => .bool false
      | _ => undef) (x := 3) (WI := fun L v w' => RG.SM (fun (c : Bool) (w' : World) => w'.rangeAt w.heap.size 0 la ∧ IsRow w' g n cap (if c = true then f' else f) ∧ Touch w2 w' (fun k => k = g ∨ k = w.heap.size + 1 ∨ k = w.heap.size + 2)) (w.heap.size + 1) (w.heap.size + 2) la x (L 8) (L 9) (L 10) w') (by kernel_rfl) ?gg ?bk rfl ?dd ?xx (RG.SM.start ⟨rA, HA3.out, (Touch.refl w2 _).drew⟩ (by rw [hl1i.out.1]; exact tC) tD) ?does ?fin
  case gg =>
    intro i o ho
    have hi : i < 12 := by have := (Array.getElem?_eq_some_iff.1 ho).1; simpa using this
    match i, hi with
    | 0, _ | 1, _ | 2, _ | 3, _ | 4, _ | 5, _ | 6, _ | 7, _ | 8, _ | 9, _ | 10, _ | 11, _ => injection ho with ho; subst ho; rfl
  case bk =>
    intro i o ho
    have hi : i < 12 := by have := (Array.getElem?_eq_some_iff.1 ho).1; simpa using this
    match i, hi with
    | 0, _ | 1, _ | 2, _ | 3, _ | 4, _ | 5, _ | 6, _ | 7, _ | 8, _ | 9, _ | 10, _ | 11, _ => injection ho with ho; subst ho; simp [Region.binds]
  case dd =>
    intro k hk
    have hk' : k < 80 := by
      simp [RetN.D] at hk
      omega
    simpa using hk'
  case xx => simp
  case does =>
    intro i o ho
    have hi : i < 12 := by have := (Array.getElem?_eq_some_iff.1 ho).1; simpa using this
    match i, hi with
    | 0, _ => injection ho with ho; subst ho; exact RG.Does.read rfl (fun L v w' h => RG.SM.skip (by decide) (by decide) (by decide) h) (fun L a w' hI hd => ex_load_row rfl (hI.fix 2 (Reg.notD rfl) (by decide)) hI.world.inv.1 HD.out.1 HD.out.2.1 (by rw [hl1i.out.1]; exact size79))
    | 1, _ => injection ho with ho; subst ho; exact RG.Does.read rfl (fun L v w' h => RG.SM.skip (by decide) (by decide) (by decide) h) (fun L a w' hI hd => ex_move rfl (hI.fix 1 (Reg.notD rfl) (by decide)))
    | 2, _ => injection ho with ho; subst ho; exact RG.Does.read rfl (fun L v w' h => RG.SM.skip (by decide) (by decide) (by decide) h) (fun L a w' hI hd => ex_fieldo rfl (hI.fix 2 (Reg.notD rfl) (by decide)) (fieldK1 w' _))
    | 3, _ => injection ho with ho; subst ho; exact RG.Does.read rfl (fun L v w' h => RG.SM.skip (by decide) (by decide) (by decide) h) (fun L a w' hI hd => ex_load rfl (hI.pure 2 _ _ rfl (hd ⟨2, .data⟩ (by simp) rfl)) (agg_i w') (by have := hI.world.inv.1 6 _ q6; simpa using this))
    | 4, _ => injection ho with ho; subst ho; exact RG.Does.read rfl (fun L v w' h => RG.SM.skip (by decide) (by decide) (by decide) h) (fun L a w' hI hd => ex_fieldo rfl (hI.fix 2 (Reg.notD rfl) (by decide)) (fieldK4 w' _))
    | 5, _ => injection ho with ho; subst ho; exact RG.Does.read rfl (fun L v w' h => RG.SM.skip (by decide) (by decide) (by decide) h) (fun L a w' hI hd => ex_r0 rfl (hI.pure 4 _ _ rfl (hd ⟨4, .data⟩ (by simp) rfl)) rfl)
    | 6, _ => injection ho with ho; subst ho; exact RG.Does.read rfl (fun L v w' h => RG.SM.skip (by decide) (by decide) (by decide) h) (fun L a w' hI hd => ex_load rfl (hI.pure 5 _ _ rfl (hd ⟨5, .data⟩ (by simp) rfl)) (agg_u64 w') (by have := hI.world.inv.1 13 _ q13; simpa using this))
    | 7, _ => injection ho with ho; subst ho; exact RG.Does.read rfl (fun L v w' h => RG.SM.skip (by decide) (by decide) (by decide) h) (fun L a w' hI hd => ex_addu rfl (hI.pure 6 _ _ rfl (hd ⟨6, .data⟩ (by simp) rfl)) rfl HE2.out)
    | 8, _ => injection ho with ho; subst ho; exact RG.Does.call rfl (fun L a w' hI hd => call6 rfl (hI.pure 1 _ _ rfl (hd ⟨1, .data⟩ (by simp) rfl)) (hI.pure 3 _ _ rfl (hd ⟨3, .data⟩ (by simp) rfl)) rfl rfl rfl (hI.pure 7 _ _ rfl (hd ⟨7, .data⟩ (by simp) rfl)) rfl (callRDo' _ _)) (RG.SM.calls DC.out (by decide) (by decide))
    | 9, _ => injection ho with ho; subst ho; exact RG.Does.put (ls := la) rfl rfl rfl (by rw [hl1i.out.1]; exact size79) hl1i.out.2 (fun L a w' hI hL hd => ⟨(hI.pure 0 _ _ rfl (hd ⟨0, .data⟩ (by simp) rfl)), by obtain ⟨e2, e3⟩ := RG.SM.putC STB.out (by omega) hI.world; exact ⟨w.heap.size + 1, 0, hI.fix 4 (Reg.notD rfl) (by decide), e2, by show RG.SM _ _ _ _ _ (upd L 9 true 8) (upd L 9 true 9) (upd L 9 true 10) _; rw [upd_same, upd_other _ _ (show 8 ≠ 9 by decide), upd_other _ _ (show 10 ≠ 9 by decide)]; exact e3⟩⟩)
    | 10, _ => injection ho with ho; subst ho; exact RG.Does.put (ls := x.cells) rfl rfl rfl size46 (by simp [Stp.cells, Value.oneCell']) (fun L a w' hI hL hd => ⟨(hI.pure 8 _ _ rfl (hd ⟨8, .data⟩ (by simp) rfl)), by obtain ⟨e2, e3⟩ := RG.SM.putE STB.out (by omega) hI.world (hd ⟨8, .data⟩ (by simp) rfl); exact ⟨w.heap.size + 2, 0, hI.fix 5 (Reg.notD rfl) (by decide), e2, by show RG.SM _ _ _ _ _ (upd L 10 true 8) (upd L 10 true 9) (upd L 10 true 10) _; rw [upd_same, upd_other _ _ (show 8 ≠ 10 by decide), upd_other _ _ (show 9 ≠ 10 by decide)]; exact e3⟩⟩)
    | 11, _ => injection ho with ho; subst ho; exact RG.Does.read rfl (fun L v w' h => RG.SM.skip (by decide) (by decide) (by decide) h) (fun L a w' hI hd => ex_assign rfl rfl)
  case fin =>
    intro L a' w' hI hall
    rename_i K2 hK2
    refine hK2 _ _ ?_
    have hw := hI.world
    simp only [hall 8 (by decide), hall 9 (by decide), hall 10 (by decide)] at hw
    have rC := hw.stoC rfl
    have rD := hw.stoE rfl
    obtain ⟨p1, p2, p3⟩ := hw.inv
    have pC : a'.eval (.tmp 4) = .pointer (some ⟨w.heap.size + 1, 0, none⟩) := hI.fix 4 (Reg.notD rfl) (by decide)
    have pD : a'.eval (.tmp 5) = .pointer (some ⟨w.heap.size + 2, 0, none⟩) := hI.fix 5 (Reg.notD rfl) (by decide)
    have pe : a'.eval (.tmp 6) = .bool false := hI.pure 11 6 _ rfl (hall 11 (by decide))
    have hdf : a'.defers = [] := hI.df
    have hT := run_loadVar_mid (P := Try.prog) w' (w.heap.size + 1) 0 _ la dT rC HD.out.1 HD.out.2.1 (by rw [hl1i.out.1]; exact size79)
    have hS := run_loadVar_mid (P := Try.prog) w' (w.heap.size + 2) 0 _ _ dS rD HD.out.2.2.1 HD.out.2.2.2 size46
    have hres := results_cct (Q := Try.prog) (fn := Try.f54) (tmps := a'.tmps) (t := 4) (t' := 5) (t'' := 6) (W := w') (by rfl) pC hT pD hS
    rw [show a'.tmps.getD 6 undef = .bool false from pe] at hres
    go_wp2
    refine bodyPost_ret (v := .tuple #[.agg la.toArray, x.val, .bool false]) hres hdf ⟨rfl, by simpa using p2, ?_⟩
    have := HTW.out.trans' p3 (fun k hk h => by rcases h with h | h | h; exact h; omega; omega)
    exact ⟨this.os, this.tape, this.output, this.size, fun k hk hn => this.block k hk (by simpa using hn)⟩

set_option maxHeartbeats 8000000 in
theorem rw3 {w : World} {g n cap : Nat} {f f' : Nat → Int} {x : Stp} {s0 s1 s2 s3 s4 s5 hand a b c hh r0 r1 r2 r3 val : Int} {ok : Bool} (hr : IsRow w g n cap f) {e2 : Int} (he2 : u64 (r0 + 2) = e2)  (hx : stepOf n f ⟨hand, 2, 0, 0, e2, true⟩ = x) (hf' : wordsOf n f ⟨hand, 2, 0, 0, e2, true⟩ = f') :
    Calls Try.prog 54 #[.agg (tk ⟨s0, s1, s2, s3, s4, s5⟩ hand ⟨1, a, b, c, hh⟩ 3 ⟨r0, r1, r2, r3, 0, 0, 0, 0⟩ ⟨ok, val⟩).toArray, .slice (some ⟨g, 0, none⟩) n cap] w fun e w' =>
      e = .returned (.tuple #[.agg (tk ⟨s0, s1, s2, s3, s4, s5⟩ hand ⟨1, a, b, c, hh⟩ 3 ⟨r0, r1, r2, r3, 0, 0, 0, 0⟩ ⟨true, e2⟩).toArray, x.val, .bool true]) ∧ IsRow w' g n cap f' ∧ w.grownBy w' (some g) := by
  have DO := hide (fun (w' : World) (hr' : IsRow w' g n cap f) => ref_do (s := ⟨hand, 2, 0, 0, e2, true⟩) hr' (by rw [← he2]; exact ⟨u64_lo _, u64_hi _⟩) ⟨by show (1 : Int) ≤ 2; decide, by show (2 : Int) ≤ 5; decide⟩)
  have HX := hide hx
  have HF := hide hf'
  have lg := hr.lt
  obtain ⟨l0, hl0⟩ : ∃ l, tk ⟨s0, s1, s2, s3, s4, s5⟩ hand ⟨1, a, b, c, hh⟩ 3 ⟨r0, r1, r2, r3, 0, 0, 0, 0⟩ ⟨ok, val⟩ = l := ⟨_, rfl⟩
  have hl0' : l0.length = 28 := by rw [← hl0]; rfl
  have hset : ((l0.set 22 (.bool true)).set 23 (.int .u64 e2)) = tk ⟨s0, s1, s2, s3, s4, s5⟩ hand ⟨1, a, b, c, hh⟩ 3 ⟨r0, r1, r2, r3, 0, 0, 0, 0⟩ ⟨true, e2⟩ := by rw [← hl0]; rfl
  obtain ⟨l1, hl1⟩ : ∃ l, tk ⟨s0, s1, s2, s3, s4, s5⟩ hand ⟨1, a, b, c, hh⟩ 3 ⟨r0, r1, r2, r3, 0, 0, 0, 0⟩ ⟨true, e2⟩ = l := ⟨_, rfl⟩
  rw [hl0, hl1]
  rw [hl1] at hset
  have hl1i := hide (show IsTk l1 from by rw [← hl1]; exact tk_is _ _ _ _ _ _)
  obtain ⟨W3, hW3⟩ : ∃ W3, ((w.alloc (.cells l0.toArray 64)).alloc (.cells tk0.toArray 64)).alloc (.cells [Value.int .i64 0, .int .i64 0, .int .i64 0, .int .u64 0, .int .u64 0, .bool false].toArray 77) = W3 := ⟨_, rfl⟩
  have sz3 : W3.heap.size = w.heap.size + 3 := by rw [← hW3]; simp
  have R0 : W3.rowIs w.heap.size 64 28 (lrow l0) := by rw [← hW3]; exact ((rowL_alloc w l0 _ hl0').alloc _).alloc _
  have R1 : W3.rowIs (w.heap.size + 1) 64 28 (lrow tk0) := by
    rw [← hW3]
    have := (rowL_alloc (w.alloc (.cells l0.toArray 64)) tk0 64 (n := 28) rfl).alloc (.cells [Value.int .i64 0, .int .i64 0, .int .i64 0, .int .u64 0, .int .u64 0, .bool false].toArray 77)
    rwa [World.size_alloc] at this
  have R2 : W3.rowIs (w.heap.size + 2) 77 6 (lrow [Value.int .i64 0, .int .i64 0, .int .i64 0, .int .u64 0, .int .u64 0, .bool false]) := by
    rw [← hW3]
    have := rowL_alloc ((w.alloc (.cells l0.toArray 64)).alloc (.cells tk0.toArray 64)) [Value.int .i64 0, .int .i64 0, .int .i64 0, .int .u64 0, .int .u64 0, .bool false] 77 (n := 6) rfl
    rwa [World.size_alloc, World.size_alloc] at this
  have G3 : w.grownBy W3 (some g) := by rw [← hW3]; exact grown_alloc (grown_alloc (grown_alloc (grown_refl _ _) _) _) _
  have HR3 := hide (show IsRow W3 g n cap f from hr.grown (grown_none (by rw [← hW3]; exact grown_alloc (grown_alloc (grown_alloc (grown_refl _ _) _) _) _) none) (by simp))
  have cell : ∀ i v, l0[i]? = some v → W3.cell? ⟨w.heap.size, i, none⟩ = some v := fun i v hv => by rw [R0.cell (i := i) (by have := (List.getElem?_eq_some_iff.1 hv).1; omega), lrow_of hv]
  have g6 : l0[6]? = some (.int .i64 hand) := by rw [← hl0]; rfl
  have g12 : l0[12]? = some (.int .i64 3) := by rw [← hl0]; rfl
  have g13 : l0[13]? = some (.int .u64 r0) := by rw [← hl0]; rfl
  have g22 : l0[22]? = some (.bool ok) := by rw [← hl0]; rfl
  have g23 : l0[23]? = some (.int .u64 val) := by rw [← hl0]; rfl
  have c6 := cell 6 _ g6
  have c12 := cell 12 _ g12
  have c13 := cell 13 _ g13
  have c22 := cell 22 _ g22
  have c23 := cell 23 _ g23
  have G6 := hide g6
  have G12 := hide g12
  have G13 := hide g13
  have G22 := hide g22
  have G23 := hide g23
  obtain ⟨dT, hdT1, hdT2⟩ := row79
  obtain ⟨dS, hdS1, hdS2⟩ := row46
  have HD := hide (And.intro hdT1 (And.intro hdT2 (And.intro hdS1 hdS2)))
  have HR0 := hide R0
  have HR1 := hide R1
  have HR2 := hide R2
  have HG3 := hide G3
  have HSET := hide hset
  have HL0 := hide hl0'
  have HE2 := hide he2
  have b7 : IntKind.u64.wrap (r0 + 2) = e2 := (rwrap_u64 _).trans he2
  clear hx hf' hr R0 R1 R2 G3 cell hset hl0' hl0 hl1 hdT1 hdT2 hdS1 hdS2  g6 g12 g13 g22 g23
  simp only [tk0] at hW3
  have fz22 := HR0.out.frozen 22
  have fz23 := HR0.out.frozen 23
  obtain ⟨la, hla⟩ : ∃ l, ((l0.set 22 (.bool true)).set 23 (.int .u64 e2)) = l := ⟨_, rfl⟩
  have HLA := hide (show la.length = 28 from by rw [← hla]; simpa using HL0.out)
  have GA6 := hide (show la[6]? = some (.int .i64 hand) from by rw [← hla]; simp [G6.out])
  have GA12 := hide (show la[12]? = some (.int .i64 3) from by rw [← hla]; simp [G12.out])
  have GA13 := hide (show la[13]? = some (.int .u64 r0) from by rw [← hla]; simp [G13.out])
  have GA22 := hide (show la[22]? = some (.bool true) from by rw [← hla]; simp [HL0.out])
  have GA23 := hide (show la[23]? = some (.int .u64 e2) from by rw [← hla]; simp [HL0.out])
  obtain ⟨w2, hw2⟩ : ∃ w2, ((W3.setCell ⟨w.heap.size, 22, none⟩ (.bool true)).setCell ⟨w.heap.size, 23, none⟩ (.int .u64 e2)) = w2 := ⟨_, rfl⟩
  have sz2 : w2.heap.size = W3.heap.size := by rw [← hw2]; simp
  have tt2 : Touch W3 w2 (fun k => k = w.heap.size) := by rw [← hw2]; exact (Touch.setCell (S := fun k => k = w.heap.size) (Touch.setCell (S := fun k => k = w.heap.size) (Touch.refl W3 _) ⟨w.heap.size, 22, none⟩ (.inl rfl) _) ⟨w.heap.size, 23, none⟩ (.inl rfl) _)
  have HA0 := hide (show w2.rowIs w.heap.size 64 28 (lrow la) from by rw [← hw2, ← hla]; exact (rowIs.setL (rowIs.setL HR0.out (i := 22) (by simp [HL0.out]) (.bool true)) (i := 23) (by simp [HL0.out]) (.int .u64 e2)))
  have HA1 := hide (HR1.out.of_block (tt2.block _ (by omega) (by omega)))
  have HA2 := hide (HR2.out.of_block (tt2.block _ (by omega) (by omega)))
  have HA3 := hide (HR3.out.block (tt2.block g (by omega) (by omega)))
  have HGA := hide (show w.grownBy w2 (some g) from by rw [← hw2]; exact (grown_setCell (grown_setCell HG3.out _ (.inr (Nat.le_refl _)) _) _ (.inr (Nat.le_refl _)) _))
  have p6 : w2.cell? ⟨w.heap.size, 6, none⟩ = some (.int .i64 hand) := by rw [HA0.out.cell (i := 6) (by omega), lrow_of GA6.out]
  have p12 : w2.cell? ⟨w.heap.size, 12, none⟩ = some (.int .i64 3) := by rw [HA0.out.cell (i := 12) (by omega), lrow_of GA12.out]
  have p13 : w2.cell? ⟨w.heap.size, 13, none⟩ = some (.int .u64 r0) := by rw [HA0.out.cell (i := 13) (by omega), lrow_of GA13.out]
  have p22 : w2.cell? ⟨w.heap.size, 22, none⟩ = some (.bool true) := by rw [HA0.out.cell (i := 22) (by omega), lrow_of GA22.out]
  have p23 : w2.cell? ⟨w.heap.size, 23, none⟩ = some (.int .u64 e2) := by rw [HA0.out.cell (i := 23) (by omega), lrow_of GA23.out]
  have HSA := hide hla
  clear tt2 hla
  have hla : la = l1 := by rw [← HSA.out]; exact HSET.out
  subst hla
  have rA : w2.rangeAt w.heap.size 0 la := rowIs.range HA0.out HLA.out
  have tC : w2.there (w.heap.size + 1) 0 28 := rowIs.there HA1.out (by omega)
  have tD : w2.there (w.heap.size + 2) 0 6 := rowIs.there HA2.out (by omega)
  have HTW := hide (show Touch w w2 (fun k => k = g) from (Touch.of_grown HGA.out).mono (S' := fun k => k = g) (fun k _ h => by simpa using h))
  have q6 := GA6.out
  have q13 := GA13.out
  have STB := hide (show ∀ c w' w'', Touch w' w'' (fun k => k = w.heap.size + 1 ∨ k = w.heap.size + 2) → (fun (c : Bool) (w' : World) => w'.rangeAt w.heap.size 0 la ∧ IsRow w' g n cap (if c = true then f' else f) ∧ Touch w2 w' (fun k => k = g ∨ k = w.heap.size + 1 ∨ k = w.heap.size + 2)) c w' → (fun (c : Bool) (w' : World) => w'.rangeAt w.heap.size 0 la ∧ IsRow w' g n cap (if c = true then f' else f) ∧ Touch w2 w' (fun k => k = g ∨ k = w.heap.size + 1 ∨ k = w.heap.size + 2)) c w'' from fun c w' w'' ht ⟨p1, p2, p3⟩ => by
    have ls := p3.size
    exact ⟨rangeAt_block p1 (ht.block _ (by omega) (by omega)), p2.block (ht.block g (by omega) (by omega)), p3.trans' ht (fun k _ h => .inr h)⟩)
  have DC := hide (show ∀ w', (fun (c : Bool) (w' : World) => w'.rangeAt w.heap.size 0 la ∧ IsRow w' g n cap (if c = true then f' else f) ∧ Touch w2 w' (fun k => k = g ∨ k = w.heap.size + 1 ∨ k = w.heap.size + 2)) false w' → Calls Try.prog 55 #[.slice (some ⟨g, 0, none⟩) n cap, .int .i64 hand, .int .i64 2, .int .i64 (0), .int .u64 0, .int .u64 e2] w' fun e w'' => e = .returned x.val ∧ (fun (c : Bool) (w' : World) => w'.rangeAt w.heap.size 0 la ∧ IsRow w' g n cap (if c = true then f' else f) ∧ Touch w2 w' (fun k => k = g ∨ k = w.heap.size + 1 ∨ k = w.heap.size + 2)) true w'' ∧ w''.heap[w.heap.size + 1]? = w'.heap[w.heap.size + 1]? ∧ w''.heap[w.heap.size + 2]? = w'.heap[w.heap.size + 2]? from fun w' ⟨p1, p2, p3⟩ => by
    have ls := p3.size
    refine (DO.out w' (by simpa using p2)).mono ?_
    rintro e w'' ⟨rfl, h1, h2⟩
    rw [HX.out]
    rw [HF.out] at h1
    exact ⟨rfl, ⟨rangeAt_block p1 (h2.block _ (by omega) (by simp; omega)), by simpa using h1, p3.trans' (Touch.of_grown h2) (fun k _ e => .inl (by simpa using e))⟩, h2.block _ (by omega) (by simp; omega), h2.block _ (by omega) (by simp; omega)⟩)
  go_enter Try.func54, Try.ntmps54
  go_wp2_with fail
  clear hw2 hW3 c6 c12 c13 c22 c23 p6 p12 p13 p22 p23
  refine RG.region (ks := [(0, 71), (1, 72), (2, 73), (3, 74), (4, 75), (5, 76), (6, 77), (7, 78), (8, 79), (11, 6)]) (vals := fun i => match i with
      | 0 => .agg la.toArray
      | 1 => .slice (some ⟨g, 0, none⟩) n cap
      | 2 => .pointer (some ⟨w.heap.size, 6, none⟩)
      | 3 => .int .i64 hand
      | 4 => .pointer (some ⟨w.heap.size, 13, none⟩)
      | 5 => .pointer (some ⟨w.heap.size, 13, none⟩)
      | 6 => .int .u64 r0
      | 7 => .int .u64 e2
      | 8 => .agg #[Value.int .i64 x.hand, .int .i64 x.act, .int .i64 x.at_, .int .u64 x.had, .int .u64 x.put, .bool x.ok]
      | 11 => .bool true
      | _ => undef) (x := 3) (WI := fun L v w' => RG.SM (fun (c : Bool) (w' : World) => w'.rangeAt w.heap.size 0 la ∧ IsRow w' g n cap (if c = true then f' else f) ∧ Touch w2 w' (fun k => k = g ∨ k = w.heap.size + 1 ∨ k = w.heap.size + 2)) (w.heap.size + 1) (w.heap.size + 2) la x (L 8) (L 9) (L 10) w') (by kernel_rfl) ?gg ?bk rfl ?dd ?xx (RG.SM.start ⟨rA, HA3.out, (Touch.refl w2 _).drew⟩ (by rw [hl1i.out.1]; exact tC) tD) ?does ?fin
  case gg =>
    intro i o ho
    have hi : i < 12 := by have := (Array.getElem?_eq_some_iff.1 ho).1; simpa using this
    match i, hi with
    | 0, _ | 1, _ | 2, _ | 3, _ | 4, _ | 5, _ | 6, _ | 7, _ | 8, _ | 9, _ | 10, _ | 11, _ => injection ho with ho; subst ho; rfl
  case bk =>
    intro i o ho
    have hi : i < 12 := by have := (Array.getElem?_eq_some_iff.1 ho).1; simpa using this
    match i, hi with
    | 0, _ | 1, _ | 2, _ | 3, _ | 4, _ | 5, _ | 6, _ | 7, _ | 8, _ | 9, _ | 10, _ | 11, _ => injection ho with ho; subst ho; simp [Region.binds]
  case dd =>
    intro k hk
    have hk' : k < 80 := by
      simp [RetN.D] at hk
      omega
    simpa using hk'
  case xx => simp
  case does =>
    intro i o ho
    have hi : i < 12 := by have := (Array.getElem?_eq_some_iff.1 ho).1; simpa using this
    match i, hi with
    | 0, _ => injection ho with ho; subst ho; exact RG.Does.read rfl (fun L v w' h => RG.SM.skip (by decide) (by decide) (by decide) h) (fun L a w' hI hd => ex_load_row rfl (hI.fix 2 (Reg.notD rfl) (by decide)) hI.world.inv.1 HD.out.1 HD.out.2.1 (by rw [hl1i.out.1]; exact size79))
    | 1, _ => injection ho with ho; subst ho; exact RG.Does.read rfl (fun L v w' h => RG.SM.skip (by decide) (by decide) (by decide) h) (fun L a w' hI hd => ex_move rfl (hI.fix 1 (Reg.notD rfl) (by decide)))
    | 2, _ => injection ho with ho; subst ho; exact RG.Does.read rfl (fun L v w' h => RG.SM.skip (by decide) (by decide) (by decide) h) (fun L a w' hI hd => ex_fieldo rfl (hI.fix 2 (Reg.notD rfl) (by decide)) (fieldK1 w' _))
    | 3, _ => injection ho with ho; subst ho; exact RG.Does.read rfl (fun L v w' h => RG.SM.skip (by decide) (by decide) (by decide) h) (fun L a w' hI hd => ex_load rfl (hI.pure 2 _ _ rfl (hd ⟨2, .data⟩ (by simp) rfl)) (agg_i w') (by have := hI.world.inv.1 6 _ q6; simpa using this))
    | 4, _ => injection ho with ho; subst ho; exact RG.Does.read rfl (fun L v w' h => RG.SM.skip (by decide) (by decide) (by decide) h) (fun L a w' hI hd => ex_fieldo rfl (hI.fix 2 (Reg.notD rfl) (by decide)) (fieldK4 w' _))
    | 5, _ => injection ho with ho; subst ho; exact RG.Does.read rfl (fun L v w' h => RG.SM.skip (by decide) (by decide) (by decide) h) (fun L a w' hI hd => ex_r0 rfl (hI.pure 4 _ _ rfl (hd ⟨4, .data⟩ (by simp) rfl)) rfl)
    | 6, _ => injection ho with ho; subst ho; exact RG.Does.read rfl (fun L v w' h => RG.SM.skip (by decide) (by decide) (by decide) h) (fun L a w' hI hd => ex_load rfl (hI.pure 5 _ _ rfl (hd ⟨5, .data⟩ (by simp) rfl)) (agg_u64 w') (by have := hI.world.inv.1 13 _ q13; simpa using this))
    | 7, _ => injection ho with ho; subst ho; exact RG.Does.read rfl (fun L v w' h => RG.SM.skip (by decide) (by decide) (by decide) h) (fun L a w' hI hd => ex_addu rfl (hI.pure 6 _ _ rfl (hd ⟨6, .data⟩ (by simp) rfl)) rfl HE2.out)
    | 8, _ => injection ho with ho; subst ho; exact RG.Does.call rfl (fun L a w' hI hd => call6 rfl (hI.pure 1 _ _ rfl (hd ⟨1, .data⟩ (by simp) rfl)) (hI.pure 3 _ _ rfl (hd ⟨3, .data⟩ (by simp) rfl)) rfl rfl rfl (hI.pure 7 _ _ rfl (hd ⟨7, .data⟩ (by simp) rfl)) rfl (callRDo' _ _)) (RG.SM.calls DC.out (by decide) (by decide))
    | 9, _ => injection ho with ho; subst ho; exact RG.Does.put (ls := la) rfl rfl rfl (by rw [hl1i.out.1]; exact size79) hl1i.out.2 (fun L a w' hI hL hd => ⟨(hI.pure 0 _ _ rfl (hd ⟨0, .data⟩ (by simp) rfl)), by obtain ⟨e2, e3⟩ := RG.SM.putC STB.out (by omega) hI.world; exact ⟨w.heap.size + 1, 0, hI.fix 4 (Reg.notD rfl) (by decide), e2, by show RG.SM _ _ _ _ _ (upd L 9 true 8) (upd L 9 true 9) (upd L 9 true 10) _; rw [upd_same, upd_other _ _ (show 8 ≠ 9 by decide), upd_other _ _ (show 10 ≠ 9 by decide)]; exact e3⟩⟩)
    | 10, _ => injection ho with ho; subst ho; exact RG.Does.put (ls := x.cells) rfl rfl rfl size46 (by simp [Stp.cells, Value.oneCell']) (fun L a w' hI hL hd => ⟨(hI.pure 8 _ _ rfl (hd ⟨8, .data⟩ (by simp) rfl)), by obtain ⟨e2, e3⟩ := RG.SM.putE STB.out (by omega) hI.world (hd ⟨8, .data⟩ (by simp) rfl); exact ⟨w.heap.size + 2, 0, hI.fix 5 (Reg.notD rfl) (by decide), e2, by show RG.SM _ _ _ _ _ (upd L 10 true 8) (upd L 10 true 9) (upd L 10 true 10) _; rw [upd_same, upd_other _ _ (show 8 ≠ 10 by decide), upd_other _ _ (show 9 ≠ 10 by decide)]; exact e3⟩⟩)
    | 11, _ => injection ho with ho; subst ho; exact RG.Does.read rfl (fun L v w' h => RG.SM.skip (by decide) (by decide) (by decide) h) (fun L a w' hI hd => ex_assign rfl rfl)
  case fin =>
    intro L a' w' hI hall
    rename_i K2 hK2
    refine hK2 _ _ ?_
    have hw := hI.world
    simp only [hall 8 (by decide), hall 9 (by decide), hall 10 (by decide)] at hw
    have rC := hw.stoC rfl
    have rD := hw.stoE rfl
    obtain ⟨p1, p2, p3⟩ := hw.inv
    have pC : a'.eval (.tmp 4) = .pointer (some ⟨w.heap.size + 1, 0, none⟩) := hI.fix 4 (Reg.notD rfl) (by decide)
    have pD : a'.eval (.tmp 5) = .pointer (some ⟨w.heap.size + 2, 0, none⟩) := hI.fix 5 (Reg.notD rfl) (by decide)
    have pe : a'.eval (.tmp 6) = .bool true := hI.pure 11 6 _ rfl (hall 11 (by decide))
    have hdf : a'.defers = [] := hI.df
    have hT := run_loadVar_mid (P := Try.prog) w' (w.heap.size + 1) 0 _ la dT rC HD.out.1 HD.out.2.1 (by rw [hl1i.out.1]; exact size79)
    have hS := run_loadVar_mid (P := Try.prog) w' (w.heap.size + 2) 0 _ _ dS rD HD.out.2.2.1 HD.out.2.2.2 size46
    have hres := results_cct (Q := Try.prog) (fn := Try.f54) (tmps := a'.tmps) (t := 4) (t' := 5) (t'' := 6) (W := w') (by rfl) pC hT pD hS
    rw [show a'.tmps.getD 6 undef = .bool true from pe] at hres
    go_wp2
    refine bodyPost_ret (v := .tuple #[.agg la.toArray, x.val, .bool true]) hres hdf ⟨rfl, by simpa using p2, ?_⟩
    have := HTW.out.trans' p3 (fun k hk h => by rcases h with h | h | h; exact h; omega; omega)
    exact ⟨this.os, this.tape, this.output, this.size, fun k hk hn => this.block k hk (by simpa using hn)⟩

end Seq
end Go.Proofs.Ytkiojiibppdjjaa
