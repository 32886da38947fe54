/-
  Lemmas: EpochRN, EpochRH, EpochRK, L11Wrong, L11RanE.
-/
import Derived.Test.YtdflicgjkleonaaTp35
import Derived.Test.YtdflicgjkleonaaTp36
import Derived.Test.YtdflicgjkleonaaTp34
import Derived.Test.YtdflicgjkleonaaTp37
import Derived.Test.YtdflicgjkleonaaTp38
import Derived.Test.YtdflicgjkleonaaTp26
import Derived.Test.YtdflicgjkleonaaTp19
/-
  The epoch's reference: next.
-/
namespace Go.Proofs.Ytdflicgjkleonaa
open Go.RowKit
set_option linter.unusedVariables false
set_option linter.unusedSimpArgs false
set_option linter.unnecessarySimpa false
set_option maxRecDepth 20000
namespace Epoch

set_option maxHeartbeats 8000000 in
theorem rnext_more {w : World} {x : Stp} {s0 s1 s2 s3 s4 s5 hand a b c hh r0 r1 r2 r3 r4 val kd st_ : Int} {ok : Bool} (hn : 0 ≤ r2 ∧ r2 ≤ 64) (a1 : r2 + 1 < s5) :
    Calls Try.prog 56 #[.agg (tk ⟨s0, s1, s2, s3, s4, s5⟩ hand ⟨kd, a, b, c, hh⟩ st_ ⟨r0, r1, r2, r3, r4, 0, 0, 0⟩ ⟨ok, val⟩).toArray, x.val] w fun e w' => e = .returned (.tuple #[.agg (tk ⟨s0, s1, s2, s3, s4, s5⟩ hand ⟨kd, a, b, c, hh⟩ 5 ⟨r0, r1, (r2 + 1), r3, r4, 0, 0, 0⟩ ⟨ok, val⟩).toArray, x.val, .bool false]) ∧ w.grownBy w' none := by
  have b6 : IntKind.u64.wrap (r2 + 1) = r2 + 1 := by rw [IntKind.wrap_u64]; omega
  have b8 : IntKind.i64.wrap (r2 + 1) = r2 + 1 := by rw [IntKind.wrap_i64]; omega
  have b9 : wrap64 (r2 + 1) = r2 + 1 := by unfold wrap64; omega
  obtain ⟨l0, hl0⟩ : ∃ l, tk ⟨s0, s1, s2, s3, s4, s5⟩ hand ⟨kd, a, b, c, hh⟩ st_ ⟨r0, r1, r2, r3, r4, 0, 0, 0⟩ ⟨ok, val⟩ = l := ⟨_, rfl⟩
  have hl0' : l0.length = 28 := by rw [← hl0]; rfl
  have hset : ((l0.set 15 (.int .u64 (r2 + 1))).set 12 (.int .i64 5)) = tk ⟨s0, s1, s2, s3, s4, s5⟩ hand ⟨kd, a, b, c, hh⟩ 5 ⟨r0, r1, (r2 + 1), r3, r4, 0, 0, 0⟩ ⟨ok, val⟩ := by rw [← hl0]; rfl
  obtain ⟨l1, hl1⟩ : ∃ l, tk ⟨s0, s1, s2, s3, s4, s5⟩ hand ⟨kd, a, b, c, hh⟩ 5 ⟨r0, r1, (r2 + 1), r3, r4, 0, 0, 0⟩ ⟨ok, val⟩ = l := ⟨_, rfl⟩
  rw [hl0, hl1]
  rw [hl1] at hset
  have hl1i := hide (show IsTk l1 from by rw [← hl1]; exact tk_is _ _ _ _ _ _)
  obtain ⟨W4, hW4⟩ : ∃ W4, (((w.alloc (.cells l0.toArray 64)).alloc (.cells [Value.int .i64 x.hand, .int .i64 x.act, .int .i64 x.at_, .int .u64 x.had, .int .u64 x.put, .bool x.ok].toArray 71)).alloc (.cells tk0.toArray 64)).alloc (.cells [Value.int .i64 0, .int .i64 0, .int .i64 0, .int .u64 0, .int .u64 0, .bool false].toArray 71) = W4 := ⟨_, rfl⟩
  have sz4 : W4.heap.size = w.heap.size + 4 := by rw [← hW4]; simp
  have R0h := hide (show W4.rowIs w.heap.size 64 28 (lrow l0) from by rw [← hW4]; exact (((rowL_alloc w l0 _ hl0').alloc _).alloc _).alloc _)
  have RXh := hide (show W4.rowIs (w.heap.size + 1) 71 6 (lrow [Value.int .i64 x.hand, .int .i64 x.act, .int .i64 x.at_, .int .u64 x.had, .int .u64 x.put, .bool x.ok]) from by
    rw [← hW4]
    have := ((rowL_alloc (w.alloc (.cells l0.toArray 64)) [Value.int .i64 x.hand, .int .i64 x.act, .int .i64 x.at_, .int .u64 x.had, .int .u64 x.put, .bool x.ok] 71 (n := 6) rfl).alloc (.cells tk0.toArray 64)).alloc (.cells [Value.int .i64 0, .int .i64 0, .int .i64 0, .int .u64 0, .int .u64 0, .bool false].toArray 71)
    rwa [World.size_alloc] at this)
  have R2h := hide (show W4.rowIs (w.heap.size + 2) 64 28 (lrow tk0) from by
    rw [← hW4]
    have := (rowL_alloc ((w.alloc (.cells l0.toArray 64)).alloc (.cells [Value.int .i64 x.hand, .int .i64 x.act, .int .i64 x.at_, .int .u64 x.had, .int .u64 x.put, .bool x.ok].toArray 71)) tk0 64 (n := 28) rfl).alloc (.cells [Value.int .i64 0, .int .i64 0, .int .i64 0, .int .u64 0, .int .u64 0, .bool false].toArray 71)
    rwa [World.size_alloc, World.size_alloc] at this)
  have R3h := hide (show W4.rowIs (w.heap.size + 3) 71 6 (lrow [Value.int .i64 0, .int .i64 0, .int .i64 0, .int .u64 0, .int .u64 0, .bool false]) from by
    rw [← hW4]
    have := rowL_alloc (((w.alloc (.cells l0.toArray 64)).alloc (.cells [Value.int .i64 x.hand, .int .i64 x.act, .int .i64 x.at_, .int .u64 x.had, .int .u64 x.put, .bool x.ok].toArray 71)).alloc (.cells tk0.toArray 64)) [Value.int .i64 0, .int .i64 0, .int .i64 0, .int .u64 0, .int .u64 0, .bool false] 71 (n := 6) rfl
    rwa [World.size_alloc, World.size_alloc, World.size_alloc] at this)
  have T4 := hide (show Touch w W4 (fun _ => False) from by rw [← hW4]; exact ((((Touch.refl w _).alloc _).alloc _).alloc _).alloc _)
  have cell : ∀ i v, l0[i]? = some v → W4.cell? ⟨w.heap.size, i, none⟩ = some v := fun i v hv => by rw [R0h.out.cell (i := i) (by have := (List.getElem?_eq_some_iff.1 hv).1; omega), lrow_of hv]
  have c5 := cell 5 (.int .i64 s5) (by rw [← hl0]; rfl)
  have f5 := R0h.out.frozen 5
  have c12 := cell 12 (.int .i64 st_) (by rw [← hl0]; rfl)
  have f12 := R0h.out.frozen 12
  have c15 := cell 15 (.int .u64 r2) (by rw [← hl0]; rfl)
  have f15 := R0h.out.frozen 15
  have c17 := cell 17 (.int .u64 r4) (by rw [← hl0]; rfl)
  have f17 := R0h.out.frozen 17
  have c22 := cell 22 (.bool ok) (by rw [← hl0]; rfl)
  have f22 := R0h.out.frozen 22
  have c23 := cell 23 (.int .u64 val) (by rw [← hl0]; rfl)
  have f23 := R0h.out.frozen 23
  obtain ⟨dT, hdT1, hdT2⟩ := row79
  obtain ⟨dS, hdS1, hdS2⟩ := row46
  have HD := hide (And.intro hdT1 (And.intro hdT2 (And.intro hdS1 hdS2)))
  have HSET := hide hset
  have HL0 := hide hl0'
  have lw4 : w.heap.size < W4.heap.size := by omega
  clear cell hset hl0' hl0 hl1 hdT1 hdT2 hdS1 hdS2 hn
  simp only [tk0] at hW4
  simp only [Stp.val]
  go_enter Try.func56, Try.ntmps56
  go_wp2_with fail
  clear b6 b8 b9 hW4 c5 f5 c12 f12 c15 f15 c17 f17 c22 f22 c23 f23
  obtain ⟨WA, hWA⟩ : ∃ W, ((W4.setCell ⟨w.heap.size, 15, none⟩ (.int .u64 (r2 + 1))).setCell ⟨w.heap.size, 12, none⟩ (.int .i64 5)) = W := ⟨_, rfl⟩
  have tt : Touch W4 WA (fun k => k = w.heap.size) := by rw [← hWA]; exact (Touch.setCell (S := fun k => k = w.heap.size) (Touch.setCell (S := fun k => k = w.heap.size) (Touch.refl W4 _) ⟨w.heap.size, 15, none⟩ (.inl rfl) _) ⟨w.heap.size, 12, none⟩ (.inl rfl) _)
  have szA : WA.heap.size = W4.heap.size := by rw [← hWA]; simp
  have rA : WA.rangeAt w.heap.size 0 l1 := by
    have := rowIs.range (rowIs.setL (rowIs.setL R0h.out (i := 15) (by simp [HL0.out]) (.int .u64 (r2 + 1))) (i := 12) (by simp [HL0.out]) (.int .i64 5)) (by simp [HL0.out])
    rw [HSET.out, hWA] at this
    exact this
  have rB : WA.rangeAt (w.heap.size + 1) 0 [Value.int .i64 x.hand, .int .i64 x.act, .int .i64 x.at_, .int .u64 x.had, .int .u64 x.put, .bool x.ok] := rowIs.range (RXh.out.of_block (tt.block _ (by omega) (by omega))) rfl
  have tC : WA.there (w.heap.size + 2) 0 28 := rowIs.there (R2h.out.of_block (tt.block _ (by omega) (by omega))) (by omega)
  have tD : WA.there (w.heap.size + 3) 0 6 := rowIs.there (R3h.out.of_block (tt.block _ (by omega) (by omega))) (by omega)
  have HTW := hide (show Touch w WA (fun _ => False) from T4.out.trans' tt (fun k hk h => by omega))
  rw [hWA]
  clear hWA tt T4
  refine RetN.region (ks := [(0, 22), (1, 23), (4, 6)]) (vals := fun i => match i with
      | 0 => .agg l1.toArray
      | 1 => .agg #[Value.int .i64 x.hand, .int .i64 x.act, .int .i64 x.at_, .int .u64 x.had, .int .u64 x.put, .bool x.ok]
      | 4 => .bool false
      | _ => undef) (C := w.heap.size + 2) (E := w.heap.size + 3) (iC := 2) (iE := 3) (lt := l1) (ls := [Value.int .i64 x.hand, .int .i64 x.act, .int .i64 x.at_, .int .u64 x.had, .int .u64 x.put, .bool x.ok]) (by kernel_rfl) ?g ?b rfl (by omega) (by decide) ?dd hl1i.out.2 (by simp [Value.oneCell']) (by rw [hl1i.out.1]; exact tC) tD ?kinds ?fin
  case g =>
    intro i o ho
    have hi : i < 5 := by have := (Array.getElem?_eq_some_iff.1 ho).1; simpa using this
    match i, hi with
    | 0, _ | 1, _ | 2, _ | 3, _ | 4, _ => injection ho with ho; subst ho; rfl
  case b =>
    intro i o ho
    have hi : i < 5 := by have := (Array.getElem?_eq_some_iff.1 ho).1; simpa using this
    match i, hi with
    | 0, _ | 1, _ | 2, _ | 3, _ | 4, _ => injection ho with ho; subst ho; simp [Region.binds]
  case dd =>
    intro k hk
    have hk' : k < 31 := by
      simp [RetN.D] at hk
      omega
    simpa using hk'
  case kinds =>
    intro i o ho
    have hi : i < 5 := by have := (Array.getElem?_eq_some_iff.1 ho).1; simpa using this
    match i, hi with
    | 0, _ => injection ho with ho; subst ho; exact .inl ⟨22, _, rfl, rfl, fun L a w' hI hd => ex_load_row rfl (hI.fix 2 (Reg.notD rfl)) (rangeAt_block rA (hI.tch.block _ (by omega) (by omega))) HD.out.1 HD.out.2.1 (by rw [hl1i.out.1]; exact size79)⟩
    | 1, _ => injection ho with ho; subst ho; exact .inl ⟨23, _, rfl, rfl, fun L a w' hI hd => ex_load_row rfl (hI.fix 3 (Reg.notD rfl)) (rangeAt_block rB (hI.tch.block _ (by omega) (by omega))) HD.out.2.2.1 HD.out.2.2.2 size46⟩
    | 2, _ => injection ho with ho; subst ho; exact .inr (.inl ⟨rfl, rfl, _, _, _, rfl, (by rw [hl1i.out.1]; exact size79), fun L a w' hI hd => ⟨hI.fix 4 (Reg.notD rfl), (hI.pure 0 _ _ rfl (hd ⟨0, .data⟩ (by simp) rfl))⟩⟩)
    | 3, _ => injection ho with ho; subst ho; exact .inr (.inr ⟨rfl, rfl, _, _, _, rfl, size46, fun L a w' hI hd => ⟨hI.fix 5 (Reg.notD rfl), (hI.pure 1 _ _ rfl (hd ⟨1, .data⟩ (by simp) rfl))⟩⟩)
    | 4, _ => injection ho with ho; subst ho; exact .inl ⟨6, _, rfl, rfl, fun L a w' hI hd => ex_assign rfl rfl⟩
  case fin =>
    intro L a' w' hI hall
    rename_i K2 hK2
    refine hK2 _ _ ?_
    have rC := hI.sC (hall 2 (by decide))
    have rD := hI.sE (hall 3 (by decide))
    have pC : a'.eval (.tmp 4) = .pointer (some ⟨w.heap.size + 2, 0, none⟩) := hI.fix 4 (Reg.notD rfl)
    have pD : a'.eval (.tmp 5) = .pointer (some ⟨w.heap.size + 3, 0, none⟩) := hI.fix 5 (Reg.notD rfl)
    have pe : a'.eval (.tmp 6) = .bool false := hI.pure 4 6 _ rfl (hall 4 (by decide))
    have tch := hI.tch
    have hdf : a'.defers = [] := hI.df
    have hT := run_loadVar_mid (P := Try.prog) w' (w.heap.size + 2) 0 _ l1 dT rC HD.out.1 HD.out.2.1 (by rw [hl1i.out.1]; exact size79)
    have hS := run_loadVar_mid (P := Try.prog) w' (w.heap.size + 3) 0 _ _ dS rD HD.out.2.2.1 HD.out.2.2.2 size46
    have hres := results_cct (Q := Try.prog) (fn := Try.f56) (tmps := a'.tmps) (t := 4) (t' := 5) (t'' := 6) (W := w') (by rfl) pC hT pD hS
    rw [show a'.tmps.getD 6 undef = .bool false from pe] at hres
    go_wp2
    refine bodyPost_ret (v := .tuple #[.agg l1.toArray, x.val, .bool false]) hres hdf ⟨rfl, ?_⟩
    have := HTW.out.trans' tch (fun k hk h => absurd hk (by omega))
    exact ⟨this.os, this.tape, this.output, this.size, fun k hk hn => this.block k hk (fun h => h)⟩

set_option maxHeartbeats 8000000 in
theorem rnext_end {w : World} {x : Stp} {s0 s1 s2 s3 s4 s5 hand a b c hh r0 r1 r2 r3 r4 val kd st_ : Int} {ok : Bool} (hn : 0 ≤ r2 ∧ r2 ≤ 64) (a1 : ¬ r2 + 1 < s5) :
    Calls Try.prog 56 #[.agg (tk ⟨s0, s1, s2, s3, s4, s5⟩ hand ⟨kd, a, b, c, hh⟩ st_ ⟨r0, r1, r2, r3, r4, 0, 0, 0⟩ ⟨ok, val⟩).toArray, x.val] w fun e w' => e = .returned (.tuple #[.agg (tk ⟨s0, s1, s2, s3, s4, s5⟩ hand ⟨kd, a, b, c, hh⟩ 5 ⟨r0, r1, (r2 + 1), r3, r4, 0, 0, 0⟩ ⟨true, r4⟩).toArray, x.val, .bool true]) ∧ w.grownBy w' none := by
  have b6 : IntKind.u64.wrap (r2 + 1) = r2 + 1 := by rw [IntKind.wrap_u64]; omega
  have b8 : IntKind.i64.wrap (r2 + 1) = r2 + 1 := by rw [IntKind.wrap_i64]; omega
  have b9 : wrap64 (r2 + 1) = r2 + 1 := by unfold wrap64; omega
  obtain ⟨l0, hl0⟩ : ∃ l, tk ⟨s0, s1, s2, s3, s4, s5⟩ hand ⟨kd, a, b, c, hh⟩ st_ ⟨r0, r1, r2, r3, r4, 0, 0, 0⟩ ⟨ok, val⟩ = l := ⟨_, rfl⟩
  have hl0' : l0.length = 28 := by rw [← hl0]; rfl
  have hset : ((((l0.set 15 (.int .u64 (r2 + 1))).set 12 (.int .i64 5)).set 22 (.bool true)).set 23 (.int .u64 r4)) = tk ⟨s0, s1, s2, s3, s4, s5⟩ hand ⟨kd, a, b, c, hh⟩ 5 ⟨r0, r1, (r2 + 1), r3, r4, 0, 0, 0⟩ ⟨true, r4⟩ := by rw [← hl0]; rfl
  obtain ⟨l1, hl1⟩ : ∃ l, tk ⟨s0, s1, s2, s3, s4, s5⟩ hand ⟨kd, a, b, c, hh⟩ 5 ⟨r0, r1, (r2 + 1), r3, r4, 0, 0, 0⟩ ⟨true, r4⟩ = l := ⟨_, rfl⟩
  rw [hl0, hl1]
  rw [hl1] at hset
  have hl1i := hide (show IsTk l1 from by rw [← hl1]; exact tk_is _ _ _ _ _ _)
  obtain ⟨W4, hW4⟩ : ∃ W4, (((w.alloc (.cells l0.toArray 64)).alloc (.cells [Value.int .i64 x.hand, .int .i64 x.act, .int .i64 x.at_, .int .u64 x.had, .int .u64 x.put, .bool x.ok].toArray 71)).alloc (.cells tk0.toArray 64)).alloc (.cells [Value.int .i64 0, .int .i64 0, .int .i64 0, .int .u64 0, .int .u64 0, .bool false].toArray 71) = W4 := ⟨_, rfl⟩
  have sz4 : W4.heap.size = w.heap.size + 4 := by rw [← hW4]; simp
  have R0h := hide (show W4.rowIs w.heap.size 64 28 (lrow l0) from by rw [← hW4]; exact (((rowL_alloc w l0 _ hl0').alloc _).alloc _).alloc _)
  have RXh := hide (show W4.rowIs (w.heap.size + 1) 71 6 (lrow [Value.int .i64 x.hand, .int .i64 x.act, .int .i64 x.at_, .int .u64 x.had, .int .u64 x.put, .bool x.ok]) from by
    rw [← hW4]
    have := ((rowL_alloc (w.alloc (.cells l0.toArray 64)) [Value.int .i64 x.hand, .int .i64 x.act, .int .i64 x.at_, .int .u64 x.had, .int .u64 x.put, .bool x.ok] 71 (n := 6) rfl).alloc (.cells tk0.toArray 64)).alloc (.cells [Value.int .i64 0, .int .i64 0, .int .i64 0, .int .u64 0, .int .u64 0, .bool false].toArray 71)
    rwa [World.size_alloc] at this)
  have R2h := hide (show W4.rowIs (w.heap.size + 2) 64 28 (lrow tk0) from by
    rw [← hW4]
    have := (rowL_alloc ((w.alloc (.cells l0.toArray 64)).alloc (.cells [Value.int .i64 x.hand, .int .i64 x.act, .int .i64 x.at_, .int .u64 x.had, .int .u64 x.put, .bool x.ok].toArray 71)) tk0 64 (n := 28) rfl).alloc (.cells [Value.int .i64 0, .int .i64 0, .int .i64 0, .int .u64 0, .int .u64 0, .bool false].toArray 71)
    rwa [World.size_alloc, World.size_alloc] at this)
  have R3h := hide (show W4.rowIs (w.heap.size + 3) 71 6 (lrow [Value.int .i64 0, .int .i64 0, .int .i64 0, .int .u64 0, .int .u64 0, .bool false]) from by
    rw [← hW4]
    have := rowL_alloc (((w.alloc (.cells l0.toArray 64)).alloc (.cells [Value.int .i64 x.hand, .int .i64 x.act, .int .i64 x.at_, .int .u64 x.had, .int .u64 x.put, .bool x.ok].toArray 71)).alloc (.cells tk0.toArray 64)) [Value.int .i64 0, .int .i64 0, .int .i64 0, .int .u64 0, .int .u64 0, .bool false] 71 (n := 6) rfl
    rwa [World.size_alloc, World.size_alloc, World.size_alloc] at this)
  have T4 := hide (show Touch w W4 (fun _ => False) from by rw [← hW4]; exact ((((Touch.refl w _).alloc _).alloc _).alloc _).alloc _)
  have cell : ∀ i v, l0[i]? = some v → W4.cell? ⟨w.heap.size, i, none⟩ = some v := fun i v hv => by rw [R0h.out.cell (i := i) (by have := (List.getElem?_eq_some_iff.1 hv).1; omega), lrow_of hv]
  have c5 := cell 5 (.int .i64 s5) (by rw [← hl0]; rfl)
  have f5 := R0h.out.frozen 5
  have c12 := cell 12 (.int .i64 st_) (by rw [← hl0]; rfl)
  have f12 := R0h.out.frozen 12
  have c15 := cell 15 (.int .u64 r2) (by rw [← hl0]; rfl)
  have f15 := R0h.out.frozen 15
  have c17 := cell 17 (.int .u64 r4) (by rw [← hl0]; rfl)
  have f17 := R0h.out.frozen 17
  have c22 := cell 22 (.bool ok) (by rw [← hl0]; rfl)
  have f22 := R0h.out.frozen 22
  have c23 := cell 23 (.int .u64 val) (by rw [← hl0]; rfl)
  have f23 := R0h.out.frozen 23
  obtain ⟨dT, hdT1, hdT2⟩ := row79
  obtain ⟨dS, hdS1, hdS2⟩ := row46
  have HD := hide (And.intro hdT1 (And.intro hdT2 (And.intro hdS1 hdS2)))
  have HSET := hide hset
  have HL0 := hide hl0'
  have lw4 : w.heap.size < W4.heap.size := by omega
  clear cell hset hl0' hl0 hl1 hdT1 hdT2 hdS1 hdS2 hn
  simp only [tk0] at hW4
  simp only [Stp.val]
  go_enter Try.func56, Try.ntmps56
  go_wp2_with fail
  clear b6 b8 b9 hW4 c5 f5 c12 f12 c15 f15 c17 f17 c22 f22 c23 f23
  obtain ⟨WA, hWA⟩ : ∃ W, ((((W4.setCell ⟨w.heap.size, 15, none⟩ (.int .u64 (r2 + 1))).setCell ⟨w.heap.size, 12, none⟩ (.int .i64 5)).setCell ⟨w.heap.size, 22, none⟩ (.bool true)).setCell ⟨w.heap.size, 23, none⟩ (.int .u64 r4)) = W := ⟨_, rfl⟩
  have tt : Touch W4 WA (fun k => k = w.heap.size) := by rw [← hWA]; exact (Touch.setCell (S := fun k => k = w.heap.size) (Touch.setCell (S := fun k => k = w.heap.size) (Touch.setCell (S := fun k => k = w.heap.size) (Touch.setCell (S := fun k => k = w.heap.size) (Touch.refl W4 _) ⟨w.heap.size, 15, none⟩ (.inl rfl) _) ⟨w.heap.size, 12, none⟩ (.inl rfl) _) ⟨w.heap.size, 22, none⟩ (.inl rfl) _) ⟨w.heap.size, 23, none⟩ (.inl rfl) _)
  have szA : WA.heap.size = W4.heap.size := by rw [← hWA]; simp
  have rA : WA.rangeAt w.heap.size 0 l1 := by
    have := rowIs.range (rowIs.setL (rowIs.setL (rowIs.setL (rowIs.setL R0h.out (i := 15) (by simp [HL0.out]) (.int .u64 (r2 + 1))) (i := 12) (by simp [HL0.out]) (.int .i64 5)) (i := 22) (by simp [HL0.out]) (.bool true)) (i := 23) (by simp [HL0.out]) (.int .u64 r4)) (by simp [HL0.out])
    rw [HSET.out, hWA] at this
    exact this
  have rB : WA.rangeAt (w.heap.size + 1) 0 [Value.int .i64 x.hand, .int .i64 x.act, .int .i64 x.at_, .int .u64 x.had, .int .u64 x.put, .bool x.ok] := rowIs.range (RXh.out.of_block (tt.block _ (by omega) (by omega))) rfl
  have tC : WA.there (w.heap.size + 2) 0 28 := rowIs.there (R2h.out.of_block (tt.block _ (by omega) (by omega))) (by omega)
  have tD : WA.there (w.heap.size + 3) 0 6 := rowIs.there (R3h.out.of_block (tt.block _ (by omega) (by omega))) (by omega)
  have HTW := hide (show Touch w WA (fun _ => False) from T4.out.trans' tt (fun k hk h => by omega))
  rw [hWA]
  clear hWA tt T4
  refine RetN.region (ks := [(0, 29), (1, 30), (4, 6)]) (vals := fun i => match i with
      | 0 => .agg l1.toArray
      | 1 => .agg #[Value.int .i64 x.hand, .int .i64 x.act, .int .i64 x.at_, .int .u64 x.had, .int .u64 x.put, .bool x.ok]
      | 4 => .bool true
      | _ => undef) (C := w.heap.size + 2) (E := w.heap.size + 3) (iC := 2) (iE := 3) (lt := l1) (ls := [Value.int .i64 x.hand, .int .i64 x.act, .int .i64 x.at_, .int .u64 x.had, .int .u64 x.put, .bool x.ok]) (by kernel_rfl) ?g ?b rfl (by omega) (by decide) ?dd hl1i.out.2 (by simp [Value.oneCell']) (by rw [hl1i.out.1]; exact tC) tD ?kinds ?fin
  case g =>
    intro i o ho
    have hi : i < 5 := by have := (Array.getElem?_eq_some_iff.1 ho).1; simpa using this
    match i, hi with
    | 0, _ | 1, _ | 2, _ | 3, _ | 4, _ => injection ho with ho; subst ho; rfl
  case b =>
    intro i o ho
    have hi : i < 5 := by have := (Array.getElem?_eq_some_iff.1 ho).1; simpa using this
    match i, hi with
    | 0, _ | 1, _ | 2, _ | 3, _ | 4, _ => injection ho with ho; subst ho; simp [Region.binds]
  case dd =>
    intro k hk
    have hk' : k < 31 := by
      simp [RetN.D] at hk
      omega
    simpa using hk'
  case kinds =>
    intro i o ho
    have hi : i < 5 := by have := (Array.getElem?_eq_some_iff.1 ho).1; simpa using this
    match i, hi with
    | 0, _ => injection ho with ho; subst ho; exact .inl ⟨29, _, rfl, rfl, fun L a w' hI hd => ex_load_row rfl (hI.fix 2 (Reg.notD rfl)) (rangeAt_block rA (hI.tch.block _ (by omega) (by omega))) HD.out.1 HD.out.2.1 (by rw [hl1i.out.1]; exact size79)⟩
    | 1, _ => injection ho with ho; subst ho; exact .inl ⟨30, _, rfl, rfl, fun L a w' hI hd => ex_load_row rfl (hI.fix 3 (Reg.notD rfl)) (rangeAt_block rB (hI.tch.block _ (by omega) (by omega))) HD.out.2.2.1 HD.out.2.2.2 size46⟩
    | 2, _ => injection ho with ho; subst ho; exact .inr (.inl ⟨rfl, rfl, _, _, _, rfl, (by rw [hl1i.out.1]; exact size79), fun L a w' hI hd => ⟨hI.fix 4 (Reg.notD rfl), (hI.pure 0 _ _ rfl (hd ⟨0, .data⟩ (by simp) rfl))⟩⟩)
    | 3, _ => injection ho with ho; subst ho; exact .inr (.inr ⟨rfl, rfl, _, _, _, rfl, size46, fun L a w' hI hd => ⟨hI.fix 5 (Reg.notD rfl), (hI.pure 1 _ _ rfl (hd ⟨1, .data⟩ (by simp) rfl))⟩⟩)
    | 4, _ => injection ho with ho; subst ho; exact .inl ⟨6, _, rfl, rfl, fun L a w' hI hd => ex_assign rfl rfl⟩
  case fin =>
    intro L a' w' hI hall
    rename_i K2 hK2
    refine hK2 _ _ ?_
    have rC := hI.sC (hall 2 (by decide))
    have rD := hI.sE (hall 3 (by decide))
    have pC : a'.eval (.tmp 4) = .pointer (some ⟨w.heap.size + 2, 0, none⟩) := hI.fix 4 (Reg.notD rfl)
    have pD : a'.eval (.tmp 5) = .pointer (some ⟨w.heap.size + 3, 0, none⟩) := hI.fix 5 (Reg.notD rfl)
    have pe : a'.eval (.tmp 6) = .bool true := hI.pure 4 6 _ rfl (hall 4 (by decide))
    have tch := hI.tch
    have hdf : a'.defers = [] := hI.df
    have hT := run_loadVar_mid (P := Try.prog) w' (w.heap.size + 2) 0 _ l1 dT rC HD.out.1 HD.out.2.1 (by rw [hl1i.out.1]; exact size79)
    have hS := run_loadVar_mid (P := Try.prog) w' (w.heap.size + 3) 0 _ _ dS rD HD.out.2.2.1 HD.out.2.2.2 size46
    have hres := results_cct (Q := Try.prog) (fn := Try.f56) (tmps := a'.tmps) (t := 4) (t' := 5) (t'' := 6) (W := w') (by rfl) pC hT pD hS
    rw [show a'.tmps.getD 6 undef = .bool true from pe] at hres
    go_wp2
    refine bodyPost_ret (v := .tuple #[.agg l1.toArray, x.val, .bool true]) hres hdf ⟨rfl, ?_⟩
    have := HTW.out.trans' tch (fun k hk h => absurd hk (by omega))
    exact ⟨this.os, this.tape, this.output, this.size, fun k hk hn => this.block k hk (fun h => h)⟩

end Epoch
end Go.Proofs.Ytdflicgjkleonaa

/-
  The epoch's reference: what hands on to another function.
-/
namespace Go.Proofs.Ytdflicgjkleonaa
open Go.RowKit
set_option linter.unusedVariables false
set_option linter.unusedSimpArgs false
set_option linter.unnecessarySimpa false
set_option maxRecDepth 20000
namespace Epoch

set_option maxHeartbeats 8000000 in
theorem rstep_e {w : World} {g n cap : Nat} {f f' : Nat → Int} {x : Stp} {l0 l1 : List Value} {en : Bool} (hl : IsTk l0) (hl1 : IsTk l1) (g7 : l0[7]? = some (.int .i64 1)) (g12 : l0[12]? = some (.int .i64 1)) (hr : IsRow w g n cap f)
    (hc : ∀ w1 : World, IsRow w1 g n cap f → Calls Try.prog 40 #[.agg l0.toArray, .slice (some ⟨g, 0, none⟩) n cap] w1 fun e w' => e = .returned (.tuple #[.agg l1.toArray, x.val, .bool en]) ∧ IsRow w' g n cap f' ∧ w1.grownBy w' (some g)) :
    Calls Try.prog 22 #[.agg l0.toArray, .slice (some ⟨g, 0, none⟩) n cap] w fun e w' => e = .returned (.tuple #[.agg l1.toArray, x.val, .bool en]) ∧ IsRow w' g n cap f' ∧ w.grownBy w' (some g) := by
  have lg := hr.lt
  have hll : l0.length = 28 := hl.1
  obtain ⟨W3, hW3⟩ : ∃ W3, ((w.alloc (.cells l0.toArray 64)).alloc (.cells tk0.toArray 64)).alloc (.cells [Value.int .i64 0, .int .i64 0, .int .i64 0, .int .u64 0, .int .u64 0, .bool false].toArray 71) = W3 := ⟨_, rfl⟩
  have sz3 : W3.heap.size = w.heap.size + 3 := by rw [← hW3]; simp
  have R0 : W3.rowIs w.heap.size 64 28 (lrow l0) := by rw [← hW3]; exact ((rowL_alloc w l0 _ hll).alloc _).alloc _
  have R1 : W3.rowIs (w.heap.size + 1) 64 28 (lrow tk0) := by
    rw [← hW3]
    have := (rowL_alloc (w.alloc (.cells l0.toArray 64)) tk0 64 (n := 28) rfl).alloc (.cells [Value.int .i64 0, .int .i64 0, .int .i64 0, .int .u64 0, .int .u64 0, .bool false].toArray 71)
    rwa [World.size_alloc] at this
  have R2 : W3.rowIs (w.heap.size + 2) 71 6 (lrow [Value.int .i64 0, .int .i64 0, .int .i64 0, .int .u64 0, .int .u64 0, .bool false]) := by
    rw [← hW3]
    have := rowL_alloc ((w.alloc (.cells l0.toArray 64)).alloc (.cells tk0.toArray 64)) [Value.int .i64 0, .int .i64 0, .int .i64 0, .int .u64 0, .int .u64 0, .bool false] 71 (n := 6) rfl
    rwa [World.size_alloc, World.size_alloc] at this
  have G3 := hide (show w.grownBy W3 (some g) from by rw [← hW3]; exact grown_alloc (grown_alloc (grown_alloc (grown_refl _ _) _) _) _)
  have HR3 := hide (show IsRow W3 g n cap f from hr.grown (grown_none (by rw [← hW3]; exact grown_alloc (grown_alloc (grown_alloc (grown_refl _ _) _) _) _) none) (by simp))
  have c7 : W3.cell? ⟨w.heap.size, 7, none⟩ = some (.int .i64 1) := by rw [R0.cell (i := 7) (by omega), lrow_of g7]
  have c12 : W3.cell? ⟨w.heap.size, 12, none⟩ = some (.int .i64 1) := by rw [R0.cell (i := 12) (by omega), lrow_of g12]
  obtain ⟨dT, hdT1, hdT2⟩ := row79
  have DT1 := hide hdT1
  have DT2 := hide hdT2
  obtain ⟨dS, hdS1, hdS2⟩ := row46
  have HD := hide (And.intro hdS1 hdS2)
  have RR := hide (rowIs.range R0 hll)
  have HR1 := hide R1
  have HR2 := hide R2
  have HC := hide (hc W3 HR3.out)
  have HL := hide hll
  have HL1 := hide hl1
  clear hdT1 hdT2 hdS1 hdS2 hc hr R0 R1 R2  hl hl1 g7 g12
  simp only [tk0] at hW3
  go_enter Try.func22, Try.ntmps22
  go_wp2_with (refine wpList_load_mid (by rfl) 64 (.tmp 2) (by rfl) w.heap.size 0 (by rfl) l0 dT (by exact RR.out) (by exact DT1.out) (by exact DT2.out) (by rw [HL.out]; exact size79) ?_)
  refine HC.out.mono ?_
  rintro e w1 ⟨rfl, hr1, hg1⟩
  have sz1 := hg1.size
  have T1 := HR1.out.of_block (hg1.block (w.heap.size + 1) (by omega) (by simp; omega))
  have HT1 := hide (rowIs.there T1 (o := 0) (m := 28) (by omega))
  have RS := hide (HR2.out.of_block (hg1.block (w.heap.size + 2) (by omega) (by simp; omega)))
  have HRW := hide hr1
  have HGW := hide (grown_trans G3.out hg1)
  have l2 : w.heap.size + 2 < w1.heap.size := by omega
  clear hr1 hg1 T1 HC c7 c12 hW3 HR1 HR2 RR
  obtain ⟨W5, hW5⟩ : ∃ W5, w1.setCells (w.heap.size + 1) 0 l1 = W5 := ⟨_, rfl⟩
  have tt5 : Touch w1 W5 (fun k => k = w.heap.size + 1) := by rw [← hW5]; exact touch_setCells _ _ _ _
  have r5 := hide (show W5.rangeAt (w.heap.size + 1) 0 l1 from by rw [← hW5]; exact World.rangeAt_setCells_same w1 (w.heap.size + 1) 0 l1 (by rw [HL1.out.1]; exact HT1.out))
  have RS5 := hide (RS.out.of_block (tt5.block _ (by omega) (by omega)))
  have HR5 := hide (HRW.out.block (tt5.block g HRW.out.lt (by omega)))
  have HG5 := hide (show w.grownBy W5 (some g) from by
    have := (Touch.of_grown HGW.out).trans' tt5 (S := fun k => some k = some g) (fun k hk h => absurd hk (by omega))
    exact ⟨this.os, this.tape, this.output, this.size, fun k hk hn => this.block k hk (by simpa using hn)⟩)
  have l5 : w.heap.size + 2 < W5.heap.size := by have := tt5.size; omega
  have z0 : W5.cell? ⟨w.heap.size + 2, 0, none⟩ = some (.int .i64 0) := by rw [RS5.out.cell (i := 0) (by omega)]; rfl
  have zf0 := RS5.out.frozen 0
  have z1 : W5.cell? ⟨w.heap.size + 2, 1, none⟩ = some (.int .i64 0) := by rw [RS5.out.cell (i := 1) (by omega)]; rfl
  have zf1 := RS5.out.frozen 1
  have z2 : W5.cell? ⟨w.heap.size + 2, 2, none⟩ = some (.int .i64 0) := by rw [RS5.out.cell (i := 2) (by omega)]; rfl
  have zf2 := RS5.out.frozen 2
  have z3 : W5.cell? ⟨w.heap.size + 2, 3, none⟩ = some (.int .u64 0) := by rw [RS5.out.cell (i := 3) (by omega)]; rfl
  have zf3 := RS5.out.frozen 3
  have z4 : W5.cell? ⟨w.heap.size + 2, 4, none⟩ = some (.int .u64 0) := by rw [RS5.out.cell (i := 4) (by omega)]; rfl
  have zf4 := RS5.out.frozen 4
  have z5 : W5.cell? ⟨w.heap.size + 2, 5, none⟩ = some (.bool false) := by rw [RS5.out.cell (i := 5) (by omega)]; rfl
  have zf5 := RS5.out.frozen 5
  clear tt5 RS HGW
  simp only [Stp.val]
  go_wp2_with (refine wpList_store_mid (by rfl) 64 (.tmp 4) (.tmp 21) (by rfl) (w.heap.size + 1) 0 l1.toArray (by rfl) (by rfl) (by simpa [HL1.out.1] using HT1.out) (by simpa [HL1.out.1] using size79) (by exact all_oneCell_toArray HL1.out.2) ?_)
  obtain ⟨W6, hW6⟩ : ∃ W6, ((((((W5.setCell ⟨w.heap.size + 2, 0, none⟩ (.int .i64 x.hand)).setCell ⟨w.heap.size + 2, 1, none⟩ (.int .i64 x.act)).setCell ⟨w.heap.size + 2, 2, none⟩ (.int .i64 x.at_)).setCell ⟨w.heap.size + 2, 3, none⟩ (.int .u64 x.had)).setCell ⟨w.heap.size + 2, 4, none⟩ (.int .u64 x.put)).setCell ⟨w.heap.size + 2, 5, none⟩ (.bool x.ok)) = W6 := ⟨_, rfl⟩
  have tt6 : Touch W5 W6 (fun k => k = w.heap.size + 2) := by rw [← hW6]; exact (Touch.setCell (S := fun k => k = w.heap.size + 2) (Touch.setCell (S := fun k => k = w.heap.size + 2) (Touch.setCell (S := fun k => k = w.heap.size + 2) (Touch.setCell (S := fun k => k = w.heap.size + 2) (Touch.setCell (S := fun k => k = w.heap.size + 2) (Touch.setCell (S := fun k => k = w.heap.size + 2) (Touch.refl W5 _) ⟨w.heap.size + 2, 0, none⟩ (.inl rfl) _) ⟨w.heap.size + 2, 1, none⟩ (.inl rfl) _) ⟨w.heap.size + 2, 2, none⟩ (.inl rfl) _) ⟨w.heap.size + 2, 3, none⟩ (.inl rfl) _) ⟨w.heap.size + 2, 4, none⟩ (.inl rfl) _) ⟨w.heap.size + 2, 5, none⟩ (.inl rfl) _)
  have rq : W6.rangeAt (w.heap.size + 2) 0 [Value.int .i64 x.hand, .int .i64 x.act, .int .i64 x.at_, .int .u64 x.had, .int .u64 x.put, .bool x.ok] := by rw [← hW6]; exact rowIs.range (rowIs.setL (rowIs.setL (rowIs.setL (rowIs.setL (rowIs.setL (rowIs.setL RS5.out (i := 0) (by simp) (.int .i64 x.hand)) (i := 1) (by simp) (.int .i64 x.act)) (i := 2) (by simp) (.int .i64 x.at_)) (i := 3) (by simp) (.int .u64 x.had)) (i := 4) (by simp) (.int .u64 x.put)) (i := 5) (by simp) (.bool x.ok)) (by simp)
  have r6 := rangeAt_block r5.out (tt6.block (w.heap.size + 1) (by omega) (by omega))
  have hT := run_loadVar_mid (P := Try.prog) W6 (w.heap.size + 1) 0 _ l1 dT r6 DT1.out DT2.out (by rw [HL1.out.1]; exact size79)
  have hS := run_loadVar_mid (P := Try.prog) W6 (w.heap.size + 2) 0 _ _ dS rq HD.out.1 HD.out.2 size46
  try simp only [hW5, hW6]
  refine bodyPost_ret (v := .tuple #[.agg l1.toArray, x.val, .bool en]) ?res rfl ⟨rfl, HR5.out.block (tt6.block g HR5.out.lt (by omega)), ?gro⟩
  case res => exact results_cct (Q := Try.prog) (fn := Try.f22) (t := 4) (t' := 5) (t'' := 6) (W := W6) (by rfl) (by rfl) hT (by rfl) hS
  case gro =>
    have := (Touch.of_grown HG5.out).trans' tt6 (S := fun k => some k = some g) (fun k hk h => absurd hk (by omega))
    exact ⟨this.os, this.tape, this.output, this.size, fun k hk hn => this.block k hk (by simpa using hn)⟩

set_option maxHeartbeats 8000000 in
theorem rstep_r {w : World} {g n cap : Nat} {f f' : Nat → Int} {x : Stp} {l0 l1 : List Value} {en : Bool} (hl : IsTk l0) (hl1 : IsTk l1) (g7 : l0[7]? = some (.int .i64 3)) (g12 : l0[12]? = some (.int .i64 1)) (hr : IsRow w g n cap f)
    (hc : ∀ w1 : World, IsRow w1 g n cap f → Calls Try.prog 40 #[.agg l0.toArray, .slice (some ⟨g, 0, none⟩) n cap] w1 fun e w' => e = .returned (.tuple #[.agg l1.toArray, x.val, .bool en]) ∧ IsRow w' g n cap f' ∧ w1.grownBy w' (some g)) :
    Calls Try.prog 22 #[.agg l0.toArray, .slice (some ⟨g, 0, none⟩) n cap] w fun e w' => e = .returned (.tuple #[.agg l1.toArray, x.val, .bool en]) ∧ IsRow w' g n cap f' ∧ w.grownBy w' (some g) := by
  have lg := hr.lt
  have hll : l0.length = 28 := hl.1
  obtain ⟨W3, hW3⟩ : ∃ W3, ((w.alloc (.cells l0.toArray 64)).alloc (.cells tk0.toArray 64)).alloc (.cells [Value.int .i64 0, .int .i64 0, .int .i64 0, .int .u64 0, .int .u64 0, .bool false].toArray 71) = W3 := ⟨_, rfl⟩
  have sz3 : W3.heap.size = w.heap.size + 3 := by rw [← hW3]; simp
  have R0 : W3.rowIs w.heap.size 64 28 (lrow l0) := by rw [← hW3]; exact ((rowL_alloc w l0 _ hll).alloc _).alloc _
  have R1 : W3.rowIs (w.heap.size + 1) 64 28 (lrow tk0) := by
    rw [← hW3]
    have := (rowL_alloc (w.alloc (.cells l0.toArray 64)) tk0 64 (n := 28) rfl).alloc (.cells [Value.int .i64 0, .int .i64 0, .int .i64 0, .int .u64 0, .int .u64 0, .bool false].toArray 71)
    rwa [World.size_alloc] at this
  have R2 : W3.rowIs (w.heap.size + 2) 71 6 (lrow [Value.int .i64 0, .int .i64 0, .int .i64 0, .int .u64 0, .int .u64 0, .bool false]) := by
    rw [← hW3]
    have := rowL_alloc ((w.alloc (.cells l0.toArray 64)).alloc (.cells tk0.toArray 64)) [Value.int .i64 0, .int .i64 0, .int .i64 0, .int .u64 0, .int .u64 0, .bool false] 71 (n := 6) rfl
    rwa [World.size_alloc, World.size_alloc] at this
  have G3 := hide (show w.grownBy W3 (some g) from by rw [← hW3]; exact grown_alloc (grown_alloc (grown_alloc (grown_refl _ _) _) _) _)
  have HR3 := hide (show IsRow W3 g n cap f from hr.grown (grown_none (by rw [← hW3]; exact grown_alloc (grown_alloc (grown_alloc (grown_refl _ _) _) _) _) none) (by simp))
  have c7 : W3.cell? ⟨w.heap.size, 7, none⟩ = some (.int .i64 3) := by rw [R0.cell (i := 7) (by omega), lrow_of g7]
  have c12 : W3.cell? ⟨w.heap.size, 12, none⟩ = some (.int .i64 1) := by rw [R0.cell (i := 12) (by omega), lrow_of g12]
  obtain ⟨dT, hdT1, hdT2⟩ := row79
  have DT1 := hide hdT1
  have DT2 := hide hdT2
  obtain ⟨dS, hdS1, hdS2⟩ := row46
  have HD := hide (And.intro hdS1 hdS2)
  have RR := hide (rowIs.range R0 hll)
  have HR1 := hide R1
  have HR2 := hide R2
  have HC := hide (hc W3 HR3.out)
  have HL := hide hll
  have HL1 := hide hl1
  clear hdT1 hdT2 hdS1 hdS2 hc hr R0 R1 R2  hl hl1 g7 g12
  simp only [tk0] at hW3
  go_enter Try.func22, Try.ntmps22
  go_wp2_with (refine wpList_load_mid (by rfl) 64 (.tmp 2) (by rfl) w.heap.size 0 (by rfl) l0 dT (by exact RR.out) (by exact DT1.out) (by exact DT2.out) (by rw [HL.out]; exact size79) ?_)
  refine HC.out.mono ?_
  rintro e w1 ⟨rfl, hr1, hg1⟩
  have sz1 := hg1.size
  have T1 := HR1.out.of_block (hg1.block (w.heap.size + 1) (by omega) (by simp; omega))
  have HT1 := hide (rowIs.there T1 (o := 0) (m := 28) (by omega))
  have RS := hide (HR2.out.of_block (hg1.block (w.heap.size + 2) (by omega) (by simp; omega)))
  have HRW := hide hr1
  have HGW := hide (grown_trans G3.out hg1)
  have l2 : w.heap.size + 2 < w1.heap.size := by omega
  clear hr1 hg1 T1 HC c7 c12 hW3 HR1 HR2 RR
  obtain ⟨W5, hW5⟩ : ∃ W5, w1.setCells (w.heap.size + 1) 0 l1 = W5 := ⟨_, rfl⟩
  have tt5 : Touch w1 W5 (fun k => k = w.heap.size + 1) := by rw [← hW5]; exact touch_setCells _ _ _ _
  have r5 := hide (show W5.rangeAt (w.heap.size + 1) 0 l1 from by rw [← hW5]; exact World.rangeAt_setCells_same w1 (w.heap.size + 1) 0 l1 (by rw [HL1.out.1]; exact HT1.out))
  have RS5 := hide (RS.out.of_block (tt5.block _ (by omega) (by omega)))
  have HR5 := hide (HRW.out.block (tt5.block g HRW.out.lt (by omega)))
  have HG5 := hide (show w.grownBy W5 (some g) from by
    have := (Touch.of_grown HGW.out).trans' tt5 (S := fun k => some k = some g) (fun k hk h => absurd hk (by omega))
    exact ⟨this.os, this.tape, this.output, this.size, fun k hk hn => this.block k hk (by simpa using hn)⟩)
  have l5 : w.heap.size + 2 < W5.heap.size := by have := tt5.size; omega
  have z0 : W5.cell? ⟨w.heap.size + 2, 0, none⟩ = some (.int .i64 0) := by rw [RS5.out.cell (i := 0) (by omega)]; rfl
  have zf0 := RS5.out.frozen 0
  have z1 : W5.cell? ⟨w.heap.size + 2, 1, none⟩ = some (.int .i64 0) := by rw [RS5.out.cell (i := 1) (by omega)]; rfl
  have zf1 := RS5.out.frozen 1
  have z2 : W5.cell? ⟨w.heap.size + 2, 2, none⟩ = some (.int .i64 0) := by rw [RS5.out.cell (i := 2) (by omega)]; rfl
  have zf2 := RS5.out.frozen 2
  have z3 : W5.cell? ⟨w.heap.size + 2, 3, none⟩ = some (.int .u64 0) := by rw [RS5.out.cell (i := 3) (by omega)]; rfl
  have zf3 := RS5.out.frozen 3
  have z4 : W5.cell? ⟨w.heap.size + 2, 4, none⟩ = some (.int .u64 0) := by rw [RS5.out.cell (i := 4) (by omega)]; rfl
  have zf4 := RS5.out.frozen 4
  have z5 : W5.cell? ⟨w.heap.size + 2, 5, none⟩ = some (.bool false) := by rw [RS5.out.cell (i := 5) (by omega)]; rfl
  have zf5 := RS5.out.frozen 5
  clear tt5 RS HGW
  simp only [Stp.val]
  go_wp2_with (refine wpList_store_mid (by rfl) 64 (.tmp 4) (.tmp 63) (by rfl) (w.heap.size + 1) 0 l1.toArray (by rfl) (by rfl) (by simpa [HL1.out.1] using HT1.out) (by simpa [HL1.out.1] using size79) (by exact all_oneCell_toArray HL1.out.2) ?_)
  obtain ⟨W6, hW6⟩ : ∃ W6, ((((((W5.setCell ⟨w.heap.size + 2, 0, none⟩ (.int .i64 x.hand)).setCell ⟨w.heap.size + 2, 1, none⟩ (.int .i64 x.act)).setCell ⟨w.heap.size + 2, 2, none⟩ (.int .i64 x.at_)).setCell ⟨w.heap.size + 2, 3, none⟩ (.int .u64 x.had)).setCell ⟨w.heap.size + 2, 4, none⟩ (.int .u64 x.put)).setCell ⟨w.heap.size + 2, 5, none⟩ (.bool x.ok)) = W6 := ⟨_, rfl⟩
  have tt6 : Touch W5 W6 (fun k => k = w.heap.size + 2) := by rw [← hW6]; exact (Touch.setCell (S := fun k => k = w.heap.size + 2) (Touch.setCell (S := fun k => k = w.heap.size + 2) (Touch.setCell (S := fun k => k = w.heap.size + 2) (Touch.setCell (S := fun k => k = w.heap.size + 2) (Touch.setCell (S := fun k => k = w.heap.size + 2) (Touch.setCell (S := fun k => k = w.heap.size + 2) (Touch.refl W5 _) ⟨w.heap.size + 2, 0, none⟩ (.inl rfl) _) ⟨w.heap.size + 2, 1, none⟩ (.inl rfl) _) ⟨w.heap.size + 2, 2, none⟩ (.inl rfl) _) ⟨w.heap.size + 2, 3, none⟩ (.inl rfl) _) ⟨w.heap.size + 2, 4, none⟩ (.inl rfl) _) ⟨w.heap.size + 2, 5, none⟩ (.inl rfl) _)
  have rq : W6.rangeAt (w.heap.size + 2) 0 [Value.int .i64 x.hand, .int .i64 x.act, .int .i64 x.at_, .int .u64 x.had, .int .u64 x.put, .bool x.ok] := by rw [← hW6]; exact rowIs.range (rowIs.setL (rowIs.setL (rowIs.setL (rowIs.setL (rowIs.setL (rowIs.setL RS5.out (i := 0) (by simp) (.int .i64 x.hand)) (i := 1) (by simp) (.int .i64 x.act)) (i := 2) (by simp) (.int .i64 x.at_)) (i := 3) (by simp) (.int .u64 x.had)) (i := 4) (by simp) (.int .u64 x.put)) (i := 5) (by simp) (.bool x.ok)) (by simp)
  have r6 := rangeAt_block r5.out (tt6.block (w.heap.size + 1) (by omega) (by omega))
  have hT := run_loadVar_mid (P := Try.prog) W6 (w.heap.size + 1) 0 _ l1 dT r6 DT1.out DT2.out (by rw [HL1.out.1]; exact size79)
  have hS := run_loadVar_mid (P := Try.prog) W6 (w.heap.size + 2) 0 _ _ dS rq HD.out.1 HD.out.2 size46
  try simp only [hW5, hW6]
  refine bodyPost_ret (v := .tuple #[.agg l1.toArray, x.val, .bool en]) ?res rfl ⟨rfl, HR5.out.block (tt6.block g HR5.out.lt (by omega)), ?gro⟩
  case res => exact results_cct (Q := Try.prog) (fn := Try.f22) (t := 4) (t' := 5) (t'' := 6) (W := W6) (by rfl) (by rfl) hT (by rfl) hS
  case gro =>
    have := (Touch.of_grown HG5.out).trans' tt6 (S := fun k => some k = some g) (fun k hk h => absurd hk (by omega))
    exact ⟨this.os, this.tape, this.output, this.size, fun k hk hn => this.block k hk (by simpa using hn)⟩

set_option maxHeartbeats 8000000 in
theorem rstep_p {w : World} {g n cap : Nat} {f f' : Nat → Int} {x : Stp} {l0 l1 : List Value} {en : Bool} (hl : IsTk l0) (hl1 : IsTk l1) (g7 : l0[7]? = some (.int .i64 4)) (hr : IsRow w g n cap f)
    (hc : ∀ w1 : World, IsRow w1 g n cap f → Calls Try.prog 42 #[.agg l0.toArray, .slice (some ⟨g, 0, none⟩) n cap] w1 fun e w' => e = .returned (.tuple #[.agg l1.toArray, x.val, .bool en]) ∧ IsRow w' g n cap f' ∧ w1.grownBy w' (some g)) :
    Calls Try.prog 22 #[.agg l0.toArray, .slice (some ⟨g, 0, none⟩) n cap] w fun e w' => e = .returned (.tuple #[.agg l1.toArray, x.val, .bool en]) ∧ IsRow w' g n cap f' ∧ w.grownBy w' (some g) := by
  have lg := hr.lt
  have hll : l0.length = 28 := hl.1
  obtain ⟨W3, hW3⟩ : ∃ W3, ((w.alloc (.cells l0.toArray 64)).alloc (.cells tk0.toArray 64)).alloc (.cells [Value.int .i64 0, .int .i64 0, .int .i64 0, .int .u64 0, .int .u64 0, .bool false].toArray 71) = W3 := ⟨_, rfl⟩
  have sz3 : W3.heap.size = w.heap.size + 3 := by rw [← hW3]; simp
  have R0 : W3.rowIs w.heap.size 64 28 (lrow l0) := by rw [← hW3]; exact ((rowL_alloc w l0 _ hll).alloc _).alloc _
  have R1 : W3.rowIs (w.heap.size + 1) 64 28 (lrow tk0) := by
    rw [← hW3]
    have := (rowL_alloc (w.alloc (.cells l0.toArray 64)) tk0 64 (n := 28) rfl).alloc (.cells [Value.int .i64 0, .int .i64 0, .int .i64 0, .int .u64 0, .int .u64 0, .bool false].toArray 71)
    rwa [World.size_alloc] at this
  have R2 : W3.rowIs (w.heap.size + 2) 71 6 (lrow [Value.int .i64 0, .int .i64 0, .int .i64 0, .int .u64 0, .int .u64 0, .bool false]) := by
    rw [← hW3]
    have := rowL_alloc ((w.alloc (.cells l0.toArray 64)).alloc (.cells tk0.toArray 64)) [Value.int .i64 0, .int .i64 0, .int .i64 0, .int .u64 0, .int .u64 0, .bool false] 71 (n := 6) rfl
    rwa [World.size_alloc, World.size_alloc] at this
  have G3 := hide (show w.grownBy W3 (some g) from by rw [← hW3]; exact grown_alloc (grown_alloc (grown_alloc (grown_refl _ _) _) _) _)
  have HR3 := hide (show IsRow W3 g n cap f from hr.grown (grown_none (by rw [← hW3]; exact grown_alloc (grown_alloc (grown_alloc (grown_refl _ _) _) _) _) none) (by simp))
  have c7 : W3.cell? ⟨w.heap.size, 7, none⟩ = some (.int .i64 4) := by rw [R0.cell (i := 7) (by omega), lrow_of g7]
  obtain ⟨dT, hdT1, hdT2⟩ := row79
  have DT1 := hide hdT1
  have DT2 := hide hdT2
  obtain ⟨dS, hdS1, hdS2⟩ := row46
  have HD := hide (And.intro hdS1 hdS2)
  have RR := hide (rowIs.range R0 hll)
  have HR1 := hide R1
  have HR2 := hide R2
  have HC := hide (hc W3 HR3.out)
  have HL := hide hll
  have HL1 := hide hl1
  clear hdT1 hdT2 hdS1 hdS2 hc hr R0 R1 R2  hl hl1 g7
  simp only [tk0] at hW3
  go_enter Try.func22, Try.ntmps22
  go_wp2_with (refine wpList_load_mid (by rfl) 64 (.tmp 2) (by rfl) w.heap.size 0 (by rfl) l0 dT (by exact RR.out) (by exact DT1.out) (by exact DT2.out) (by rw [HL.out]; exact size79) ?_)
  refine HC.out.mono ?_
  rintro e w1 ⟨rfl, hr1, hg1⟩
  have sz1 := hg1.size
  have T1 := HR1.out.of_block (hg1.block (w.heap.size + 1) (by omega) (by simp; omega))
  have HT1 := hide (rowIs.there T1 (o := 0) (m := 28) (by omega))
  have RS := hide (HR2.out.of_block (hg1.block (w.heap.size + 2) (by omega) (by simp; omega)))
  have HRW := hide hr1
  have HGW := hide (grown_trans G3.out hg1)
  have l2 : w.heap.size + 2 < w1.heap.size := by omega
  clear hr1 hg1 T1 HC c7 hW3 HR1 HR2 RR
  obtain ⟨W5, hW5⟩ : ∃ W5, w1.setCells (w.heap.size + 1) 0 l1 = W5 := ⟨_, rfl⟩
  have tt5 : Touch w1 W5 (fun k => k = w.heap.size + 1) := by rw [← hW5]; exact touch_setCells _ _ _ _
  have r5 := hide (show W5.rangeAt (w.heap.size + 1) 0 l1 from by rw [← hW5]; exact World.rangeAt_setCells_same w1 (w.heap.size + 1) 0 l1 (by rw [HL1.out.1]; exact HT1.out))
  have RS5 := hide (RS.out.of_block (tt5.block _ (by omega) (by omega)))
  have HR5 := hide (HRW.out.block (tt5.block g HRW.out.lt (by omega)))
  have HG5 := hide (show w.grownBy W5 (some g) from by
    have := (Touch.of_grown HGW.out).trans' tt5 (S := fun k => some k = some g) (fun k hk h => absurd hk (by omega))
    exact ⟨this.os, this.tape, this.output, this.size, fun k hk hn => this.block k hk (by simpa using hn)⟩)
  have l5 : w.heap.size + 2 < W5.heap.size := by have := tt5.size; omega
  have z0 : W5.cell? ⟨w.heap.size + 2, 0, none⟩ = some (.int .i64 0) := by rw [RS5.out.cell (i := 0) (by omega)]; rfl
  have zf0 := RS5.out.frozen 0
  have z1 : W5.cell? ⟨w.heap.size + 2, 1, none⟩ = some (.int .i64 0) := by rw [RS5.out.cell (i := 1) (by omega)]; rfl
  have zf1 := RS5.out.frozen 1
  have z2 : W5.cell? ⟨w.heap.size + 2, 2, none⟩ = some (.int .i64 0) := by rw [RS5.out.cell (i := 2) (by omega)]; rfl
  have zf2 := RS5.out.frozen 2
  have z3 : W5.cell? ⟨w.heap.size + 2, 3, none⟩ = some (.int .u64 0) := by rw [RS5.out.cell (i := 3) (by omega)]; rfl
  have zf3 := RS5.out.frozen 3
  have z4 : W5.cell? ⟨w.heap.size + 2, 4, none⟩ = some (.int .u64 0) := by rw [RS5.out.cell (i := 4) (by omega)]; rfl
  have zf4 := RS5.out.frozen 4
  have z5 : W5.cell? ⟨w.heap.size + 2, 5, none⟩ = some (.bool false) := by rw [RS5.out.cell (i := 5) (by omega)]; rfl
  have zf5 := RS5.out.frozen 5
  clear tt5 RS HGW
  simp only [Stp.val]
  go_wp2_with (refine wpList_store_mid (by rfl) 64 (.tmp 4) (.tmp 87) (by rfl) (w.heap.size + 1) 0 l1.toArray (by rfl) (by rfl) (by simpa [HL1.out.1] using HT1.out) (by simpa [HL1.out.1] using size79) (by exact all_oneCell_toArray HL1.out.2) ?_)
  obtain ⟨W6, hW6⟩ : ∃ W6, ((((((W5.setCell ⟨w.heap.size + 2, 0, none⟩ (.int .i64 x.hand)).setCell ⟨w.heap.size + 2, 1, none⟩ (.int .i64 x.act)).setCell ⟨w.heap.size + 2, 2, none⟩ (.int .i64 x.at_)).setCell ⟨w.heap.size + 2, 3, none⟩ (.int .u64 x.had)).setCell ⟨w.heap.size + 2, 4, none⟩ (.int .u64 x.put)).setCell ⟨w.heap.size + 2, 5, none⟩ (.bool x.ok)) = W6 := ⟨_, rfl⟩
  have tt6 : Touch W5 W6 (fun k => k = w.heap.size + 2) := by rw [← hW6]; exact (Touch.setCell (S := fun k => k = w.heap.size + 2) (Touch.setCell (S := fun k => k = w.heap.size + 2) (Touch.setCell (S := fun k => k = w.heap.size + 2) (Touch.setCell (S := fun k => k = w.heap.size + 2) (Touch.setCell (S := fun k => k = w.heap.size + 2) (Touch.setCell (S := fun k => k = w.heap.size + 2) (Touch.refl W5 _) ⟨w.heap.size + 2, 0, none⟩ (.inl rfl) _) ⟨w.heap.size + 2, 1, none⟩ (.inl rfl) _) ⟨w.heap.size + 2, 2, none⟩ (.inl rfl) _) ⟨w.heap.size + 2, 3, none⟩ (.inl rfl) _) ⟨w.heap.size + 2, 4, none⟩ (.inl rfl) _) ⟨w.heap.size + 2, 5, none⟩ (.inl rfl) _)
  have rq : W6.rangeAt (w.heap.size + 2) 0 [Value.int .i64 x.hand, .int .i64 x.act, .int .i64 x.at_, .int .u64 x.had, .int .u64 x.put, .bool x.ok] := by rw [← hW6]; exact rowIs.range (rowIs.setL (rowIs.setL (rowIs.setL (rowIs.setL (rowIs.setL (rowIs.setL RS5.out (i := 0) (by simp) (.int .i64 x.hand)) (i := 1) (by simp) (.int .i64 x.act)) (i := 2) (by simp) (.int .i64 x.at_)) (i := 3) (by simp) (.int .u64 x.had)) (i := 4) (by simp) (.int .u64 x.put)) (i := 5) (by simp) (.bool x.ok)) (by simp)
  have r6 := rangeAt_block r5.out (tt6.block (w.heap.size + 1) (by omega) (by omega))
  have hT := run_loadVar_mid (P := Try.prog) W6 (w.heap.size + 1) 0 _ l1 dT r6 DT1.out DT2.out (by rw [HL1.out.1]; exact size79)
  have hS := run_loadVar_mid (P := Try.prog) W6 (w.heap.size + 2) 0 _ _ dS rq HD.out.1 HD.out.2 size46
  try simp only [hW5, hW6]
  refine bodyPost_ret (v := .tuple #[.agg l1.toArray, x.val, .bool en]) ?res rfl ⟨rfl, HR5.out.block (tt6.block g HR5.out.lt (by omega)), ?gro⟩
  case res => exact results_cct (Q := Try.prog) (fn := Try.f22) (t := 4) (t' := 5) (t'' := 6) (W := W6) (by rfl) (by rfl) hT (by rfl) hS
  case gro =>
    have := (Touch.of_grown HG5.out).trans' tt6 (S := fun k => some k = some g) (fun k hk h => absurd hk (by omega))
    exact ⟨this.os, this.tape, this.output, this.size, fun k hk hn => this.block k hk (by simpa using hn)⟩

set_option maxHeartbeats 8000000 in
theorem rreap_1 {w : World} {g n cap : Nat} {f f' : Nat → Int} {x : Stp} {l0 l1 : List Value} {en : Bool} (hl : IsTk l0) (hl1 : IsTk l1) (g12 : l0[12]? = some (.int .i64 1)) (hr : IsRow w g n cap f)
    (hc : ∀ w1 : World, IsRow w1 g n cap f → Calls Try.prog 40 #[.agg l0.toArray, .slice (some ⟨g, 0, none⟩) n cap] w1 fun e w' => e = .returned (.tuple #[.agg l1.toArray, x.val, .bool en]) ∧ IsRow w' g n cap f' ∧ w1.grownBy w' (some g)) :
    Calls Try.prog 42 #[.agg l0.toArray, .slice (some ⟨g, 0, none⟩) n cap] w fun e w' => e = .returned (.tuple #[.agg l1.toArray, x.val, .bool en]) ∧ IsRow w' g n cap f' ∧ w.grownBy w' (some g) := by
  have lg := hr.lt
  have hll : l0.length = 28 := hl.1
  obtain ⟨W3, hW3, sz3, R0, R1, R2, R3, G3', R4, cell⟩ := RPre.pre hr hll
  have G3 := hide G3'
  have HR3 := hide R4
  have c12 : W3.cell? ⟨w.heap.size, 12, none⟩ = some (.int .i64 1) := by rw [R0.cell (i := 12) (by omega), lrow_of g12]
  obtain ⟨dT, hdT1, hdT2⟩ := row79
  have DT1 := hide hdT1
  have DT2 := hide hdT2
  obtain ⟨dS, hdS1, hdS2⟩ := row46
  have HD := hide (And.intro hdS1 hdS2)
  have RR := hide (rowIs.range R0 hll)
  have HR1 := hide R1
  have HR2 := hide R2
  have HC := hide (hc W3 HR3.out)
  have HL := hide hll
  have HL1 := hide hl1
  clear hdT1 hdT2 hdS1 hdS2 hc hr R0 R1 R2 R3 R4 G3' cell hl hl1 g12
  simp only [tk0, RPre.ZL] at hW3
  go_enter Try.func42, Try.ntmps42
  go_wp2_with (refine wpList_load_mid (by rfl) 64 (.tmp 2) (by rfl) w.heap.size 0 (by rfl) l0 dT (by exact RR.out) (by exact DT1.out) (by exact DT2.out) (by rw [HL.out]; exact size79) ?_)
  refine HC.out.mono ?_
  rintro e w1 ⟨rfl, hr1, hg1⟩
  have sz1 := hg1.size
  have T1 := HR1.out.of_block (hg1.block (w.heap.size + 1) (by omega) (by simp; omega))
  have HT1 := hide (rowIs.there T1 (o := 0) (m := 28) (by omega))
  have RS := hide (HR2.out.of_block (hg1.block (w.heap.size + 2) (by omega) (by simp; omega)))
  have HRW := hide hr1
  have HGW := hide (grown_trans G3.out hg1)
  have l2 : w.heap.size + 2 < w1.heap.size := by omega
  clear hr1 hg1 T1 HC c12 hW3 HR1 HR2 RR
  obtain ⟨W5, hW5⟩ : ∃ W5, w1.setCells (w.heap.size + 1) 0 l1 = W5 := ⟨_, rfl⟩
  have tt5 : Touch w1 W5 (fun k => k = w.heap.size + 1) := by rw [← hW5]; exact touch_setCells _ _ _ _
  have r5 := hide (show W5.rangeAt (w.heap.size + 1) 0 l1 from by rw [← hW5]; exact World.rangeAt_setCells_same w1 (w.heap.size + 1) 0 l1 (by rw [HL1.out.1]; exact HT1.out))
  have RS5 := hide (RS.out.of_block (tt5.block _ (by omega) (by omega)))
  have HR5 := hide (HRW.out.block (tt5.block g HRW.out.lt (by omega)))
  have HG5 := hide (show w.grownBy W5 (some g) from by
    have := (Touch.of_grown HGW.out).trans' tt5 (S := fun k => some k = some g) (fun k hk h => absurd hk (by omega))
    exact ⟨this.os, this.tape, this.output, this.size, fun k hk hn => this.block k hk (by simpa using hn)⟩)
  have l5 : w.heap.size + 2 < W5.heap.size := by have := tt5.size; omega
  have z0 : W5.cell? ⟨w.heap.size + 2, 0, none⟩ = some (.int .i64 0) := by rw [RS5.out.cell (i := 0) (by omega)]; rfl
  have zf0 := RS5.out.frozen 0
  have z1 : W5.cell? ⟨w.heap.size + 2, 1, none⟩ = some (.int .i64 0) := by rw [RS5.out.cell (i := 1) (by omega)]; rfl
  have zf1 := RS5.out.frozen 1
  have z2 : W5.cell? ⟨w.heap.size + 2, 2, none⟩ = some (.int .i64 0) := by rw [RS5.out.cell (i := 2) (by omega)]; rfl
  have zf2 := RS5.out.frozen 2
  have z3 : W5.cell? ⟨w.heap.size + 2, 3, none⟩ = some (.int .u64 0) := by rw [RS5.out.cell (i := 3) (by omega)]; rfl
  have zf3 := RS5.out.frozen 3
  have z4 : W5.cell? ⟨w.heap.size + 2, 4, none⟩ = some (.int .u64 0) := by rw [RS5.out.cell (i := 4) (by omega)]; rfl
  have zf4 := RS5.out.frozen 4
  have z5 : W5.cell? ⟨w.heap.size + 2, 5, none⟩ = some (.bool false) := by rw [RS5.out.cell (i := 5) (by omega)]; rfl
  have zf5 := RS5.out.frozen 5
  clear tt5 RS HGW
  simp only [Stp.val]
  go_wp2_with (refine wpList_store_mid (by rfl) 64 (.tmp 4) (.tmp 45) (by rfl) (w.heap.size + 1) 0 l1.toArray (by rfl) (by rfl) (by simpa [HL1.out.1] using HT1.out) (by simpa [HL1.out.1] using size79) (by exact all_oneCell_toArray HL1.out.2) ?_)
  obtain ⟨W6, hW6⟩ : ∃ W6, ((((((W5.setCell ⟨w.heap.size + 2, 0, none⟩ (.int .i64 x.hand)).setCell ⟨w.heap.size + 2, 1, none⟩ (.int .i64 x.act)).setCell ⟨w.heap.size + 2, 2, none⟩ (.int .i64 x.at_)).setCell ⟨w.heap.size + 2, 3, none⟩ (.int .u64 x.had)).setCell ⟨w.heap.size + 2, 4, none⟩ (.int .u64 x.put)).setCell ⟨w.heap.size + 2, 5, none⟩ (.bool x.ok)) = W6 := ⟨_, rfl⟩
  have tt6 : Touch W5 W6 (fun k => k = w.heap.size + 2) := by rw [← hW6]; exact (Touch.setCell (S := fun k => k = w.heap.size + 2) (Touch.setCell (S := fun k => k = w.heap.size + 2) (Touch.setCell (S := fun k => k = w.heap.size + 2) (Touch.setCell (S := fun k => k = w.heap.size + 2) (Touch.setCell (S := fun k => k = w.heap.size + 2) (Touch.setCell (S := fun k => k = w.heap.size + 2) (Touch.refl W5 _) ⟨w.heap.size + 2, 0, none⟩ (.inl rfl) _) ⟨w.heap.size + 2, 1, none⟩ (.inl rfl) _) ⟨w.heap.size + 2, 2, none⟩ (.inl rfl) _) ⟨w.heap.size + 2, 3, none⟩ (.inl rfl) _) ⟨w.heap.size + 2, 4, none⟩ (.inl rfl) _) ⟨w.heap.size + 2, 5, none⟩ (.inl rfl) _)
  have rq : W6.rangeAt (w.heap.size + 2) 0 [Value.int .i64 x.hand, .int .i64 x.act, .int .i64 x.at_, .int .u64 x.had, .int .u64 x.put, .bool x.ok] := by rw [← hW6]; exact rowIs.range (rowIs.setL (rowIs.setL (rowIs.setL (rowIs.setL (rowIs.setL (rowIs.setL RS5.out (i := 0) (by simp) (.int .i64 x.hand)) (i := 1) (by simp) (.int .i64 x.act)) (i := 2) (by simp) (.int .i64 x.at_)) (i := 3) (by simp) (.int .u64 x.had)) (i := 4) (by simp) (.int .u64 x.put)) (i := 5) (by simp) (.bool x.ok)) (by simp)
  have r6 := rangeAt_block r5.out (tt6.block (w.heap.size + 1) (by omega) (by omega))
  have hT := run_loadVar_mid (P := Try.prog) W6 (w.heap.size + 1) 0 _ l1 dT r6 DT1.out DT2.out (by rw [HL1.out.1]; exact size79)
  have hS := run_loadVar_mid (P := Try.prog) W6 (w.heap.size + 2) 0 _ _ dS rq HD.out.1 HD.out.2 size46
  try simp only [hW5, hW6]
  refine bodyPost_ret (v := .tuple #[.agg l1.toArray, x.val, .bool en]) ?res rfl ⟨rfl, HR5.out.block (tt6.block g HR5.out.lt (by omega)), ?gro⟩
  case res => exact results_cct (Q := Try.prog) (fn := Try.f42) (t := 4) (t' := 5) (t'' := 6) (W := W6) (by rfl) (by rfl) hT (by rfl) hS
  case gro =>
    have := (Touch.of_grown HG5.out).trans' tt6 (S := fun k => some k = some g) (fun k hk h => absurd hk (by omega))
    exact ⟨this.os, this.tape, this.output, this.size, fun k hk hn => this.block k hk (by simpa using hn)⟩

end Epoch
end Go.Proofs.Ytdflicgjkleonaa

/-
  The epoch's reference: its tasks are those of the kind.
-/
namespace Go.Proofs.Ytdflicgjkleonaa
open Go.RowKit
set_option linter.unusedVariables false
set_option linter.unusedSimpArgs false
set_option maxRecDepth 20000
namespace Epoch

def repE (sh : Shp) : List Value → EpS → Prop := fun cs s => Wf sh.f s ∧ s.told = ⟨false, 0⟩ ∧ ∃ q : Int, q = s.st + 1 ∧ cs = tk sh s.hand s.j q ⟨s.e, s.f, s.nx, s.w, s.mask, 0, 0, 0⟩ ⟨false, 0⟩

theorem rstart_any {sh : Shp} (h1 : 1 ≤ sh.f) (h2 : sh.f ≤ 64) (k : Int) (j : Jb) (hw : j.wf) : ∃ cs, IsTk cs ∧ (eerr sh.f k j = 0 → repE sh cs (einit k j)) ∧ ∀ w : World, Calls Try.prog 20 #[sh.val, .int .i64 k, j.val, kept0] w fun e w' => e = .returned (.tuple #[.agg cs.toArray, .int .i64 (eerr sh.f k j)]) ∧ Below w.heap.size w w' := by
  obtain ⟨s0, s1, s2, s3, s4, s5⟩ := sh
  simp only at h1 h2
  by_cases he : eerr s5 k j = 0
  · obtain ⟨hc, hk⟩ := eerr_cases he
    have hwf := wf_init h1 k ⟨hw, k, he⟩
    have ei : einit k j = ⟨k, j, 0, 0, 0, 0, 0, 0, 0, ⟨false, 0⟩⟩ := by unfold einit; rw [if_pos hk]
    refine ⟨tk ⟨s0, s1, s2, s3, s4, s5⟩ k j 1 .zero ⟨false, 0⟩, tk_is _ _ _ _ _ _, fun _ => ⟨hwf, rfl, ?_⟩, fun w => ?_⟩
    · rw [ei]
      exact ⟨1, rfl, rfl⟩
    · rw [he]
      obtain ⟨kind, a, b, c, hh⟩ := j
      simp only at hc
      exact rstart_ok w s0 s1 s2 s3 s4 s5 k kind a b c hh h1 h2 (by omega) (by omega) (by omega) (by omega) (by omega)
  · obtain ⟨kind, a, b, c, hh⟩ := j
    refine ⟨tk0, tk0_is, fun h => absurd h he, fun w => ?_⟩
    by_cases c1 : kind < 1 ∨ 4 < kind
    · rw [show eerr s5 k ⟨kind, a, b, c, hh⟩ = 200 from by simp [eerr, c1]]
      exact rstart_kind w s0 s1 s2 s3 s4 s5 k kind a b c hh h1 h2 (by omega)
    · have e2 : eerr s5 k ⟨kind, a, b, c, hh⟩ = 2 := by
        unfold eerr at he ⊢
        simp only [if_neg c1] at he ⊢
        split
        · rfl
        · rename_i c2
          rw [if_neg c2] at he
          split
          · rfl
          · rename_i c3
            rw [if_neg c3] at he
            exact absurd rfl he
      have hq : k < 0 ∨ (¬ k < 0 ∧ 7 < k) ∨ (¬ k < 0 ∧ ¬ 7 < k ∧ kind = 3 ∧ a < 0) ∨ (¬ k < 0 ∧ ¬ 7 < k ∧ kind = 3 ∧ ¬ a < 0 ∧ s5 ≤ a) := by
        unfold eerr at e2
        simp only [if_neg c1] at e2
        split at e2
        · rename_i c2; omega
        · split at e2
          · rename_i c3; omega
          · cases e2
      rw [e2]
      exact rstart_arg w s0 s1 s2 s3 s4 s5 k kind a b c hh h1 h2 (by omega) (by omega) hq

set_option maxHeartbeats 4000000 in
theorem rkind {sh : Shp} (h1 : 1 ≤ sh.f) (h2 : sh.f ≤ 64) : RKind (kEpoch sh.f) (repE sh) sh 20 22 := by
  refine ⟨fun k j hk0 hk8 hw => rstart_any h1 h2 k j hw, fun cs s hcs hrep n f hf => ?_⟩
  obtain ⟨s0, s1, s2, s3, s4, s5⟩ := sh
  simp only at h1 h2
  obtain ⟨H, htold, q, hq, rfl⟩ := hrep
  obtain ⟨x, hx⟩ : ∃ x, stepOf n f ((kEpoch s5).req s) = x := ⟨_, rfl⟩
  obtain ⟨f', hf'⟩ : ∃ f', wordsOf n f ((kEpoch s5).req s) = f' := ⟨_, rfl⟩
  have hxh := had_bounds hf (ereq s)
  rw [hx, hf']
  replace hx : stepOf n f (ereq s) = x := hx
  replace hf' : wordsOf n f (ereq s) = f' := hf'
  rw [hx] at hxh
  have HN := fun he => enext_wf (r := s5) ⟨h1, h2⟩ H hxh he
  show ∃ cs', IsTk cs' ∧ (¬ eends s5 s x = true → repE ⟨s0, s1, s2, s3, s4, s5⟩ cs' (enext s5 s x)) ∧
      (eends s5 s x = true → cs'[22]? = some (.bool (enext s5 s x).told.ok) ∧ cs'[23]? = some (.int .u64 (enext s5 s x).told.val)) ∧ (∀ q, q < 4 → cs'[24 + q]? = some (.int .u64 0)) ∧
      ∀ (w : World) (g cap : Nat), IsRow w g n cap f → Calls Try.prog 22 #[.agg (tk ⟨s0, s1, s2, s3, s4, s5⟩ s.hand s.j q ⟨s.e, s.f, s.nx, s.w, s.mask, 0, 0, 0⟩ ⟨false, 0⟩).toArray, .slice (some ⟨g, 0, none⟩) n cap] w fun e w' => e = .returned (.tuple #[.agg cs'.toArray, x.val, .bool (eends s5 s x)]) ∧ IsRow w' g n cap f' ∧ w.grownBy w' (some g)
  obtain ⟨hst, hh', hha, hnx, hn0, hn1, hn4, hgw, he0, hf0, hw0, hgv, hmk⟩ := H
  obtain ⟨hand, ⟨kind, a, b, c, hh⟩, st, nx, e0, f0, w0, given, mask, told⟩ := s
  simp only at hst hha hnx hn0 hn1 hn4 hgw hmk htold hq
  subst htold
  rcases hst with ⟨rfl, hst⟩ | ⟨rfl, hst⟩ | ⟨rfl, hja, hst⟩ | ⟨rfl, hst⟩
  · rcases hst with rfl | rfl
    · skip
      obtain rfl : q = 1 := hq
      have e4 : ereq ⟨hand, ⟨1, a, b, c, hh⟩, 0, nx, e0, f0, w0, given, mask, ⟨false, 0⟩⟩ = ⟨hand, 1, 0, 0, 0, true⟩ := by simp [ereq]
      rw [e4] at hx hf'
      have e5 : eends s5 ⟨hand, ⟨1, a, b, c, hh⟩, 0, nx, e0, f0, w0, given, mask, ⟨false, 0⟩⟩ x = false := by simp [eends]
      have e7 : enext s5 ⟨hand, ⟨1, a, b, c, hh⟩, 0, nx, e0, f0, w0, given, mask, ⟨false, 0⟩⟩ x = ⟨hand, ⟨1, a, b, c, hh⟩, 1, nx, x.had, f0, w0, given, mask, ⟨false, 0⟩⟩ := by simp [enext]
      have HN' := HN (by rw [e5]; decide)
      rw [e7] at HN'
      rw [e5, e7]
      exact ⟨_, tk_is _ _ _ _ _ _, fun _ => ⟨HN', rfl, 2, rfl, rfl⟩, fun h => absurd h (by decide), tk_kept _ _ _ _ _ _, fun w g cap hr => rstep_e (tk_is _ _ _ _ _ _) (tk_is _ _ _ _ _ _) rfl rfl hr (fun w1 hr1 => rload hr1 hx hf')⟩
    · skip
      obtain rfl : q = 2 := hq
      have e4 : ereq ⟨hand, ⟨1, a, b, c, hh⟩, 1, nx, e0, f0, w0, given, mask, ⟨false, 0⟩⟩ = ⟨hand, 2, 1 + hand, 0, u64 (e0 + 1), true⟩ := by simp [ereq]
      rw [e4] at hx hf'
      have e5 : eends s5 ⟨hand, ⟨1, a, b, c, hh⟩, 1, nx, e0, f0, w0, given, mask, ⟨false, 0⟩⟩ x = true := by simp [eends]
      have e7 : enext s5 ⟨hand, ⟨1, a, b, c, hh⟩, 1, nx, e0, f0, w0, given, mask, ⟨false, 0⟩⟩ x = ⟨hand, ⟨1, a, b, c, hh⟩, 1, nx, e0, f0, w0, given, mask, ⟨true, e0⟩⟩ := by simp [enext]
      rw [e5, e7]
      exact ⟨_, tk_is _ _ _ _ _ _, fun h => absurd rfl h, fun _ => tk_ans _ _ _ _ _ _, tk_kept _ _ _ _ _ _, fun w g cap hr => re2 hr hha rfl hx hf'⟩
  · subst hst
    obtain rfl : q = 1 := hq
    have e4 : ereq ⟨hand, ⟨2, a, b, c, hh⟩, 0, nx, e0, f0, w0, given, mask, ⟨false, 0⟩⟩ = ⟨hand, 2, 1 + hand, 0, 0, true⟩ := by simp [ereq]
    rw [e4] at hx hf'
    have e5 : eends s5 ⟨hand, ⟨2, a, b, c, hh⟩, 0, nx, e0, f0, w0, given, mask, ⟨false, 0⟩⟩ x = true := by simp [eends]
    have e7 : enext s5 ⟨hand, ⟨2, a, b, c, hh⟩, 0, nx, e0, f0, w0, given, mask, ⟨false, 0⟩⟩ x = ⟨hand, ⟨2, a, b, c, hh⟩, 0, nx, e0, f0, w0, given, mask, ⟨true, 0⟩⟩ := by simp [enext]
    rw [e5, e7]
    exact ⟨_, tk_is _ _ _ _ _ _, fun h => absurd rfl h, fun _ => tk_ans _ _ _ _ _ _, tk_kept _ _ _ _ _ _, fun w g cap hr => rl1 hr hha hx hf'⟩
  · rcases hst with rfl | rfl
    · skip
      obtain rfl : q = 1 := hq
      have e4 : ereq ⟨hand, ⟨3, a, b, c, hh⟩, 0, nx, e0, f0, w0, given, mask, ⟨false, 0⟩⟩ = ⟨hand, 1, 0, 0, 0, true⟩ := by simp [ereq]
      rw [e4] at hx hf'
      have e5 : eends s5 ⟨hand, ⟨3, a, b, c, hh⟩, 0, nx, e0, f0, w0, given, mask, ⟨false, 0⟩⟩ x = false := by simp [eends]
      have e7 : enext s5 ⟨hand, ⟨3, a, b, c, hh⟩, 0, nx, e0, f0, w0, given, mask, ⟨false, 0⟩⟩ x = ⟨hand, ⟨3, a, b, c, hh⟩, 1, nx, x.had, f0, w0, given, mask, ⟨false, 0⟩⟩ := by simp [enext]
      have HN' := HN (by rw [e5]; decide)
      rw [e7] at HN'
      rw [e5, e7]
      exact ⟨_, tk_is _ _ _ _ _ _, fun _ => ⟨HN', rfl, 2, rfl, rfl⟩, fun h => absurd h (by decide), tk_kept _ _ _ _ _ _, fun w g cap hr => rstep_r (tk_is _ _ _ _ _ _) (tk_is _ _ _ _ _ _) rfl rfl hr (fun w1 hr1 => rload hr1 hx hf')⟩
    · skip
      obtain rfl : q = 2 := hq
      have e4 : ereq ⟨hand, ⟨3, a, b, c, hh⟩, 1, nx, e0, f0, w0, given, mask, ⟨false, 0⟩⟩ = ⟨hand, 5, 9 + a, 0, u64 (e0 + 1), true⟩ := by simp [ereq]
      rw [e4] at hx hf'
      have e5 : eends s5 ⟨hand, ⟨3, a, b, c, hh⟩, 1, nx, e0, f0, w0, given, mask, ⟨false, 0⟩⟩ x = true := by simp [eends]
      have e7 : enext s5 ⟨hand, ⟨3, a, b, c, hh⟩, 1, nx, e0, f0, w0, given, mask, ⟨false, 0⟩⟩ x = ⟨hand, ⟨3, a, b, c, hh⟩, 1, nx, e0, f0, w0, given, mask, ⟨x.ok, 0⟩⟩ := by simp [enext]
      rw [e5, e7]
      exact ⟨_, tk_is _ _ _ _ _ _, fun h => absurd rfl h, fun _ => tk_ans _ _ _ _ _ _, tk_kept _ _ _ _ _ _, fun w g cap hr => rt2 hr ⟨hja.1, by omega⟩ rfl hx hf'⟩
  · obtain rfl | rfl | rfl | rfl | rfl | rfl : st = 0 ∨ st = 1 ∨ st = 2 ∨ st = 3 ∨ st = 4 ∨ st = 5 := by omega
    · obtain rfl : nx = 0 := hn0 rfl
      obtain rfl : q = 1 := hq
      have e4 : ereq ⟨hand, ⟨4, a, b, c, hh⟩, 0, 0, e0, f0, w0, given, mask, ⟨false, 0⟩⟩ = ⟨hand, 1, 0, 0, 0, true⟩ := by simp [ereq]
      rw [e4] at hx hf'
      have e5 : eends s5 ⟨hand, ⟨4, a, b, c, hh⟩, 0, 0, e0, f0, w0, given, mask, ⟨false, 0⟩⟩ x = false := by simp [eends]
      have e7 : enext s5 ⟨hand, ⟨4, a, b, c, hh⟩, 0, 0, e0, f0, w0, given, mask, ⟨false, 0⟩⟩ x = ⟨hand, ⟨4, a, b, c, hh⟩, 1, 0, x.had, f0, w0, given, mask, ⟨false, 0⟩⟩ := by simp [enext]
      have HN' := HN (by rw [e5]; decide)
      rw [e7] at HN'
      rw [e5, e7]
      exact ⟨_, tk_is _ _ _ _ _ _, fun _ => ⟨HN', rfl, 2, rfl, rfl⟩, fun h => absurd h (by decide), tk_kept _ _ _ _ _ _, fun w g cap hr => rstep_p (tk_is _ _ _ _ _ _) (tk_is _ _ _ _ _ _) rfl hr (fun w1 hr1 => rreap_1 (tk_is _ _ _ _ _ _) (tk_is _ _ _ _ _ _) rfl hr1 (fun w2 hr2 => rload hr2 hx hf'))⟩
    · skip
      obtain rfl : q = 2 := hq
      have e4 : ereq ⟨hand, ⟨4, a, b, c, hh⟩, 1, nx, e0, f0, w0, given, mask, ⟨false, 0⟩⟩ = ⟨hand, 1, 1 + nx, 0, 0, true⟩ := by simp [ereq]
      rw [e4] at hx hf'
      by_cases a0 : x.had = 0
      · by_cases a2 : nx + 1 = 8
        · skip
          have e5 : eends s5 ⟨hand, ⟨4, a, b, c, hh⟩, 1, nx, e0, f0, w0, given, mask, ⟨false, 0⟩⟩ x = false := by simp [eends, bars, a0, a2]
          have e7 : enext s5 ⟨hand, ⟨4, a, b, c, hh⟩, 1, nx, e0, f0, w0, given, mask, ⟨false, 0⟩⟩ x = ⟨hand, ⟨4, a, b, c, hh⟩, 2, nx + 1, e0, f0, w0, given, mask, ⟨false, 0⟩⟩ := by simp [enext, bars, a0, a2]
          have HN' := HN (by rw [e5]; decide)
          rw [e7] at HN'
          rw [e5, e7]
          exact ⟨_, tk_is _ _ _ _ _ _, fun _ => ⟨HN', rfl, 3, rfl, rfl⟩, fun h => absurd h (by decide), tk_kept _ _ _ _ _ _, fun w g cap hr => rstep_p (tk_is _ _ _ _ _ _) (tk_is _ _ _ _ _ _) rfl hr (fun w1 hr1 => rp2_out_last hr1 hnx rfl a0 a2 hx hf')⟩
        · skip
          have e5 : eends s5 ⟨hand, ⟨4, a, b, c, hh⟩, 1, nx, e0, f0, w0, given, mask, ⟨false, 0⟩⟩ x = false := by simp [eends, bars, a0, a2]
          have e7 : enext s5 ⟨hand, ⟨4, a, b, c, hh⟩, 1, nx, e0, f0, w0, given, mask, ⟨false, 0⟩⟩ x = ⟨hand, ⟨4, a, b, c, hh⟩, 1, nx + 1, e0, f0, w0, given, mask, ⟨false, 0⟩⟩ := by simp [enext, bars, a0, a2]
          have HN' := HN (by rw [e5]; decide)
          rw [e7] at HN'
          rw [e5, e7]
          exact ⟨_, tk_is _ _ _ _ _ _, fun _ => ⟨HN', rfl, 2, rfl, rfl⟩, fun h => absurd h (by decide), tk_kept _ _ _ _ _ _, fun w g cap hr => rstep_p (tk_is _ _ _ _ _ _) (tk_is _ _ _ _ _ _) rfl hr (fun w1 hr1 => rp2_out_more hr1 hnx rfl a0 a2 hx hf')⟩
      · by_cases a1 : x.had = u64 (e0 + 1)
        · have a0' : ¬ u64 (e0 + 1) = 0 := by rw [← a1]; exact a0
          by_cases a2 : nx + 1 = 8
          · skip
            have e5 : eends s5 ⟨hand, ⟨4, a, b, c, hh⟩, 1, nx, e0, f0, w0, given, mask, ⟨false, 0⟩⟩ x = false := by simp [eends, bars, a0, a0', a1, a2]
            have e7 : enext s5 ⟨hand, ⟨4, a, b, c, hh⟩, 1, nx, e0, f0, w0, given, mask, ⟨false, 0⟩⟩ x = ⟨hand, ⟨4, a, b, c, hh⟩, 2, nx + 1, e0, f0, w0, given, mask, ⟨false, 0⟩⟩ := by simp [enext, bars, a0, a0', a1, a2]
            have HN' := HN (by rw [e5]; decide)
            rw [e7] at HN'
            rw [e5, e7]
            exact ⟨_, tk_is _ _ _ _ _ _, fun _ => ⟨HN', rfl, 3, rfl, rfl⟩, fun h => absurd h (by decide), tk_kept _ _ _ _ _ _, fun w g cap hr => rstep_p (tk_is _ _ _ _ _ _) (tk_is _ _ _ _ _ _) rfl hr (fun w1 hr1 => rp2_in_last hr1 hnx rfl a0 a1 a2 hx hf')⟩
          · skip
            have e5 : eends s5 ⟨hand, ⟨4, a, b, c, hh⟩, 1, nx, e0, f0, w0, given, mask, ⟨false, 0⟩⟩ x = false := by simp [eends, bars, a0, a0', a1, a2]
            have e7 : enext s5 ⟨hand, ⟨4, a, b, c, hh⟩, 1, nx, e0, f0, w0, given, mask, ⟨false, 0⟩⟩ x = ⟨hand, ⟨4, a, b, c, hh⟩, 1, nx + 1, e0, f0, w0, given, mask, ⟨false, 0⟩⟩ := by simp [enext, bars, a0, a0', a1, a2]
            have HN' := HN (by rw [e5]; decide)
            rw [e7] at HN'
            rw [e5, e7]
            exact ⟨_, tk_is _ _ _ _ _ _, fun _ => ⟨HN', rfl, 2, rfl, rfl⟩, fun h => absurd h (by decide), tk_kept _ _ _ _ _ _, fun w g cap hr => rstep_p (tk_is _ _ _ _ _ _) (tk_is _ _ _ _ _ _) rfl hr (fun w1 hr1 => rp2_in_more hr1 hnx rfl a0 a1 a2 hx hf')⟩
        · skip
          have e5 : eends s5 ⟨hand, ⟨4, a, b, c, hh⟩, 1, nx, e0, f0, w0, given, mask, ⟨false, 0⟩⟩ x = false := by simp [eends, bars, a0, a1]
          have e7 : enext s5 ⟨hand, ⟨4, a, b, c, hh⟩, 1, nx, e0, f0, w0, given, mask, ⟨false, 0⟩⟩ x = ⟨hand, ⟨4, a, b, c, hh⟩, 3, nx + 1, e0, f0, w0, given, mask, ⟨false, 0⟩⟩ := by simp [enext, bars, a0, a1]
          have HN' := HN (by rw [e5]; decide)
          rw [e7] at HN'
          rw [e5, e7]
          exact ⟨_, tk_is _ _ _ _ _ _, fun _ => ⟨HN', rfl, 4, rfl, rfl⟩, fun h => absurd h (by decide), tk_kept _ _ _ _ _ _, fun w g cap hr => rstep_p (tk_is _ _ _ _ _ _) (tk_is _ _ _ _ _ _) rfl hr (fun w1 hr1 => rp2_bar hr1 hnx rfl a0 a1 hx hf')⟩
    · skip
      obtain rfl : q = 3 := hq
      have e4 : ereq ⟨hand, ⟨4, a, b, c, hh⟩, 2, nx, e0, f0, w0, given, mask, ⟨false, 0⟩⟩ = ⟨hand, 5, 0, e0, u64 (e0 + 1), true⟩ := by simp [ereq]
      rw [e4] at hx hf'
      have e5 : eends s5 ⟨hand, ⟨4, a, b, c, hh⟩, 2, nx, e0, f0, w0, given, mask, ⟨false, 0⟩⟩ x = false := by simp [eends]
      have e7 : enext s5 ⟨hand, ⟨4, a, b, c, hh⟩, 2, nx, e0, f0, w0, given, mask, ⟨false, 0⟩⟩ x = ⟨hand, ⟨4, a, b, c, hh⟩, 3, nx, e0, f0, w0, given, mask, ⟨false, 0⟩⟩ := by simp [enext]
      have HN' := HN (by rw [e5]; decide)
      rw [e7] at HN'
      rw [e5, e7]
      exact ⟨_, tk_is _ _ _ _ _ _, fun _ => ⟨HN', rfl, 4, rfl, rfl⟩, fun h => absurd h (by decide), tk_kept _ _ _ _ _ _, fun w g cap hr => rstep_p (tk_is _ _ _ _ _ _) (tk_is _ _ _ _ _ _) rfl hr (fun w1 hr1 => rp3 hr1 rfl hx hf')⟩
    · skip
      obtain rfl : q = 4 := hq
      have e4 : ereq ⟨hand, ⟨4, a, b, c, hh⟩, 3, nx, e0, f0, w0, given, mask, ⟨false, 0⟩⟩ = ⟨hand, 1, 0, 0, 0, true⟩ := by simp [ereq]
      rw [e4] at hx hf'
      have e5 : eends s5 ⟨hand, ⟨4, a, b, c, hh⟩, 3, nx, e0, f0, w0, given, mask, ⟨false, 0⟩⟩ x = false := by simp [eends]
      have e7 : enext s5 ⟨hand, ⟨4, a, b, c, hh⟩, 3, nx, e0, f0, w0, given, mask, ⟨false, 0⟩⟩ x = ⟨hand, ⟨4, a, b, c, hh⟩, 4, 0, e0, x.had, w0, given, mask, ⟨false, 0⟩⟩ := by simp [enext]
      have HN' := HN (by rw [e5]; decide)
      rw [e7] at HN'
      rw [e5, e7]
      exact ⟨_, tk_is _ _ _ _ _ _, fun _ => ⟨HN', rfl, 5, rfl, rfl⟩, fun h => absurd h (by decide), tk_kept _ _ _ _ _ _, fun w g cap hr => rstep_p (tk_is _ _ _ _ _ _) (tk_is _ _ _ _ _ _) rfl hr (fun w1 hr1 => rp4 hr1 hx hf')⟩
    · skip
      obtain rfl : q = 5 := hq
      have e4 : ereq ⟨hand, ⟨4, a, b, c, hh⟩, 4, nx, e0, f0, w0, given, mask, ⟨false, 0⟩⟩ = ⟨hand, 1, 9 + nx, 0, 0, true⟩ := by simp [ereq]
      rw [e4] at hx hf'
      by_cases a0 : x.had = 0
      · skip
        by_cases a9 : nx + 1 < s5
        · skip
          have e5 : eends s5 ⟨hand, ⟨4, a, b, c, hh⟩, 4, nx, e0, f0, w0, given, mask, ⟨false, 0⟩⟩ x = false := by simp [eends, due, a0, a9]
          have e7 : enext s5 ⟨hand, ⟨4, a, b, c, hh⟩, 4, nx, e0, f0, w0, given, mask, ⟨false, 0⟩⟩ x = ⟨hand, ⟨4, a, b, c, hh⟩, 4, nx + 1, e0, f0, x.had, given, mask, ⟨false, 0⟩⟩ := by simp [enext, due, a0, a9]
          have HN' := HN (by rw [e5]; decide)
          rw [e7] at HN'
          rw [e5, e7]
          exact ⟨_, tk_is _ _ _ _ _ _, fun _ => ⟨HN', rfl, 5, rfl, rfl⟩, fun h => absurd h (by decide), tk_kept _ _ _ _ _ _, fun w g cap hr => rstep_p (tk_is _ _ _ _ _ _) (tk_is _ _ _ _ _ _) rfl hr (fun w1 hr1 => rp5_none hr1 hnx a0 (tk_is _ _ _ _ _ _) (fun w2 => rnext_more hnx a9) hx hf')⟩
        · skip
          have e5 : eends s5 ⟨hand, ⟨4, a, b, c, hh⟩, 4, nx, e0, f0, w0, given, mask, ⟨false, 0⟩⟩ x = true := by simp [eends, due, a0, a9]
          have e7 : enext s5 ⟨hand, ⟨4, a, b, c, hh⟩, 4, nx, e0, f0, w0, given, mask, ⟨false, 0⟩⟩ x = ⟨hand, ⟨4, a, b, c, hh⟩, 4, nx + 1, e0, f0, x.had, given, mask, ⟨true, mask⟩⟩ := by simp [enext, due, a0, a9]
          rw [e5, e7]
          exact ⟨_, tk_is _ _ _ _ _ _, fun h => absurd rfl h, fun _ => tk_ans _ _ _ _ _ _, tk_kept _ _ _ _ _ _, fun w g cap hr => rstep_p (tk_is _ _ _ _ _ _) (tk_is _ _ _ _ _ _) rfl hr (fun w1 hr1 => rp5_none hr1 hnx a0 (tk_is _ _ _ _ _ _) (fun w2 => rnext_end hnx a9) hx hf')⟩
      · by_cases a1 : u64 (x.had + 1) ≤ f0
        · skip
          have e5 : eends s5 ⟨hand, ⟨4, a, b, c, hh⟩, 4, nx, e0, f0, w0, given, mask, ⟨false, 0⟩⟩ x = false := by simp [eends, due, a0, a1]
          have e7 : enext s5 ⟨hand, ⟨4, a, b, c, hh⟩, 4, nx, e0, f0, w0, given, mask, ⟨false, 0⟩⟩ x = ⟨hand, ⟨4, a, b, c, hh⟩, 5, nx, e0, f0, x.had, x.had, mask, ⟨false, 0⟩⟩ := by simp [enext, due, a0, a1]
          have HN' := HN (by rw [e5]; decide)
          rw [e7] at HN'
          rw [e5, e7]
          exact ⟨_, tk_is _ _ _ _ _ _, fun _ => ⟨HN', rfl, 6, rfl, rfl⟩, fun h => absurd h (by decide), tk_kept _ _ _ _ _ _, fun w g cap hr => rstep_p (tk_is _ _ _ _ _ _) (tk_is _ _ _ _ _ _) rfl hr (fun w1 hr1 => rp5_due hr1 hnx rfl a0 a1 hx hf')⟩
        · skip
          by_cases a9 : nx + 1 < s5
          · skip
            have e5 : eends s5 ⟨hand, ⟨4, a, b, c, hh⟩, 4, nx, e0, f0, w0, given, mask, ⟨false, 0⟩⟩ x = false := by simp [eends, due, a0, a1, a9]
            have e7 : enext s5 ⟨hand, ⟨4, a, b, c, hh⟩, 4, nx, e0, f0, w0, given, mask, ⟨false, 0⟩⟩ x = ⟨hand, ⟨4, a, b, c, hh⟩, 4, nx + 1, e0, f0, x.had, given, mask, ⟨false, 0⟩⟩ := by simp [enext, due, a0, a1, a9]
            have HN' := HN (by rw [e5]; decide)
            rw [e7] at HN'
            rw [e5, e7]
            exact ⟨_, tk_is _ _ _ _ _ _, fun _ => ⟨HN', rfl, 5, rfl, rfl⟩, fun h => absurd h (by decide), tk_kept _ _ _ _ _ _, fun w g cap hr => rstep_p (tk_is _ _ _ _ _ _) (tk_is _ _ _ _ _ _) rfl hr (fun w1 hr1 => rp5_young hr1 hnx rfl a0 a1 (tk_is _ _ _ _ _ _) (fun w2 => rnext_more hnx a9) hx hf')⟩
          · skip
            have e5 : eends s5 ⟨hand, ⟨4, a, b, c, hh⟩, 4, nx, e0, f0, w0, given, mask, ⟨false, 0⟩⟩ x = true := by simp [eends, due, a0, a1, a9]
            have e7 : enext s5 ⟨hand, ⟨4, a, b, c, hh⟩, 4, nx, e0, f0, w0, given, mask, ⟨false, 0⟩⟩ x = ⟨hand, ⟨4, a, b, c, hh⟩, 4, nx + 1, e0, f0, x.had, given, mask, ⟨true, mask⟩⟩ := by simp [enext, due, a0, a1, a9]
            rw [e5, e7]
            exact ⟨_, tk_is _ _ _ _ _ _, fun h => absurd rfl h, fun _ => tk_ans _ _ _ _ _ _, tk_kept _ _ _ _ _ _, fun w g cap hr => rstep_p (tk_is _ _ _ _ _ _) (tk_is _ _ _ _ _ _) rfl hr (fun w1 hr1 => rp5_young hr1 hnx rfl a0 a1 (tk_is _ _ _ _ _ _) (fun w2 => rnext_end hnx a9) hx hf')⟩
    · obtain rfl : given = w0 := hgw rfl
      have hn6 : nx < 64 := by have := hn4 (by decide); omega
      obtain rfl : q = 6 := hq
      have e4 : ereq ⟨hand, ⟨4, a, b, c, hh⟩, 5, nx, e0, f0, given, given, mask, ⟨false, 0⟩⟩ = ⟨hand, 5, 9 + nx, given, 0, true⟩ := by simp [ereq]
      rw [e4] at hx hf'
      cases hok : x.ok with
      | false =>
        by_cases a9 : nx + 1 < s5
        · skip
          have e5 : eends s5 ⟨hand, ⟨4, a, b, c, hh⟩, 5, nx, e0, f0, given, given, mask, ⟨false, 0⟩⟩ x = false := by simp [eends, hok, a9]
          have e7 : enext s5 ⟨hand, ⟨4, a, b, c, hh⟩, 5, nx, e0, f0, given, given, mask, ⟨false, 0⟩⟩ x = ⟨hand, ⟨4, a, b, c, hh⟩, 4, nx + 1, e0, f0, given, given, mask, ⟨false, 0⟩⟩ := by simp [enext, hok, a9]
          have HN' := HN (by rw [e5]; decide)
          rw [e7] at HN'
          rw [e5, e7]
          exact ⟨_, tk_is _ _ _ _ _ _, fun _ => ⟨HN', rfl, 5, rfl, rfl⟩, fun h => absurd h (by decide), tk_kept _ _ _ _ _ _, fun w g cap hr => rstep_p (tk_is _ _ _ _ _ _) (tk_is _ _ _ _ _ _) rfl hr (fun w1 hr1 => rp6_no hr1 hnx hok (tk_is _ _ _ _ _ _) (fun w2 => rnext_more hnx a9) hx hf')⟩
        · skip
          have e5 : eends s5 ⟨hand, ⟨4, a, b, c, hh⟩, 5, nx, e0, f0, given, given, mask, ⟨false, 0⟩⟩ x = true := by simp [eends, hok, a9]
          have e7 : enext s5 ⟨hand, ⟨4, a, b, c, hh⟩, 5, nx, e0, f0, given, given, mask, ⟨false, 0⟩⟩ x = ⟨hand, ⟨4, a, b, c, hh⟩, 4, nx + 1, e0, f0, given, given, mask, ⟨true, mask⟩⟩ := by simp [enext, hok, a9]
          rw [e5, e7]
          exact ⟨_, tk_is _ _ _ _ _ _, fun h => absurd rfl h, fun _ => tk_ans _ _ _ _ _ _, tk_kept _ _ _ _ _ _, fun w g cap hr => rstep_p (tk_is _ _ _ _ _ _) (tk_is _ _ _ _ _ _) rfl hr (fun w1 hr1 => rp6_no hr1 hnx hok (tk_is _ _ _ _ _ _) (fun w2 => rnext_end hnx a9) hx hf')⟩
      | true =>
        by_cases a9 : nx + 1 < s5
        · skip
          have e5 : eends s5 ⟨hand, ⟨4, a, b, c, hh⟩, 5, nx, e0, f0, given, given, mask, ⟨false, 0⟩⟩ x = false := by simp [eends, hok, a9]
          have e7 : enext s5 ⟨hand, ⟨4, a, b, c, hh⟩, 5, nx, e0, f0, given, given, mask, ⟨false, 0⟩⟩ x = ⟨hand, ⟨4, a, b, c, hh⟩, 4, nx + 1, e0, f0, given, given, mput mask nx, ⟨false, 0⟩⟩ := by simp [enext, hok, a9]
          have HN' := HN (by rw [e5]; decide)
          rw [e7] at HN'
          rw [e5, e7]
          exact ⟨_, tk_is _ _ _ _ _ _, fun _ => ⟨HN', rfl, 5, rfl, rfl⟩, fun h => absurd h (by decide), tk_kept _ _ _ _ _ _, fun w g cap hr => rstep_p (tk_is _ _ _ _ _ _) (tk_is _ _ _ _ _ _) rfl hr (fun w1 hr1 => rp6_ok hr1 hnx (mput_bits hmk ⟨hnx.1, hn6⟩) hn6 hok (tk_is _ _ _ _ _ _) (fun w2 => rnext_more hnx a9) hx hf')⟩
        · skip
          have e5 : eends s5 ⟨hand, ⟨4, a, b, c, hh⟩, 5, nx, e0, f0, given, given, mask, ⟨false, 0⟩⟩ x = true := by simp [eends, hok, a9]
          have e7 : enext s5 ⟨hand, ⟨4, a, b, c, hh⟩, 5, nx, e0, f0, given, given, mask, ⟨false, 0⟩⟩ x = ⟨hand, ⟨4, a, b, c, hh⟩, 4, nx + 1, e0, f0, given, given, mput mask nx, ⟨true, mput mask nx⟩⟩ := by simp [enext, hok, a9]
          rw [e5, e7]
          exact ⟨_, tk_is _ _ _ _ _ _, fun h => absurd rfl h, fun _ => tk_ans _ _ _ _ _ _, tk_kept _ _ _ _ _ _, fun w g cap hr => rstep_p (tk_is _ _ _ _ _ _) (tk_is _ _ _ _ _ _) rfl hr (fun w1 hr1 => rp6_ok hr1 hnx (mput_bits hmk ⟨hnx.1, hn6⟩) hn6 hok (tk_is _ _ _ _ _ _) (fun w2 => rnext_end hnx a9) hx hf')⟩
end Epoch
end Go.Proofs.Ytdflicgjkleonaa

/-
  The statement's own reference of tasks of several steps: wrong.
-/
namespace Go.Proofs.Ytdflicgjkleonaa
namespace L11
open Go.RowKit
set_option linter.unusedVariables false
set_option linter.unusedSimpArgs false
set_option linter.unnecessarySimpa false
set_option maxRecDepth 20000

variable {K : Kd} {rep : List Value → K.σ → Prop} {sh : Shp} {w : World} {aoh aos : Option Addr} {caph caps : Nat} {P : Par} {most : Int}

theorem build77 {ev : Operand → Value} {o : Oper} {w : World} (ho : o.op = .build 62 #[]) : (execOp ev o).run Try.prog w = .ok (.value (.agg #[.int .u64 0, .int .u64 0, .int .u64 0, .int .u64 0])) w := by
  simp [execOp, ho, go_sem]
theorem callStartW (args : Array Value) (w : World) : (callFunc 20 args).run Try.prog w = .ok (.enter 20 args) w := by
  simp [go_sem]
set_option maxHeartbeats 8000000 in
theorem wrong_fine (RK : RKind K rep sh 20 22) (hjw : ∀ h, h < P.nh → ∀ j, j < P.jn h → (P.jb h j).wf) (SH : SeesH w w.heap.size aoh P.nh P.jn P.jb) (hl : ¬ LongHands P.nh P.jn) (hs : P.ns ≤ 65536) (hm0 : 0 ≤ most) (hm : most ≤ 65536) :
    Calls Try.prog 47 #[sh.val, .slice aoh P.nh caph, .slice aos P.ns caps, .int .i64 most] w fun e w' => Below w.heap.size w w' ∧ ((AllOk K P ∧ e = .returned (.int .i64 0)) ∨ ∃ er, FirstErr K P er ∧ e = .returned (.int .i64 er)) := by
  have hnh : P.nh ≤ 8 := by rcases Nat.lt_or_ge 8 P.nh with l | l; exact absurd (.inl l) hl; exact l
  have hjn : ∀ i, i < P.nh → P.jn i ≤ 256 := fun i hi => by rcases Nat.lt_or_ge 256 (P.jn i) with l | l; exact absurd (.inr ⟨i, hi, l⟩) hl; exact l
  have HSH := hide SH
  have HRK := hide RK
  have HJW := hide hjw
  have HL := hide hl
  have HJN := hide hjn
  obtain ⟨W1, hW1⟩ : ∃ W1, w.alloc (.cells #[.int .i64 sh.a, .int .i64 sh.b, .int .i64 sh.c, .int .i64 sh.d, .int .i64 sh.e, .int .i64 sh.f] 23) = W1 := ⟨_, rfl⟩
  have b1 : Below w.heap.size w W1 := by rw [← hW1]; exact (Below.refl _ w).alloc (Nat.le_refl _) _
  have sz1 : W1.heap.size = w.heap.size + 1 := by rw [← hW1]; simp
  have R1 := hide (show W1.rangeAt w.heap.size 0 [Value.int .i64 sh.a, .int .i64 sh.b, .int .i64 sh.c, .int .i64 sh.d, .int .i64 sh.e, .int .i64 sh.f] from by rw [← hW1]; exact rowIs.range (rowL_alloc w [Value.int .i64 sh.a, .int .i64 sh.b, .int .i64 sh.c, .int .i64 sh.d, .int .i64 sh.e, .int .i64 sh.f] 23 (n := 6) rfl) rfl)
  have BW := hide b1
  clear SH RK hjw hl hjn b1
  simp only [Shp.val]
  go_enter Try.func47, Try.ntmps47
  go_wp2_with (go_at_call 59; refine (fits_fine (HSH.out.below BW.out (Nat.le_refl _)) HL.out hs most hm 0 (.inl ⟨hm0, rfl⟩)).mono ?_; rintro e w' ⟨rfl, hw⟩; obtain rfl := hw.symm)
  go_loopw [9, 10] (fun e i wr => ∃ (k : Nat) (er : Int), k ≤ P.nh ∧ i = .int .i64 k ∧ Below W1.heap.size W1 wr ∧ e = .int .i64 er ∧ ((er = 0 ∧ ∀ h, h < k → ∀ j, j < P.jn h → K.err h (P.jb h j) = 0) ∨ FirstErr K P er)) (fun _ i _ => P.nh - (intOf i).toNat)
  case atStart => exact ⟨0, 0, Nat.zero_le _, rfl, Below.refl _ _, rfl, .inl ⟨rfl, fun h hh => absurd hh (Nat.not_lt_zero h)⟩⟩
  case round =>
    obtain ⟨wo, rfl⟩ : ∃ x, x = wr := ⟨_, rfl⟩
    obtain ⟨k, er, hk, rfl, hb, rfl, hcase⟩ := hrel
    have HB := hide hb
    clear hb
    rcases hcase with ⟨rfl, hall⟩ | hfe
    · have HALL := hide hall
      clear hall
      by_cases hlt : k < P.nh
      · have hkn : (k : Int) < (P.nh : Int) := by omega
        obtain ⟨b, off, ao', cap', hao, hbl, hcc, hjj⟩ := (HSH.out.below (BW.out.trans (HB.out.mono (by omega))) (Nat.le_refl _)) k hlt
        subst hao
        have hjk := HJN.out k hlt
        have HJJ := hide hjj
        clear hjj
        go_wp2_with fail
        go_loopw [9, 11] (fun e i wr => ∃ (q : Nat) (er : Int), q ≤ P.jn k ∧ i = .int .i64 q ∧ Below W1.heap.size W1 wr ∧ e = .int .i64 er ∧ ((er = 0 ∧ ∀ j, j < q → K.err k (P.jb k j) = 0) ∨ (FirstErr K P er ∧ ¬ er = 0))) (fun _ i _ => P.jn k - (intOf i).toNat)
        case atStart => exact ⟨0, 0, Nat.zero_le _, rfl, HB.out, rfl, .inl ⟨rfl, fun j hj => absurd hj (Nat.not_lt_zero j)⟩⟩
        case round =>
          obtain ⟨q, er, hq, rfl, hb2, rfl, hcase2⟩ := hrel
          have HB2' := hide hb2
          have hccr := (hb2.cell (p := ⟨b, off + k, none⟩) (by show b < _; omega)).trans ((HB.out.cell (p := ⟨b, off + k, none⟩) (by show b < _; omega)).symm.trans hcc)
          rcases hcase2 with ⟨rfl, hall2⟩ | ⟨hfe2, hne2⟩
          · have HALL2 := hide hall2
            clear hall2
            by_cases hlq : q < P.jn k
            · have hqn : (q : Int) < (P.jn k : Int) := by omega
              obtain ⟨b', off', hao', hbl', hc'⟩ := HJJ.out q hlq
              subst hao'
              obtain ⟨cs, hcs1, hcs2, hcs⟩ := HRK.out.start k (P.jb k q) (by omega) (by omega) (HJW.out k hlt q hlq)
              have ST := hide hcs
              obtain ⟨ev, hev⟩ : ∃ ev, K.err k (P.jb k q) = ev := ⟨_, rfl⟩
              rw [hev] at ST
              have HEV := hide hev
              have lwr : W1.heap.size ≤ wr.heap.size := hb2.size
              obtain ⟨jb, hjb⟩ : ∃ jb, P.jb k q = jb := ⟨_, rfl⟩
              rw [hjb] at hc' ST
              obtain ⟨jk, ja, jbb, jc, jh⟩ := jb
              simp only [Shp.val, Jb.val, kept0] at ST
              have W0 : Below wr.heap.size wr wr.drew ∧ wr.rangeAt w.heap.size 0 [Value.int .i64 sh.a, .int .i64 sh.b, .int .i64 sh.c, .int .i64 sh.d, .int .i64 sh.e, .int .i64 sh.f] ∧ wr.cell? ⟨b, off + k * 1, none⟩ = some (.slice (some ⟨b', off', none⟩) (P.jn k) cap') ∧ wr.rangeAt b' (off' + q * 5) [.int .i64 jk, .int .i64 ja, .int .i64 jbb, .int .i64 jc, .int .u64 jh] := by
                refine ⟨(Below.refl _ _).drew, rangeAt_block R1.out (hb2.block _ (by omega)), by rw [Nat.mul_one]; exact hccr, fun j v hv => ?_⟩
                have hj : j < 5 := (List.getElem?_eq_some_iff.1 hv).1
                rw [show wr.cell? ⟨b', off' + q * 5 + j, none⟩ = wo.cell? ⟨b', off' + q * 5 + j, none⟩ from (hb2.cell (p := ⟨b', off' + q * 5 + j, none⟩) (by show b' < _; omega)).trans (HB.out.cell (p := ⟨b', off' + q * 5 + j, none⟩) (by show b' < _; omega)).symm, hc' j hj]
                match j, hj with
                | 0, _ | 1, _ | 2, _ | 3, _ | 4, _ => exact congrArg some (Option.some.inj hv)
              have HW0 := hide W0
              obtain ⟨dJ, hdJ⟩ := row54
              obtain ⟨dS, hdS⟩ := row42
              have DJ := hide hdJ
              have DS := hide hdS
              clear W0 hcs hcs1 hcs2 hev hjb hc' hb2 hdJ hdS
              go_wp2_with fail
              ·
                refine Reg.region (t := (⟨[(0, 40), (1, 41), (2, 42), (3, 43), (4, 44), (5, 45), (6, 46), (7, 47), (8, 48), (9, 49), (11, 39), (12, 51), (13, 52), (14, 9)],
                    fun i => match i with
                      | 0 => .agg #[.int .i64 sh.a, .int .i64 sh.b, .int .i64 sh.c, .int .i64 sh.d, .int .i64 sh.e, .int .i64 sh.f]
                      | 2 => .slice (some ⟨b, off, none⟩) P.nh caph
                      | 4 => .pointer (some ⟨b, off + k * 1, none⟩)
                      | 5 => .slice (some ⟨b', off', none⟩) (P.jn k) cap'
                      | 6 => .int .i64 (q : Int)
                      | 7 => .pointer (some ⟨b', off' + q * 5, none⟩)
                      | 8 => .agg #[.int .i64 jk, .int .i64 ja, .int .i64 jbb, .int .i64 jc, .int .u64 jh]
                      | 9 => .agg #[.int .u64 0, .int .u64 0, .int .u64 0, .int .u64 0]
                      | 11 => .tuple #[.agg cs.toArray, .int .i64 ev]
                      | 12 => .agg cs.toArray
                      | 13 => .int .i64 ev
                      | 14 => .int .i64 ev
                      | _ => .int .i64 (k : Int),
                    10, 50, .tuple #[.agg cs.toArray, .int .i64 ev], [], fun _ => (3, []), [], fun _ => []⟩ : Reg.TabL).tab)
                  (WI := fun _ w' => Below wr.heap.size wr w' ∧ w'.rangeAt w.heap.size 0 [Value.int .i64 sh.a, .int .i64 sh.b, .int .i64 sh.c, .int .i64 sh.d, .int .i64 sh.e, .int .i64 sh.f] ∧ w'.cell? ⟨b, off + k * 1, none⟩ = some (.slice (some ⟨b', off', none⟩) (P.jn k) cap') ∧ w'.rangeAt b' (off' + q * 5) [.int .i64 jk, .int .i64 ja, .int .i64 jbb, .int .i64 jc, .int .u64 jh])
                  (gw := w.heap.size) (by kernel_rfl) (Reg.TabL.ok _ rfl (fun i j hm => by simp at hm)) ?g8 ?b8 (by omega) ?alo ?sto ?dd HW0.out ?kinds ?fin
                case g8 =>
                  intro i o ho
                  have hi : i < 15 := by have := (Array.getElem?_eq_some_iff.1 ho).1; simpa using this
                  match i, hi with
                  | 0, _ | 1, _ | 2, _ | 3, _ | 4, _ | 5, _ | 6, _ | 7, _ | 8, _ | 9, _ | 10, _ | 11, _ | 12, _ | 13, _ | 14, _ => injection ho with ho; subst ho; rfl
                case b8 =>
                  intro i o ho
                  have hi : i < 15 := by have := (Array.getElem?_eq_some_iff.1 ho).1; simpa using this
                  match i, hi with
                  | 0, _ | 1, _ | 2, _ | 3, _ | 4, _ | 5, _ | 6, _ | 7, _ | 8, _ | 9, _ | 10, _ | 11, _ | 12, _ | 13, _ | 14, _ => injection ho with ho; subst ho; simp [Region.binds]
                case alo =>
                  rintro _ w' o ⟨h0, h1, h2, h3⟩
                  exact ⟨h0.alloc h0.size _, World.rangeAt_alloc h1 o, (World.cell?_alloc_lt _ _ _ (World.block_lt_of_cell? _ _ h2)).trans h2, World.rangeAt_alloc h3 o⟩
                case sto =>
                  rintro _ w' x vs ⟨h0, h1, h2, h3⟩ hk
                  have tt := touch_setCells x vs 0 w'
                  exact ⟨h0.trans (tt.below (fun y hy => by omega) h0.size), rangeAt_block h1 (tt.block _ (World.block_lt_of_cell? _ _ (h1 0 _ rfl)) (by show w.heap.size ≠ x; omega)), (World.cell?_of_block (a := ⟨b, off + k * 1, none⟩) (tt.block _ (World.block_lt_of_cell? _ _ h2) (by show b ≠ x; omega))).trans h2, rangeAt_block h3 (tt.block _ (World.block_lt_of_cell? _ _ (h3 0 _ rfl)) (by show b' ≠ x; omega))⟩
                case dd =>
                  intro x hx
                  have hx' : x < 54 := by
                    simp [Reg.TabL.tab] at hx
                    omega
                  simpa using hx'
                case kinds =>
                  have hWb : ∀ w1 w2 : World, (Below wr.heap.size wr w1 ∧ w1.rangeAt w.heap.size 0 [Value.int .i64 sh.a, .int .i64 sh.b, .int .i64 sh.c, .int .i64 sh.d, .int .i64 sh.e, .int .i64 sh.f] ∧ w1.cell? ⟨b, off + k * 1, none⟩ = some (.slice (some ⟨b', off', none⟩) (P.jn k) cap') ∧ w1.rangeAt b' (off' + q * 5) [.int .i64 jk, .int .i64 ja, .int .i64 jbb, .int .i64 jc, .int .u64 jh]) → Below w1.heap.size w1 w2 → (Below wr.heap.size wr w2 ∧ w2.rangeAt w.heap.size 0 [Value.int .i64 sh.a, .int .i64 sh.b, .int .i64 sh.c, .int .i64 sh.d, .int .i64 sh.e, .int .i64 sh.f] ∧ w2.cell? ⟨b, off + k * 1, none⟩ = some (.slice (some ⟨b', off', none⟩) (P.jn k) cap') ∧ w2.rangeAt b' (off' + q * 5) [.int .i64 jk, .int .i64 ja, .int .i64 jbb, .int .i64 jc, .int .u64 jh]) := by
                    rintro w1 w2 ⟨h0, h1, h2, h3⟩ hb
                    exact ⟨h0.trans (hb.mono h0.size), rangeAt_block h1 (hb.block _ (World.block_lt_of_cell? _ _ (h1 0 _ rfl))), (hb.cell (p := ⟨b, off + k * 1, none⟩) (World.block_lt_of_cell? _ _ h2)).trans h2, rangeAt_block h3 (hb.block _ (World.block_lt_of_cell? _ _ (h3 0 _ rfl)))⟩
                  intro i o ho
                  have hi : i < 15 := by have := (Array.getElem?_eq_some_iff.1 ho).1; simpa using this
                  match i, hi with
                  | 0, _ => injection ho with ho; subst ho; exact .inl ⟨40, _, rfl, rfl, fun L a w' bk hI hd => ex_load_row rfl (hI.fix 4 (Reg.notD rfl)) hI.world.2.1 DS.out.1 DS.out.2 size42⟩
                  | 1, _ => injection ho with ho; subst ho; exact .inl ⟨41, _, rfl, rfl, fun L a w' bk hI hd => ex_move rfl (hI.fix 10 (Reg.notD rfl))⟩
                  | 2, _ => injection ho with ho; subst ho; exact .inl ⟨42, _, rfl, rfl, fun L a w' bk hI hd => ex_move rfl (hI.fix 1 (Reg.notD rfl))⟩
                  | 3, _ => injection ho with ho; subst ho; exact .inl ⟨43, _, rfl, rfl, fun L a w' bk hI hd => ex_move rfl (hI.fix 10 (Reg.notD rfl))⟩
                  | 4, _ => injection ho with ho; subst ho; exact .inl ⟨44, _, rfl, rfl, fun L a w' bk hI hd => ex_index rfl (hI.pure 2 _ _ rfl (hd ⟨2, .data⟩ (by simp) rfl)) (hI.pure 3 _ _ rfl (hd ⟨3, .data⟩ (by simp) rfl)) hlt Try.underlying25 sz52⟩
                  | 5, _ => injection ho with ho; subst ho; exact .inl ⟨45, _, rfl, rfl, fun L a w' bk hI hd => ex_load rfl (hI.pure 4 _ _ rfl (hd ⟨4, .data⟩ (by simp) rfl)) (agg_no w').2.2.1 hI.world.2.2.1⟩
                  | 6, _ => injection ho with ho; subst ho; exact .inl ⟨46, _, rfl, rfl, fun L a w' bk hI hd => ex_move rfl (hI.fix 11 (Reg.notD rfl))⟩
                  | 7, _ => injection ho with ho; subst ho; exact .inl ⟨47, _, rfl, rfl, fun L a w' bk hI hd => ex_index rfl (hI.pure 5 _ _ rfl (hd ⟨5, .data⟩ (by simp) rfl)) (hI.pure 6 _ _ rfl (hd ⟨6, .data⟩ (by simp) rfl)) hlq Try.underlying79 sz54⟩
                  | 8, _ => injection ho with ho; subst ho; exact .inl ⟨48, _, rfl, rfl, fun L a w' bk hI hd => ex_load_row rfl (hI.pure 7 _ _ rfl (hd ⟨7, .data⟩ (by simp) rfl)) hI.world.2.2.2 DJ.out.1 DJ.out.2 size54⟩
                  | 9, _ => injection ho with ho; subst ho; exact .inl ⟨49, _, rfl, rfl, fun L a w' bk hI hd => build77 rfl⟩
                  | 10, _ => injection ho with ho; subst ho; exact .inr (.inl ⟨rfl, rfl, fun L a w' bk K hI hL hd hk => wp_call (f := 20) (call4 rfl (hI.pure 0 _ _ rfl (hd ⟨0, .data⟩ (by simp) rfl)) (hI.pure 1 _ _ rfl (hd ⟨1, .data⟩ (by simp) rfl)) (hI.pure 8 _ _ rfl (hd ⟨8, .data⟩ (by simp) rfl)) (hI.pure 9 _ _ rfl (hd ⟨9, .data⟩ (by simp) rfl)) rfl (callStartW _ _)) ((ST.out w').mono (fun e w'' ⟨he, hb⟩ => ⟨_, he, hk w'' (hWb w' w'' hI.world hb) (Touch.of_below hb _)⟩))⟩)
                  | 11, _ => injection ho with ho; subst ho; exact .inl ⟨39, _, rfl, rfl, fun L a w' bk hI hd => ex_move rfl (hI.call (hd ⟨10, .data⟩ (by simp) rfl))⟩
                  | 12, _ => injection ho with ho; subst ho; exact .inl ⟨51, _, rfl, rfl, fun L a w' bk hI hd => ex_extract rfl (hI.pure 11 _ _ rfl (hd ⟨11, .data⟩ (by simp) rfl)) rfl⟩
                  | 13, _ => injection ho with ho; subst ho; exact .inl ⟨52, _, rfl, rfl, fun L a w' bk hI hd => ex_extract rfl (hI.pure 11 _ _ rfl (hd ⟨11, .data⟩ (by simp) rfl)) rfl⟩
                  | 14, _ => injection ho with ho; subst ho; exact .inl ⟨9, _, rfl, rfl, fun L a w' bk hI hd => ex_assign rfl (hI.pure 13 _ _ rfl (hd ⟨13, .data⟩ (by simp) rfl))⟩
                case fin =>
                  intro L a' w' bk hI hall
                  have ea := act_all a' 54 (by rw [hI.sz]; rfl) hI.df
                  simp only [List.range, List.range.loop, List.map] at ea
                  rw [hI.fix 0 (Reg.notD rfl), hI.fix 1 (Reg.notD rfl), hI.fix 2 (Reg.notD rfl), hI.fix 3 (Reg.notD rfl), hI.fix 4 (Reg.notD rfl), hI.fix 5 (Reg.notD rfl), hI.fix 6 (Reg.notD rfl), hI.fix 7 (Reg.notD rfl), hI.fix 8 (Reg.notD rfl), hI.fix 10 (Reg.notD rfl), hI.fix 11 (Reg.notD rfl), hI.fix 12 (Reg.notD rfl), hI.fix 13 (Reg.notD rfl), hI.fix 14 (Reg.notD rfl), hI.fix 15 (Reg.notD rfl), hI.fix 16 (Reg.notD rfl), hI.fix 17 (Reg.notD rfl), hI.fix 18 (Reg.notD rfl), hI.fix 19 (Reg.notD rfl), hI.fix 20 (Reg.notD rfl), hI.fix 21 (Reg.notD rfl), hI.fix 22 (Reg.notD rfl), hI.fix 23 (Reg.notD rfl), hI.fix 24 (Reg.notD rfl), hI.fix 25 (Reg.notD rfl), hI.fix 26 (Reg.notD rfl), hI.fix 27 (Reg.notD rfl), hI.fix 28 (Reg.notD rfl), hI.fix 29 (Reg.notD rfl), hI.fix 30 (Reg.notD rfl), hI.fix 31 (Reg.notD rfl), hI.fix 32 (Reg.notD rfl), hI.fix 33 (Reg.notD rfl), hI.fix 34 (Reg.notD rfl), hI.fix 35 (Reg.notD rfl), hI.fix 36 (Reg.notD rfl), hI.fix 37 (Reg.notD rfl), hI.fix 38 (Reg.notD rfl), hI.fix 53 (Reg.notD rfl)] at ea
                  have p9 := hI.pure 14 9 _ rfl (hall 14 (by decide))
                  have hbx := hI.world.1
                  rw [p9] at ea
                  clear hI hall p9
                  generalize a'.eval (.tmp 39) = u39 at ea
                  generalize a'.eval (.tmp 40) = u40 at ea
                  generalize a'.eval (.tmp 41) = u41 at ea
                  generalize a'.eval (.tmp 42) = u42 at ea
                  generalize a'.eval (.tmp 43) = u43 at ea
                  generalize a'.eval (.tmp 44) = u44 at ea
                  generalize a'.eval (.tmp 45) = u45 at ea
                  generalize a'.eval (.tmp 46) = u46 at ea
                  generalize a'.eval (.tmp 47) = u47 at ea
                  generalize a'.eval (.tmp 48) = u48 at ea
                  generalize a'.eval (.tmp 49) = u49 at ea
                  generalize a'.eval (.tmp 50) = u50 at ea
                  generalize a'.eval (.tmp 51) = u51 at ea
                  generalize a'.eval (.tmp 52) = u52 at ea
                  simp only [show ∀ (ts : Array Value) (ds) (i : Nat), (Act.mk ts ds).eval (.tmp i) = ts.getD i undef from fun _ _ _ => rfl] at ea
                  simp at ea
                  subst ea
                  go_wp2_with fail
                  go_roundw
                  case rel =>
                    refine ⟨q + 1, ev, by omega, by go_num, HB2'.out.trans (hbx.mono HB2'.out.size), rfl, ?_⟩
                    by_cases h0 : ev = 0
                    · exact .inl ⟨h0, fun j hj => by rcases Nat.lt_or_ge j q with l | l; exact HALL2.out j l; obtain rfl : j = q := (by omega); rw [HEV.out, h0]⟩
                    · exact .inr ⟨⟨k, q, hlt, hlq, HEV.out, h0, HALL.out, HALL2.out⟩, h0⟩
                  case measure => simp [intOf]; omega
            · have hqn : ¬ (q : Int) < (P.jn k : Int) := by omega
              go_wp2_with fail
              go_roundw
              case rel => exact ⟨k + 1, 0, by omega, by go_num, HB2'.out, rfl, .inl ⟨rfl, fun h hh j hj => by rcases Nat.lt_or_ge h k with l | l; exact HALL.out h l j hj; obtain rfl : h = k := (by omega); exact HALL2.out j (by omega)⟩⟩
              case measure => simp [intOf]; omega
          · have HFE := hide hfe2
            clear hfe2
            by_cases hlq : q < P.jn k
            · have hqn : (q : Int) < (P.jn k : Int) := by omega
              go_wp2_with fail
              go_roundw
              case rel => exact ⟨k + 1, er, by omega, by go_num, HB2'.out, rfl, .inr HFE.out⟩
              case measure => simp [intOf]; omega
            · have hqn : ¬ (q : Int) < (P.jn k : Int) := by omega
              go_wp2_with fail
              go_roundw
              case rel => exact ⟨k + 1, er, by omega, by go_num, HB2'.out, rfl, .inr HFE.out⟩
              case measure => simp [intOf]; omega
      · have hkn : ¬ (k : Int) < (P.nh : Int) := by omega
        go_wp2_with fail
        go_ret
        exact ⟨BW.out.trans (HB.out.mono (by omega)), .inl ⟨fun h hh j hj => HALL.out h (by omega) j hj, rfl⟩⟩
    · have hne : ¬ er = 0 := by obtain ⟨_, _, _, _, _, h, _⟩ := hfe; exact h
      have HFE := hide hfe
      clear hfe
      by_cases hlt : k < P.nh
      · have hkn : (k : Int) < (P.nh : Int) := by omega
        go_wp2_with fail
        go_ret
        exact ⟨BW.out.trans (HB.out.mono (by omega)), .inr ⟨er, HFE.out, rfl⟩⟩
      · have hkn : ¬ (k : Int) < (P.nh : Int) := by omega
        go_wp2_with fail
        go_ret
        exact ⟨BW.out.trans (HB.out.mono (by omega)), .inr ⟨er, HFE.out, rfl⟩⟩
set_option maxHeartbeats 4000000 in
theorem wrong_fits (er : Int) (her : er ≠ 0) (h : ∀ w' : World, Below w.heap.size w w' → Calls Try.prog 59 #[.slice aoh P.nh caph, .slice aos P.ns caps, .int .i64 most] w' fun e w'' => e = .returned (.int .i64 er) ∧ w'' = w') :
    Calls Try.prog 47 #[sh.val, .slice aoh P.nh caph, .slice aos P.ns caps, .int .i64 most] w fun e w' => Below w.heap.size w w' ∧ e = .returned (.int .i64 er) := by
  have her' : ¬ er = 0 := her
  have HH := hide (h _ ((Below.refl _ w).alloc (Nat.le_refl _) (.cells #[.int .i64 sh.a, .int .i64 sh.b, .int .i64 sh.c, .int .i64 sh.d, .int .i64 sh.e, .int .i64 sh.f] 23)))
  clear h her
  simp only [Shp.val]
  go_enter Try.func47, Try.ntmps47
  go_wp2_with (go_at_call 59; refine HH.out.mono ?_; rintro e w' ⟨rfl, hw⟩; obtain rfl := hw.symm)
  go_loopw [9, 10] (fun e i wr => ∃ k : Nat, k ≤ P.nh ∧ e = .int .i64 er ∧ i = .int .i64 k ∧ wr = w.alloc (.cells #[.int .i64 sh.a, .int .i64 sh.b, .int .i64 sh.c, .int .i64 sh.d, .int .i64 sh.e, .int .i64 sh.f] 23)) (fun _ _ _ => 0)
  case atStart => exact ⟨0, Nat.zero_le _, rfl, rfl, rfl⟩
  case round =>
    obtain ⟨k, hk, rfl, rfl, rfl⟩ := hrel
    by_cases hlt : k < P.nh
    · have hkn : (k : Int) < (P.nh : Int) := by omega
      go_wp2_with fail
      go_ret
      exact ⟨(Below.refl _ w).alloc (Nat.le_refl _) _, rfl⟩
    · have hkn : ¬ (k : Int) < (P.nh : Int) := by omega
      go_wp2_with fail
      go_ret
      exact ⟨(Below.refl _ w).alloc (Nat.le_refl _) _, rfl⟩
end L11
end Go.Proofs.Ytdflicgjkleonaa

/-
  The statement's own reference of tasks of several steps: ran, where it refuses.
-/
namespace Go.Proofs.Ytdflicgjkleonaa
namespace L11
open Go.RowKit
set_option linter.unusedVariables false
set_option linter.unusedSimpArgs false
set_option linter.unnecessarySimpa false
set_option maxRecDepth 20000

/-- What wrong tells, whatever it is given. -/
def WrongB (K : Kd) (w : World) (P : Par) (most : Int) (e : Ending) (w' : World) : Prop :=
  Below w.heap.size w w' ∧ ((Fine P most ∧ AllOk K P ∧ e = .returned (.int .i64 0)) ∨ ∃ er, ErrOf K P most er ∧ e = .returned (.int .i64 er))

variable {K : Kd} {rep : List Value → K.σ → Prop} {sh : Shp} {w : World} {ao aoh aos : Option Addr} {cap caph caps : Nat} {P : Par} {most : Int}

theorem wrong_all (RK : RKind K rep sh 20 22) (hjw : ∀ h, h < P.nh → ∀ j, j < P.jn h → (P.jb h j).wf) (hn : P.n ≤ 4096) (SH : SeesH w w.heap.size aoh P.nh P.jn P.jb) (hn63 : P.nh ≤ 9223372036854775807) :
    Calls Try.prog 47 #[sh.val, .slice aoh P.nh caph, .slice aos P.ns caps, .int .i64 most] w (WrongB K w P most) := by
  by_cases h2 : LongHands P.nh P.jn ∨ 65536 < P.ns ∨ 65536 < most
  · exact (wrong_fits 1 (by decide) (fun w' hb => fits_long (SH.below hb (Nat.le_refl _)) hn63 most h2)).mono fun e w' ⟨hb, he⟩ => ⟨hb, .inr ⟨1, .inr (.inl ⟨hn, h2, rfl⟩), he⟩⟩
  · have hl : ¬ LongHands P.nh P.jn := fun h => h2 (.inl h)
    have hs : P.ns ≤ 65536 := by rcases Nat.lt_or_ge 65536 P.ns with l | l; exact absurd (.inr (.inl l)) h2; exact l
    have hm : most ≤ 65536 := by rcases Int.lt_or_le 65536 most with l | l; exact absurd (.inr (.inr l)) h2; exact l
    by_cases h3 : most < 0
    · exact (wrong_fits 2 (by decide) (fun w' hb => fits_fine (SH.below hb (Nat.le_refl _)) hl hs most hm 2 (.inr ⟨h3, rfl⟩))).mono fun e w' ⟨hb, he⟩ => ⟨hb, .inr ⟨2, .inr (.inr (.inl ⟨hn, hl, hs, h3, rfl⟩)), he⟩⟩
    · have hF : Fine P most := ⟨hn, hl, hs, by omega, hm⟩
      refine (wrong_fine RK hjw SH hl hs (by omega) hm).mono fun e w' ⟨hb, hc⟩ => ⟨hb, ?_⟩
      rcases hc with ⟨hok, he⟩ | ⟨er, hfe, he⟩
      · exact .inl ⟨hF, hok, he⟩
      · exact .inr ⟨er, .inr (.inr (.inr ⟨hF, hfe⟩)), he⟩

set_option maxHeartbeats 4000000 in
theorem ran_err (RK : RKind K rep sh 20 22) (hjw : ∀ h, h < P.nh → ∀ j, j < P.jn h → (P.jb h j).wf) (hn : P.n ≤ 4096) (SH : SeesH w w.heap.size aoh P.nh P.jn P.jb) (hn63 : P.nh ≤ 9223372036854775807) {er : Int} (he : ErrOf K P most er) :
    Calls Try.prog 34 #[sh.val, .slice ao P.n cap, .slice aoh P.nh caph, .slice aos P.ns caps, .int .i64 most] w fun e w' => e = .returned (errVal er) ∧ Below w.heap.size w w' := by
  have her' : ¬ er = 0 := he.ne
  obtain ⟨W2, hW2⟩ : ∃ W2, (w.alloc (.cells #[.int .i64 sh.a, .int .i64 sh.b, .int .i64 sh.c, .int .i64 sh.d, .int .i64 sh.e, .int .i64 sh.f] 23)).alloc (.cells #[.slice none 0 0, .slice none 0 0, .bool false] 32) = W2 := ⟨_, rfl⟩
  have b2 : Below w.heap.size w W2 := by rw [← hW2]; exact ((Below.refl _ w).alloc (Nat.le_refl _) _).alloc (by simp) _
  have sz2 : W2.heap.size = w.heap.size + 2 := by rw [← hW2]; simp
  have R1 : W2.rowIs w.heap.size 23 6 (lrow [Value.int .i64 sh.a, .int .i64 sh.b, .int .i64 sh.c, .int .i64 sh.d, .int .i64 sh.e, .int .i64 sh.f]) := by rw [← hW2]; exact (rowL_alloc w [Value.int .i64 sh.a, .int .i64 sh.b, .int .i64 sh.c, .int .i64 sh.d, .int .i64 sh.e, .int .i64 sh.f] _ rfl).alloc _
  have R2 := hide (show W2.rowIs (w.heap.size + 1) 32 3 (lrow [.slice none 0 0, .slice none 0 0, .bool false]) from by rw [← hW2]; have := rowL_alloc (w.alloc (.cells #[.int .i64 sh.a, .int .i64 sh.b, .int .i64 sh.c, .int .i64 sh.d, .int .i64 sh.e, .int .i64 sh.f] 23)) [.slice none 0 0, .slice none 0 0, .bool false] 32 (n := 3) rfl; rwa [World.size_alloc] at this)
  have c0 : W2.cell? ⟨w.heap.size, 0, none⟩ = some (.int .i64 sh.a) := R1.cell (i := 0) (by omega)
  have c1 : W2.cell? ⟨w.heap.size, 1, none⟩ = some (.int .i64 sh.b) := R1.cell (i := 1) (by omega)
  have c2 : W2.cell? ⟨w.heap.size, 2, none⟩ = some (.int .i64 sh.c) := R1.cell (i := 2) (by omega)
  have c3 : W2.cell? ⟨w.heap.size, 3, none⟩ = some (.int .i64 sh.d) := R1.cell (i := 3) (by omega)
  have c4 : W2.cell? ⟨w.heap.size, 4, none⟩ = some (.int .i64 sh.e) := R1.cell (i := 4) (by omega)
  have c5 : W2.cell? ⟨w.heap.size, 5, none⟩ = some (.int .i64 sh.f) := R1.cell (i := 5) (by omega)
  have WR := hide (wrong_all RK hjw (caph := caph) (aos := aos) (caps := caps) (most := most) hn (w := W2) (fun i hi => by
    obtain ⟨b, off, ao', cap, e, hb, hc, hj⟩ := SH.below b2 (Nat.le_refl _) i hi
    exact ⟨b, off, ao', cap, e, by omega, hc, fun q hq => by obtain ⟨b', off', e', hb', hc'⟩ := hj q hq; exact ⟨b', off', e', by omega, hc'⟩⟩) hn63)
  have HE := hide he
  have BW := hide b2
  clear SH RK hjw R1 he b2
  simp only [Shp.val] at WR ⊢
  unfold errVal
  go_enter Try.func34, Try.ntmps34
  go_wp2_with (go_at_call 47; refine WR.out.mono ?_; rintro e w' ⟨hb, hc⟩; obtain rfl : e = .returned (.int .i64 er) := (by rcases hc with ⟨h1, h2, _⟩ | ⟨er', h, rfl⟩; exact absurd ⟨h1, h2⟩ HE.out.not; rw [h.one HE.out]); have HB := hide hb; have sz3 := hb.size; have rT := R2.out.of_block (hb.block _ (by omega)); have z0 : w'.cell? ⟨w.heap.size + 1, 0, none⟩ = some (.slice none 0 0) := rT.cell (i := 0) (by omega); have z1 : w'.cell? ⟨w.heap.size + 1, 1, none⟩ = some (.slice none 0 0) := rT.cell (i := 1) (by omega); have z2 : w'.cell? ⟨w.heap.size + 1, 2, none⟩ = some (.bool false) := rT.cell (i := 2) (by omega); have y0 := rT.frozen 0; have y1 := rT.frozen 1; have y2 := rT.frozen 2; clear hb hc rT)
  go_light
  refine bodyPost_ret (v := errVal er) ?_ rfl ⟨rfl, (((BW.out.trans (HB.out.mono (by omega))).setCell (by simp) _).setCell (by simp) _).setCell (by simp) _⟩
  simp [results, Try.results34, go_sem, errVal, *]
end L11
end Go.Proofs.Ytdflicgjkleonaa
