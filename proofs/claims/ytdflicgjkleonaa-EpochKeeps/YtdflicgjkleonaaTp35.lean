/-
  Lemmas: EpochRA.
-/
import Derived.Test.YtdflicgjkleonaaTp21
import Derived.Test.YtdflicgjkleonaaTp19
/-
  The epoch's reference: the loads and stores.
-/
namespace Go.Proofs.Ytdflicgjkleonaa
open Go.RowKit
set_option linter.unusedVariables false
set_option linter.unusedSimpArgs false
set_option linter.unnecessarySimpa false
set_option maxRecDepth 20000
namespace Epoch

theorem rwrap_u64 (x : Int) : IntKind.u64.wrap x = u64 x := by rw [IntKind.wrap_u64]; rfl

set_option maxHeartbeats 8000000 in
theorem rload {w : World} {g n cap : Nat} {f f' : Nat → Int} {x : Stp} {s0 s1 s2 s3 s4 s5 hand a b c hh r0 r1 r2 r3 r4 val : Int} {ok : Bool} (hr : IsRow w g n cap f) {kd st_ : Int}  (hx : stepOf n f ⟨hand, 1, 0, 0, 0, true⟩ = x) (hf' : wordsOf n f ⟨hand, 1, 0, 0, 0, true⟩ = f') :
    Calls Try.prog 40 #[.agg (tk ⟨s0, s1, s2, s3, s4, s5⟩ hand ⟨kd, a, b, c, hh⟩ st_ ⟨r0, r1, r2, r3, r4, 0, 0, 0⟩ ⟨ok, val⟩).toArray, .slice (some ⟨g, 0, none⟩) n cap] w fun e w' =>
      e = .returned (.tuple #[.agg (tk ⟨s0, s1, s2, s3, s4, s5⟩ hand ⟨kd, a, b, c, hh⟩ 2 ⟨x.had, r1, r2, r3, r4, 0, 0, 0⟩ ⟨ok, val⟩).toArray, x.val, .bool false]) ∧ IsRow w' g n cap f' ∧ w.grownBy w' (some g) := by
  have DO := hide (fun (w' : World) (hr' : IsRow w' g n cap f) => ref_do (s := ⟨hand, 1, 0, 0, 0, true⟩) hr' ⟨Int.le_refl 0, by show (0 : Int) ≤ 18446744073709551615; decide⟩ ⟨by show (1 : Int) ≤ 1; decide, by show (1 : Int) ≤ 5; decide⟩)
  have HX := hide hx
  have HF := hide hf'
  have lg := hr.lt
  obtain ⟨l0, hl0⟩ : ∃ l, tk ⟨s0, s1, s2, s3, s4, s5⟩ hand ⟨kd, a, b, c, hh⟩ st_ ⟨r0, r1, r2, r3, r4, 0, 0, 0⟩ ⟨ok, val⟩ = l := ⟨_, rfl⟩
  have hl0' : l0.length = 28 := by rw [← hl0]; rfl
  have hset : ((l0.set 13 (.int .u64 x.had)).set 12 (.int .i64 2)) = tk ⟨s0, s1, s2, s3, s4, s5⟩ hand ⟨kd, a, b, c, hh⟩ 2 ⟨x.had, r1, r2, r3, r4, 0, 0, 0⟩ ⟨ok, val⟩ := by rw [← hl0]; rfl
  obtain ⟨l1, hl1⟩ : ∃ l, tk ⟨s0, s1, s2, s3, s4, s5⟩ hand ⟨kd, a, b, c, hh⟩ 2 ⟨x.had, r1, r2, r3, r4, 0, 0, 0⟩ ⟨ok, val⟩ = l := ⟨_, rfl⟩
  rw [hl0, hl1]
  rw [hl1] at hset
  have hl1i := hide (show IsTk l1 from by rw [← hl1]; exact tk_is _ _ _ _ _ _)
  obtain ⟨W3, hW3⟩ : ∃ W3, ((w.alloc (.cells l0.toArray 64)).alloc (.cells tk0.toArray 64)).alloc (.cells [Value.int .i64 0, .int .i64 0, .int .i64 0, .int .u64 0, .int .u64 0, .bool false].toArray 71) = W3 := ⟨_, rfl⟩
  have sz3 : W3.heap.size = w.heap.size + 3 := by rw [← hW3]; simp
  have R0 : W3.rowIs w.heap.size 64 28 (lrow l0) := by rw [← hW3]; exact ((rowL_alloc w l0 _ hl0').alloc _).alloc _
  have R1 : W3.rowIs (w.heap.size + 1) 64 28 (lrow tk0) := by
    rw [← hW3]
    have := (rowL_alloc (w.alloc (.cells l0.toArray 64)) tk0 64 (n := 28) rfl).alloc (.cells [Value.int .i64 0, .int .i64 0, .int .i64 0, .int .u64 0, .int .u64 0, .bool false].toArray 71)
    rwa [World.size_alloc] at this
  have R2 : W3.rowIs (w.heap.size + 2) 71 6 (lrow [Value.int .i64 0, .int .i64 0, .int .i64 0, .int .u64 0, .int .u64 0, .bool false]) := by
    rw [← hW3]
    have := rowL_alloc ((w.alloc (.cells l0.toArray 64)).alloc (.cells tk0.toArray 64)) [Value.int .i64 0, .int .i64 0, .int .i64 0, .int .u64 0, .int .u64 0, .bool false] 71 (n := 6) rfl
    rwa [World.size_alloc, World.size_alloc] at this
  have G3 : w.grownBy W3 (some g) := by rw [← hW3]; exact grown_alloc (grown_alloc (grown_alloc (grown_refl _ _) _) _) _
  have HR3 := hide (show IsRow W3 g n cap f from hr.grown (grown_none (by rw [← hW3]; exact grown_alloc (grown_alloc (grown_alloc (grown_refl _ _) _) _) _) none) (by simp))
  have cell : ∀ i v, l0[i]? = some v → W3.cell? ⟨w.heap.size, i, none⟩ = some v := fun i v hv => by rw [R0.cell (i := i) (by have := (List.getElem?_eq_some_iff.1 hv).1; omega), lrow_of hv]
  have g6 : l0[6]? = some (.int .i64 hand) := by rw [← hl0]; rfl
  have g12 : l0[12]? = some (.int .i64 st_) := by rw [← hl0]; rfl
  have g13 : l0[13]? = some (.int .u64 r0) := by rw [← hl0]; rfl
  have c6 := cell 6 _ g6
  have c12 := cell 12 _ g12
  have c13 := cell 13 _ g13
  have G6 := hide g6
  have G12 := hide g12
  have G13 := hide g13
  obtain ⟨dT, hdT1, hdT2⟩ := row79
  obtain ⟨dS, hdS1, hdS2⟩ := row46
  have HD := hide (And.intro hdT1 (And.intro hdT2 (And.intro hdS1 hdS2)))
  have HR0 := hide R0
  have HR1 := hide R1
  have HR2 := hide R2
  have HG3 := hide G3
  have HSET := hide hset
  have HL0 := hide hl0'
  clear hx hf' hr R0 R1 R2 G3 cell hset hl0' hl0 hl1 hdT1 hdT2 hdS1 hdS2  g6 g12 g13
  simp only [tk0] at hW3
  go_enter Try.func40, Try.ntmps40
  go_wp2_with (first | (go_at_call 41; refine (DO.out _ HR3.out).mono ?_; rintro e w1 ⟨rfl, hr1, hg1⟩; rw [HX.out]; rw [HF.out] at hr1; simp only [Stp.val]; have sz1 := hg1.size; have HR4 := hide (HR0.out.of_block (hg1.block w.heap.size (by omega) (by simp; omega))); have HR5 := hide (HR1.out.of_block (hg1.block (w.heap.size + 1) (by omega) (by simp; omega))); have HR6 := hide (HR2.out.of_block (hg1.block (w.heap.size + 2) (by omega) (by simp; omega))); have HR1' := hide hr1; have HG1 := hide hg1; have e6 : w1.cell? ⟨w.heap.size, 6, none⟩ = some (.int .i64 hand) := (by rw [HR4.out.cell (i := 6) (by omega), lrow_of G6.out]); have f6 := HR4.out.frozen 6; have e12 : w1.cell? ⟨w.heap.size, 12, none⟩ = some (.int .i64 st_) := (by rw [HR4.out.cell (i := 12) (by omega), lrow_of G12.out]); have f12 := HR4.out.frozen 12; have e13 : w1.cell? ⟨w.heap.size, 13, none⟩ = some (.int .u64 r0) := (by rw [HR4.out.cell (i := 13) (by omega), lrow_of G13.out]); have f13 := HR4.out.frozen 13; have l1w : w.heap.size < w1.heap.size := (by omega); clear hr1 hg1 c6 c12 c13))
  obtain ⟨w2, hw2⟩ : ∃ w2, ((w1.setCell ⟨w.heap.size, 13, none⟩ (.int .u64 x.had)).setCell ⟨w.heap.size, 12, none⟩ (.int .i64 2)) = w2 := ⟨_, rfl⟩
  have sz2 : w2.heap.size = w1.heap.size := by rw [← hw2]; simp
  have tt2 : Touch w1 w2 (fun k => k = w.heap.size) := by rw [← hw2]; exact (Touch.setCell (S := fun k => k = w.heap.size) (Touch.setCell (S := fun k => k = w.heap.size) (Touch.refl w1 _) ⟨w.heap.size, 13, none⟩ (.inl rfl) _) ⟨w.heap.size, 12, none⟩ (.inl rfl) _)
  have rA : (w2.alloc (.cells [Value.int .i64 x.hand, .int .i64 x.act, .int .i64 x.at_, .int .u64 x.had, .int .u64 x.put, .bool x.ok].toArray 71)).rangeAt w.heap.size 0 l1 := by
    have := rowIs.range (rowIs.setL (rowIs.setL HR4.out (i := 13) (by simp [HL0.out]) (.int .u64 x.had)) (i := 12) (by simp [HL0.out]) (.int .i64 2)) (by simp [HL0.out])
    rw [HSET.out, hw2] at this
    exact World.rangeAt_alloc this _
  have rB : (w2.alloc (.cells [Value.int .i64 x.hand, .int .i64 x.act, .int .i64 x.at_, .int .u64 x.had, .int .u64 x.put, .bool x.ok].toArray 71)).rangeAt w1.heap.size 0 [Value.int .i64 x.hand, .int .i64 x.act, .int .i64 x.at_, .int .u64 x.had, .int .u64 x.put, .bool x.ok] := by
    have := rowIs.range (rowL_alloc w2 [Value.int .i64 x.hand, .int .i64 x.act, .int .i64 x.at_, .int .u64 x.had, .int .u64 x.put, .bool x.ok] 71 (n := 6) rfl) rfl
    rwa [sz2] at this
  have tC : (w2.alloc (.cells [Value.int .i64 x.hand, .int .i64 x.act, .int .i64 x.at_, .int .u64 x.had, .int .u64 x.put, .bool x.ok].toArray 71)).there (w.heap.size + 1) 0 28 := rowIs.there ((HR5.out.of_block (tt2.block _ (by omega) (by omega))).alloc _) (by omega)
  have tD : (w2.alloc (.cells [Value.int .i64 x.hand, .int .i64 x.act, .int .i64 x.at_, .int .u64 x.had, .int .u64 x.put, .bool x.ok].toArray 71)).there (w.heap.size + 2) 0 6 := rowIs.there ((HR6.out.of_block (tt2.block _ (by omega) (by omega))).alloc _) (by omega)
  have rW : IsRow (w2.alloc (.cells [Value.int .i64 x.hand, .int .i64 x.act, .int .i64 x.at_, .int .u64 x.had, .int .u64 x.put, .bool x.ok].toArray 71)) g n cap f' := (HR1'.out.block (tt2.block g (by omega) (by omega))).alloc _
  have TW : Touch w (w2.alloc (.cells [Value.int .i64 x.hand, .int .i64 x.act, .int .i64 x.at_, .int .u64 x.had, .int .u64 x.put, .bool x.ok].toArray 71)) (fun k => k = g) := (((Touch.of_grown HG3.out).mono (S' := fun k => k = g) (fun k _ h => by simpa using h)).trans' (Touch.of_grown HG1.out) (fun k _ h => by simpa using h)).trans' (tt2.alloc _) (fun k hk h => absurd hk (by omega))
  have szA : (w2.alloc (.cells [Value.int .i64 x.hand, .int .i64 x.act, .int .i64 x.at_, .int .u64 x.had, .int .u64 x.put, .bool x.ok].toArray 71)).heap.size = w1.heap.size + 1 := by simp [sz2]
  rw [hw2]
  have HTW := hide TW
  have HRW := hide rW
  clear TW rW hw2
  obtain ⟨WA, hWA⟩ : ∃ W, (w2.alloc (.cells [Value.int .i64 x.hand, .int .i64 x.act, .int .i64 x.at_, .int .u64 x.had, .int .u64 x.put, .bool x.ok].toArray 71)) = W := ⟨_, rfl⟩
  rw [hWA] at rA rB tC tD szA HTW HRW
  have goA : (w2.alloc (.cells #[Value.int .i64 x.hand, .int .i64 x.act, .int .i64 x.at_, .int .u64 x.had, .int .u64 x.put, .bool x.ok] 71)) = WA := hWA
  simp only [goA]
  clear goA hWA
  refine RetN.region (ks := [(0, 17), (1, 18), (4, 6)]) (vals := fun i => match i with
      | 0 => .agg l1.toArray
      | 1 => .agg #[Value.int .i64 x.hand, .int .i64 x.act, .int .i64 x.at_, .int .u64 x.had, .int .u64 x.put, .bool x.ok]
      | 4 => .bool false
      | _ => undef) (C := w.heap.size + 1) (E := w.heap.size + 2) (iC := 2) (iE := 3) (lt := l1) (ls := [Value.int .i64 x.hand, .int .i64 x.act, .int .i64 x.at_, .int .u64 x.had, .int .u64 x.put, .bool x.ok]) (by kernel_rfl) ?g ?b rfl (by omega) (by decide) ?dd hl1i.out.2 (by simp [Value.oneCell']) (by rw [hl1i.out.1]; exact tC) tD ?kinds ?fin
  case g =>
    intro i o ho
    have hi : i < 5 := by have := (Array.getElem?_eq_some_iff.1 ho).1; simpa using this
    match i, hi with
    | 0, _ | 1, _ | 2, _ | 3, _ | 4, _ => injection ho with ho; subst ho; rfl
  case b =>
    intro i o ho
    have hi : i < 5 := by have := (Array.getElem?_eq_some_iff.1 ho).1; simpa using this
    match i, hi with
    | 0, _ | 1, _ | 2, _ | 3, _ | 4, _ => injection ho with ho; subst ho; simp [Region.binds]
  case dd =>
    intro k hk
    have hk' : k < 19 := by
      simp [RetN.D] at hk
      omega
    simpa using hk'
  case kinds =>
    intro i o ho
    have hi : i < 5 := by have := (Array.getElem?_eq_some_iff.1 ho).1; simpa using this
    match i, hi with
    | 0, _ => injection ho with ho; subst ho; exact .inl ⟨17, _, rfl, rfl, fun L a w' hI hd => ex_load_row rfl (hI.fix 2 (Reg.notD rfl)) (rangeAt_block rA (hI.tch.block _ (by omega) (by omega))) HD.out.1 HD.out.2.1 (by rw [hl1i.out.1]; exact size79)⟩
    | 1, _ => injection ho with ho; subst ho; exact .inl ⟨18, _, rfl, rfl, fun L a w' hI hd => ex_load_row rfl (hI.fix 7 (Reg.notD rfl)) (rangeAt_block rB (hI.tch.block _ (by omega) (by omega))) HD.out.2.2.1 HD.out.2.2.2 size46⟩
    | 2, _ => injection ho with ho; subst ho; exact .inr (.inl ⟨rfl, rfl, _, _, _, rfl, (by rw [hl1i.out.1]; exact size79), fun L a w' hI hd => ⟨hI.fix 4 (Reg.notD rfl), (hI.pure 0 _ _ rfl (hd ⟨0, .data⟩ (by simp) rfl))⟩⟩)
    | 3, _ => injection ho with ho; subst ho; exact .inr (.inr ⟨rfl, rfl, _, _, _, rfl, size46, fun L a w' hI hd => ⟨hI.fix 5 (Reg.notD rfl), (hI.pure 1 _ _ rfl (hd ⟨1, .data⟩ (by simp) rfl))⟩⟩)
    | 4, _ => injection ho with ho; subst ho; exact .inl ⟨6, _, rfl, rfl, fun L a w' hI hd => ex_assign rfl rfl⟩
  case fin =>
    intro L a' w' hI hall
    rename_i K2 hK2
    refine hK2 _ _ ?_
    have rC := hI.sC (hall 2 (by decide))
    have rD := hI.sE (hall 3 (by decide))
    have pC : a'.eval (.tmp 4) = .pointer (some ⟨w.heap.size + 1, 0, none⟩) := hI.fix 4 (Reg.notD rfl)
    have pD : a'.eval (.tmp 5) = .pointer (some ⟨w.heap.size + 2, 0, none⟩) := hI.fix 5 (Reg.notD rfl)
    have pe : a'.eval (.tmp 6) = .bool false := hI.pure 4 6 _ rfl (hall 4 (by decide))
    have tch := hI.tch
    have hdf : a'.defers = [] := hI.df
    have hT := run_loadVar_mid (P := Try.prog) w' (w.heap.size + 1) 0 _ l1 dT rC HD.out.1 HD.out.2.1 (by rw [hl1i.out.1]; exact size79)
    have hS := run_loadVar_mid (P := Try.prog) w' (w.heap.size + 2) 0 _ _ dS rD HD.out.2.2.1 HD.out.2.2.2 size46
    have hres := results_cct (Q := Try.prog) (fn := Try.f40) (tmps := a'.tmps) (t := 4) (t' := 5) (t'' := 6) (W := w') (by rfl) pC hT pD hS
    rw [show a'.tmps.getD 6 undef = .bool false from pe] at hres
    go_wp2
    refine bodyPost_ret (v := .tuple #[.agg l1.toArray, x.val, .bool false]) hres hdf ⟨rfl, HRW.out.block (tch.block g HRW.out.lt (by omega)), ?_⟩
    have := HTW.out.trans' tch (fun k hk h => absurd hk (by omega))
    exact ⟨this.os, this.tape, this.output, this.size, fun k hk hn => this.block k hk (by simpa using hn)⟩

set_option maxHeartbeats 8000000 in
theorem re2 {w : World} {g n cap : Nat} {f f' : Nat → Int} {x : Stp} {s0 s1 s2 s3 s4 s5 hand a b c hh r0 r1 r2 r3 r4 val : Int} {ok : Bool} (hr : IsRow w g n cap f) (hh0 : 0 ≤ hand ∧ hand < 8) {e2 : Int} (he2 : u64 (r0 + 1) = e2)  (hx : stepOf n f ⟨hand, 2, 1 + hand, 0, e2, true⟩ = x) (hf' : wordsOf n f ⟨hand, 2, 1 + hand, 0, e2, true⟩ = f') :
    Calls Try.prog 22 #[.agg (tk ⟨s0, s1, s2, s3, s4, s5⟩ hand ⟨1, a, b, c, hh⟩ 2 ⟨r0, r1, r2, r3, r4, 0, 0, 0⟩ ⟨ok, val⟩).toArray, .slice (some ⟨g, 0, none⟩) n cap] w fun e w' =>
      e = .returned (.tuple #[.agg (tk ⟨s0, s1, s2, s3, s4, s5⟩ hand ⟨1, a, b, c, hh⟩ 2 ⟨r0, r1, r2, r3, r4, 0, 0, 0⟩ ⟨true, r0⟩).toArray, x.val, .bool true]) ∧ IsRow w' g n cap f' ∧ w.grownBy w' (some g) := by
  have DO := hide (fun (w' : World) (hr' : IsRow w' g n cap f) => ref_do (s := ⟨hand, 2, 1 + hand, 0, e2, true⟩) hr' (by rw [← he2]; exact ⟨u64_lo _, u64_hi _⟩) ⟨by show (1 : Int) ≤ 2; decide, by show (2 : Int) ≤ 5; decide⟩)
  have HX := hide hx
  have HF := hide hf'
  have lg := hr.lt
  obtain ⟨l0, hl0⟩ : ∃ l, tk ⟨s0, s1, s2, s3, s4, s5⟩ hand ⟨1, a, b, c, hh⟩ 2 ⟨r0, r1, r2, r3, r4, 0, 0, 0⟩ ⟨ok, val⟩ = l := ⟨_, rfl⟩
  have hl0' : l0.length = 28 := by rw [← hl0]; rfl
  have hset : ((l0.set 22 (.bool true)).set 23 (.int .u64 r0)) = tk ⟨s0, s1, s2, s3, s4, s5⟩ hand ⟨1, a, b, c, hh⟩ 2 ⟨r0, r1, r2, r3, r4, 0, 0, 0⟩ ⟨true, r0⟩ := by rw [← hl0]; rfl
  obtain ⟨l1, hl1⟩ : ∃ l, tk ⟨s0, s1, s2, s3, s4, s5⟩ hand ⟨1, a, b, c, hh⟩ 2 ⟨r0, r1, r2, r3, r4, 0, 0, 0⟩ ⟨true, r0⟩ = l := ⟨_, rfl⟩
  rw [hl0, hl1]
  rw [hl1] at hset
  have hl1i := hide (show IsTk l1 from by rw [← hl1]; exact tk_is _ _ _ _ _ _)
  obtain ⟨W3, hW3⟩ : ∃ W3, ((w.alloc (.cells l0.toArray 64)).alloc (.cells tk0.toArray 64)).alloc (.cells [Value.int .i64 0, .int .i64 0, .int .i64 0, .int .u64 0, .int .u64 0, .bool false].toArray 71) = W3 := ⟨_, rfl⟩
  have sz3 : W3.heap.size = w.heap.size + 3 := by rw [← hW3]; simp
  have R0 : W3.rowIs w.heap.size 64 28 (lrow l0) := by rw [← hW3]; exact ((rowL_alloc w l0 _ hl0').alloc _).alloc _
  have R1 : W3.rowIs (w.heap.size + 1) 64 28 (lrow tk0) := by
    rw [← hW3]
    have := (rowL_alloc (w.alloc (.cells l0.toArray 64)) tk0 64 (n := 28) rfl).alloc (.cells [Value.int .i64 0, .int .i64 0, .int .i64 0, .int .u64 0, .int .u64 0, .bool false].toArray 71)
    rwa [World.size_alloc] at this
  have R2 : W3.rowIs (w.heap.size + 2) 71 6 (lrow [Value.int .i64 0, .int .i64 0, .int .i64 0, .int .u64 0, .int .u64 0, .bool false]) := by
    rw [← hW3]
    have := rowL_alloc ((w.alloc (.cells l0.toArray 64)).alloc (.cells tk0.toArray 64)) [Value.int .i64 0, .int .i64 0, .int .i64 0, .int .u64 0, .int .u64 0, .bool false] 71 (n := 6) rfl
    rwa [World.size_alloc, World.size_alloc] at this
  have G3 : w.grownBy W3 (some g) := by rw [← hW3]; exact grown_alloc (grown_alloc (grown_alloc (grown_refl _ _) _) _) _
  have HR3 := hide (show IsRow W3 g n cap f from hr.grown (grown_none (by rw [← hW3]; exact grown_alloc (grown_alloc (grown_alloc (grown_refl _ _) _) _) _) none) (by simp))
  have cell : ∀ i v, l0[i]? = some v → W3.cell? ⟨w.heap.size, i, none⟩ = some v := fun i v hv => by rw [R0.cell (i := i) (by have := (List.getElem?_eq_some_iff.1 hv).1; omega), lrow_of hv]
  have g6 : l0[6]? = some (.int .i64 hand) := by rw [← hl0]; rfl
  have g7 : l0[7]? = some (.int .i64 1) := by rw [← hl0]; rfl
  have g12 : l0[12]? = some (.int .i64 2) := by rw [← hl0]; rfl
  have g13 : l0[13]? = some (.int .u64 r0) := by rw [← hl0]; rfl
  have g22 : l0[22]? = some (.bool ok) := by rw [← hl0]; rfl
  have g23 : l0[23]? = some (.int .u64 val) := by rw [← hl0]; rfl
  have c6 := cell 6 _ g6
  have c7 := cell 7 _ g7
  have c12 := cell 12 _ g12
  have c13 := cell 13 _ g13
  have c22 := cell 22 _ g22
  have c23 := cell 23 _ g23
  have G6 := hide g6
  have G7 := hide g7
  have G12 := hide g12
  have G13 := hide g13
  have G22 := hide g22
  have G23 := hide g23
  obtain ⟨dT, hdT1, hdT2⟩ := row79
  obtain ⟨dS, hdS1, hdS2⟩ := row46
  have HD := hide (And.intro hdT1 (And.intro hdT2 (And.intro hdS1 hdS2)))
  have HR0 := hide R0
  have HR1 := hide R1
  have HR2 := hide R2
  have HG3 := hide G3
  have HSET := hide hset
  have HL0 := hide hl0'
  have b8 : wrap64 (1 + hand) = 1 + hand := by unfold wrap64; omega
  have b7 : IntKind.u64.wrap (r0 + 1) = e2 := (rwrap_u64 _).trans he2
  clear hx hf' hr R0 R1 R2 G3 cell hset hl0' hl0 hl1 hdT1 hdT2 hdS1 hdS2 he2 hh0 g6 g7 g12 g13 g22 g23
  simp only [tk0] at hW3
  go_enter Try.func22, Try.ntmps22
  go_wp2_with (first | (go_at_call 41; refine (DO.out _ HR3.out).mono ?_; rintro e w1 ⟨rfl, hr1, hg1⟩; rw [HX.out]; rw [HF.out] at hr1; simp only [Stp.val]; have sz1 := hg1.size; have HR4 := hide (HR0.out.of_block (hg1.block w.heap.size (by omega) (by simp; omega))); have HR5 := hide (HR1.out.of_block (hg1.block (w.heap.size + 1) (by omega) (by simp; omega))); have HR6 := hide (HR2.out.of_block (hg1.block (w.heap.size + 2) (by omega) (by simp; omega))); have HR1' := hide hr1; have HG1 := hide hg1; have e6 : w1.cell? ⟨w.heap.size, 6, none⟩ = some (.int .i64 hand) := (by rw [HR4.out.cell (i := 6) (by omega), lrow_of G6.out]); have f6 := HR4.out.frozen 6; have e7 : w1.cell? ⟨w.heap.size, 7, none⟩ = some (.int .i64 1) := (by rw [HR4.out.cell (i := 7) (by omega), lrow_of G7.out]); have f7 := HR4.out.frozen 7; have e12 : w1.cell? ⟨w.heap.size, 12, none⟩ = some (.int .i64 2) := (by rw [HR4.out.cell (i := 12) (by omega), lrow_of G12.out]); have f12 := HR4.out.frozen 12; have e13 : w1.cell? ⟨w.heap.size, 13, none⟩ = some (.int .u64 r0) := (by rw [HR4.out.cell (i := 13) (by omega), lrow_of G13.out]); have f13 := HR4.out.frozen 13; have e22 : w1.cell? ⟨w.heap.size, 22, none⟩ = some (.bool ok) := (by rw [HR4.out.cell (i := 22) (by omega), lrow_of G22.out]); have f22 := HR4.out.frozen 22; have e23 : w1.cell? ⟨w.heap.size, 23, none⟩ = some (.int .u64 val) := (by rw [HR4.out.cell (i := 23) (by omega), lrow_of G23.out]); have f23 := HR4.out.frozen 23; have l1w : w.heap.size < w1.heap.size := (by omega); clear hr1 hg1 c6 c7 c12 c13 c22 c23))
  obtain ⟨w2, hw2⟩ : ∃ w2, ((w1.setCell ⟨w.heap.size, 22, none⟩ (.bool true)).setCell ⟨w.heap.size, 23, none⟩ (.int .u64 r0)) = w2 := ⟨_, rfl⟩
  have sz2 : w2.heap.size = w1.heap.size := by rw [← hw2]; simp
  have tt2 : Touch w1 w2 (fun k => k = w.heap.size) := by rw [← hw2]; exact (Touch.setCell (S := fun k => k = w.heap.size) (Touch.setCell (S := fun k => k = w.heap.size) (Touch.refl w1 _) ⟨w.heap.size, 22, none⟩ (.inl rfl) _) ⟨w.heap.size, 23, none⟩ (.inl rfl) _)
  have rA : (w2.alloc (.cells [Value.int .i64 x.hand, .int .i64 x.act, .int .i64 x.at_, .int .u64 x.had, .int .u64 x.put, .bool x.ok].toArray 71)).rangeAt w.heap.size 0 l1 := by
    have := rowIs.range (rowIs.setL (rowIs.setL HR4.out (i := 22) (by simp [HL0.out]) (.bool true)) (i := 23) (by simp [HL0.out]) (.int .u64 r0)) (by simp [HL0.out])
    rw [HSET.out, hw2] at this
    exact World.rangeAt_alloc this _
  have rB : (w2.alloc (.cells [Value.int .i64 x.hand, .int .i64 x.act, .int .i64 x.at_, .int .u64 x.had, .int .u64 x.put, .bool x.ok].toArray 71)).rangeAt w1.heap.size 0 [Value.int .i64 x.hand, .int .i64 x.act, .int .i64 x.at_, .int .u64 x.had, .int .u64 x.put, .bool x.ok] := by
    have := rowIs.range (rowL_alloc w2 [Value.int .i64 x.hand, .int .i64 x.act, .int .i64 x.at_, .int .u64 x.had, .int .u64 x.put, .bool x.ok] 71 (n := 6) rfl) rfl
    rwa [sz2] at this
  have tC : (w2.alloc (.cells [Value.int .i64 x.hand, .int .i64 x.act, .int .i64 x.at_, .int .u64 x.had, .int .u64 x.put, .bool x.ok].toArray 71)).there (w.heap.size + 1) 0 28 := rowIs.there ((HR5.out.of_block (tt2.block _ (by omega) (by omega))).alloc _) (by omega)
  have tD : (w2.alloc (.cells [Value.int .i64 x.hand, .int .i64 x.act, .int .i64 x.at_, .int .u64 x.had, .int .u64 x.put, .bool x.ok].toArray 71)).there (w.heap.size + 2) 0 6 := rowIs.there ((HR6.out.of_block (tt2.block _ (by omega) (by omega))).alloc _) (by omega)
  have rW : IsRow (w2.alloc (.cells [Value.int .i64 x.hand, .int .i64 x.act, .int .i64 x.at_, .int .u64 x.had, .int .u64 x.put, .bool x.ok].toArray 71)) g n cap f' := (HR1'.out.block (tt2.block g (by omega) (by omega))).alloc _
  have TW : Touch w (w2.alloc (.cells [Value.int .i64 x.hand, .int .i64 x.act, .int .i64 x.at_, .int .u64 x.had, .int .u64 x.put, .bool x.ok].toArray 71)) (fun k => k = g) := (((Touch.of_grown HG3.out).mono (S' := fun k => k = g) (fun k _ h => by simpa using h)).trans' (Touch.of_grown HG1.out) (fun k _ h => by simpa using h)).trans' (tt2.alloc _) (fun k hk h => absurd hk (by omega))
  have szA : (w2.alloc (.cells [Value.int .i64 x.hand, .int .i64 x.act, .int .i64 x.at_, .int .u64 x.had, .int .u64 x.put, .bool x.ok].toArray 71)).heap.size = w1.heap.size + 1 := by simp [sz2]
  rw [hw2]
  have HTW := hide TW
  have HRW := hide rW
  clear TW rW hw2
  obtain ⟨WA, hWA⟩ : ∃ W, (w2.alloc (.cells [Value.int .i64 x.hand, .int .i64 x.act, .int .i64 x.at_, .int .u64 x.had, .int .u64 x.put, .bool x.ok].toArray 71)) = W := ⟨_, rfl⟩
  rw [hWA] at rA rB tC tD szA HTW HRW
  have goA : (w2.alloc (.cells #[Value.int .i64 x.hand, .int .i64 x.act, .int .i64 x.at_, .int .u64 x.had, .int .u64 x.put, .bool x.ok] 71)) = WA := hWA
  simp only [goA]
  clear goA hWA
  refine RetN.region (ks := [(0, 40), (1, 41), (4, 6)]) (vals := fun i => match i with
      | 0 => .agg l1.toArray
      | 1 => .agg #[Value.int .i64 x.hand, .int .i64 x.act, .int .i64 x.at_, .int .u64 x.had, .int .u64 x.put, .bool x.ok]
      | 4 => .bool true
      | _ => undef) (C := w.heap.size + 1) (E := w.heap.size + 2) (iC := 2) (iE := 3) (lt := l1) (ls := [Value.int .i64 x.hand, .int .i64 x.act, .int .i64 x.at_, .int .u64 x.had, .int .u64 x.put, .bool x.ok]) (by kernel_rfl) ?g ?b rfl (by omega) (by decide) ?dd hl1i.out.2 (by simp [Value.oneCell']) (by rw [hl1i.out.1]; exact tC) tD ?kinds ?fin
  case g =>
    intro i o ho
    have hi : i < 5 := by have := (Array.getElem?_eq_some_iff.1 ho).1; simpa using this
    match i, hi with
    | 0, _ | 1, _ | 2, _ | 3, _ | 4, _ => injection ho with ho; subst ho; rfl
  case b =>
    intro i o ho
    have hi : i < 5 := by have := (Array.getElem?_eq_some_iff.1 ho).1; simpa using this
    match i, hi with
    | 0, _ | 1, _ | 2, _ | 3, _ | 4, _ => injection ho with ho; subst ho; simp [Region.binds]
  case dd =>
    intro k hk
    have hk' : k < 90 := by
      simp [RetN.D] at hk
      omega
    simpa using hk'
  case kinds =>
    intro i o ho
    have hi : i < 5 := by have := (Array.getElem?_eq_some_iff.1 ho).1; simpa using this
    match i, hi with
    | 0, _ => injection ho with ho; subst ho; exact .inl ⟨40, _, rfl, rfl, fun L a w' hI hd => ex_load_row rfl (hI.fix 2 (Reg.notD rfl)) (rangeAt_block rA (hI.tch.block _ (by omega) (by omega))) HD.out.1 HD.out.2.1 (by rw [hl1i.out.1]; exact size79)⟩
    | 1, _ => injection ho with ho; subst ho; exact .inl ⟨41, _, rfl, rfl, fun L a w' hI hd => ex_load_row rfl (hI.fix 7 (Reg.notD rfl)) (rangeAt_block rB (hI.tch.block _ (by omega) (by omega))) HD.out.2.2.1 HD.out.2.2.2 size46⟩
    | 2, _ => injection ho with ho; subst ho; exact .inr (.inl ⟨rfl, rfl, _, _, _, rfl, (by rw [hl1i.out.1]; exact size79), fun L a w' hI hd => ⟨hI.fix 4 (Reg.notD rfl), (hI.pure 0 _ _ rfl (hd ⟨0, .data⟩ (by simp) rfl))⟩⟩)
    | 3, _ => injection ho with ho; subst ho; exact .inr (.inr ⟨rfl, rfl, _, _, _, rfl, size46, fun L a w' hI hd => ⟨hI.fix 5 (Reg.notD rfl), (hI.pure 1 _ _ rfl (hd ⟨1, .data⟩ (by simp) rfl))⟩⟩)
    | 4, _ => injection ho with ho; subst ho; exact .inl ⟨6, _, rfl, rfl, fun L a w' hI hd => ex_assign rfl rfl⟩
  case fin =>
    intro L a' w' hI hall
    rename_i K2 hK2
    refine hK2 _ _ ?_
    have rC := hI.sC (hall 2 (by decide))
    have rD := hI.sE (hall 3 (by decide))
    have pC : a'.eval (.tmp 4) = .pointer (some ⟨w.heap.size + 1, 0, none⟩) := hI.fix 4 (Reg.notD rfl)
    have pD : a'.eval (.tmp 5) = .pointer (some ⟨w.heap.size + 2, 0, none⟩) := hI.fix 5 (Reg.notD rfl)
    have pe : a'.eval (.tmp 6) = .bool true := hI.pure 4 6 _ rfl (hall 4 (by decide))
    have tch := hI.tch
    have hdf : a'.defers = [] := hI.df
    have hT := run_loadVar_mid (P := Try.prog) w' (w.heap.size + 1) 0 _ l1 dT rC HD.out.1 HD.out.2.1 (by rw [hl1i.out.1]; exact size79)
    have hS := run_loadVar_mid (P := Try.prog) w' (w.heap.size + 2) 0 _ _ dS rD HD.out.2.2.1 HD.out.2.2.2 size46
    have hres := results_cct (Q := Try.prog) (fn := Try.f22) (tmps := a'.tmps) (t := 4) (t' := 5) (t'' := 6) (W := w') (by rfl) pC hT pD hS
    rw [show a'.tmps.getD 6 undef = .bool true from pe] at hres
    go_wp2
    refine bodyPost_ret (v := .tuple #[.agg l1.toArray, x.val, .bool true]) hres hdf ⟨rfl, HRW.out.block (tch.block g HRW.out.lt (by omega)), ?_⟩
    have := HTW.out.trans' tch (fun k hk h => absurd hk (by omega))
    exact ⟨this.os, this.tape, this.output, this.size, fun k hk hn => this.block k hk (by simpa using hn)⟩

set_option maxHeartbeats 8000000 in
theorem rl1 {w : World} {g n cap : Nat} {f f' : Nat → Int} {x : Stp} {s0 s1 s2 s3 s4 s5 hand a b c hh r0 r1 r2 r3 r4 val : Int} {ok : Bool} (hr : IsRow w g n cap f) {st_ : Int} (hh0 : 0 ≤ hand ∧ hand < 8)  (hx : stepOf n f ⟨hand, 2, 1 + hand, 0, 0, true⟩ = x) (hf' : wordsOf n f ⟨hand, 2, 1 + hand, 0, 0, true⟩ = f') :
    Calls Try.prog 22 #[.agg (tk ⟨s0, s1, s2, s3, s4, s5⟩ hand ⟨2, a, b, c, hh⟩ st_ ⟨r0, r1, r2, r3, r4, 0, 0, 0⟩ ⟨ok, val⟩).toArray, .slice (some ⟨g, 0, none⟩) n cap] w fun e w' =>
      e = .returned (.tuple #[.agg (tk ⟨s0, s1, s2, s3, s4, s5⟩ hand ⟨2, a, b, c, hh⟩ st_ ⟨r0, r1, r2, r3, r4, 0, 0, 0⟩ ⟨true, 0⟩).toArray, x.val, .bool true]) ∧ IsRow w' g n cap f' ∧ w.grownBy w' (some g) := by
  have DO := hide (fun (w' : World) (hr' : IsRow w' g n cap f) => ref_do (s := ⟨hand, 2, 1 + hand, 0, 0, true⟩) hr' ⟨Int.le_refl 0, by show (0 : Int) ≤ 18446744073709551615; decide⟩ ⟨by show (1 : Int) ≤ 2; decide, by show (2 : Int) ≤ 5; decide⟩)
  have HX := hide hx
  have HF := hide hf'
  have lg := hr.lt
  obtain ⟨l0, hl0⟩ : ∃ l, tk ⟨s0, s1, s2, s3, s4, s5⟩ hand ⟨2, a, b, c, hh⟩ st_ ⟨r0, r1, r2, r3, r4, 0, 0, 0⟩ ⟨ok, val⟩ = l := ⟨_, rfl⟩
  have hl0' : l0.length = 28 := by rw [← hl0]; rfl
  have hset : ((l0.set 22 (.bool true)).set 23 (.int .u64 0)) = tk ⟨s0, s1, s2, s3, s4, s5⟩ hand ⟨2, a, b, c, hh⟩ st_ ⟨r0, r1, r2, r3, r4, 0, 0, 0⟩ ⟨true, 0⟩ := by rw [← hl0]; rfl
  obtain ⟨l1, hl1⟩ : ∃ l, tk ⟨s0, s1, s2, s3, s4, s5⟩ hand ⟨2, a, b, c, hh⟩ st_ ⟨r0, r1, r2, r3, r4, 0, 0, 0⟩ ⟨true, 0⟩ = l := ⟨_, rfl⟩
  rw [hl0, hl1]
  rw [hl1] at hset
  have hl1i := hide (show IsTk l1 from by rw [← hl1]; exact tk_is _ _ _ _ _ _)
  obtain ⟨W3, hW3⟩ : ∃ W3, ((w.alloc (.cells l0.toArray 64)).alloc (.cells tk0.toArray 64)).alloc (.cells [Value.int .i64 0, .int .i64 0, .int .i64 0, .int .u64 0, .int .u64 0, .bool false].toArray 71) = W3 := ⟨_, rfl⟩
  have sz3 : W3.heap.size = w.heap.size + 3 := by rw [← hW3]; simp
  have R0 : W3.rowIs w.heap.size 64 28 (lrow l0) := by rw [← hW3]; exact ((rowL_alloc w l0 _ hl0').alloc _).alloc _
  have R1 : W3.rowIs (w.heap.size + 1) 64 28 (lrow tk0) := by
    rw [← hW3]
    have := (rowL_alloc (w.alloc (.cells l0.toArray 64)) tk0 64 (n := 28) rfl).alloc (.cells [Value.int .i64 0, .int .i64 0, .int .i64 0, .int .u64 0, .int .u64 0, .bool false].toArray 71)
    rwa [World.size_alloc] at this
  have R2 : W3.rowIs (w.heap.size + 2) 71 6 (lrow [Value.int .i64 0, .int .i64 0, .int .i64 0, .int .u64 0, .int .u64 0, .bool false]) := by
    rw [← hW3]
    have := rowL_alloc ((w.alloc (.cells l0.toArray 64)).alloc (.cells tk0.toArray 64)) [Value.int .i64 0, .int .i64 0, .int .i64 0, .int .u64 0, .int .u64 0, .bool false] 71 (n := 6) rfl
    rwa [World.size_alloc, World.size_alloc] at this
  have G3 : w.grownBy W3 (some g) := by rw [← hW3]; exact grown_alloc (grown_alloc (grown_alloc (grown_refl _ _) _) _) _
  have HR3 := hide (show IsRow W3 g n cap f from hr.grown (grown_none (by rw [← hW3]; exact grown_alloc (grown_alloc (grown_alloc (grown_refl _ _) _) _) _) none) (by simp))
  have cell : ∀ i v, l0[i]? = some v → W3.cell? ⟨w.heap.size, i, none⟩ = some v := fun i v hv => by rw [R0.cell (i := i) (by have := (List.getElem?_eq_some_iff.1 hv).1; omega), lrow_of hv]
  have g6 : l0[6]? = some (.int .i64 hand) := by rw [← hl0]; rfl
  have g7 : l0[7]? = some (.int .i64 2) := by rw [← hl0]; rfl
  have g22 : l0[22]? = some (.bool ok) := by rw [← hl0]; rfl
  have g23 : l0[23]? = some (.int .u64 val) := by rw [← hl0]; rfl
  have c6 := cell 6 _ g6
  have c7 := cell 7 _ g7
  have c22 := cell 22 _ g22
  have c23 := cell 23 _ g23
  have G6 := hide g6
  have G7 := hide g7
  have G22 := hide g22
  have G23 := hide g23
  obtain ⟨dT, hdT1, hdT2⟩ := row79
  obtain ⟨dS, hdS1, hdS2⟩ := row46
  have HD := hide (And.intro hdT1 (And.intro hdT2 (And.intro hdS1 hdS2)))
  have HR0 := hide R0
  have HR1 := hide R1
  have HR2 := hide R2
  have HG3 := hide G3
  have HSET := hide hset
  have HL0 := hide hl0'
  have b8 : wrap64 (1 + hand) = 1 + hand := by unfold wrap64; omega
  clear hx hf' hr R0 R1 R2 G3 cell hset hl0' hl0 hl1 hdT1 hdT2 hdS1 hdS2 hh0 g6 g7 g22 g23
  simp only [tk0] at hW3
  go_enter Try.func22, Try.ntmps22
  go_wp2_with (first | (go_at_call 41; refine (DO.out _ HR3.out).mono ?_; rintro e w1 ⟨rfl, hr1, hg1⟩; rw [HX.out]; rw [HF.out] at hr1; simp only [Stp.val]; have sz1 := hg1.size; have HR4 := hide (HR0.out.of_block (hg1.block w.heap.size (by omega) (by simp; omega))); have HR5 := hide (HR1.out.of_block (hg1.block (w.heap.size + 1) (by omega) (by simp; omega))); have HR6 := hide (HR2.out.of_block (hg1.block (w.heap.size + 2) (by omega) (by simp; omega))); have HR1' := hide hr1; have HG1 := hide hg1; have e6 : w1.cell? ⟨w.heap.size, 6, none⟩ = some (.int .i64 hand) := (by rw [HR4.out.cell (i := 6) (by omega), lrow_of G6.out]); have f6 := HR4.out.frozen 6; have e7 : w1.cell? ⟨w.heap.size, 7, none⟩ = some (.int .i64 2) := (by rw [HR4.out.cell (i := 7) (by omega), lrow_of G7.out]); have f7 := HR4.out.frozen 7; have e22 : w1.cell? ⟨w.heap.size, 22, none⟩ = some (.bool ok) := (by rw [HR4.out.cell (i := 22) (by omega), lrow_of G22.out]); have f22 := HR4.out.frozen 22; have e23 : w1.cell? ⟨w.heap.size, 23, none⟩ = some (.int .u64 val) := (by rw [HR4.out.cell (i := 23) (by omega), lrow_of G23.out]); have f23 := HR4.out.frozen 23; have l1w : w.heap.size < w1.heap.size := (by omega); clear hr1 hg1 c6 c7 c22 c23))
  obtain ⟨w2, hw2⟩ : ∃ w2, ((w1.setCell ⟨w.heap.size, 22, none⟩ (.bool true)).setCell ⟨w.heap.size, 23, none⟩ (.int .u64 0)) = w2 := ⟨_, rfl⟩
  have sz2 : w2.heap.size = w1.heap.size := by rw [← hw2]; simp
  have tt2 : Touch w1 w2 (fun k => k = w.heap.size) := by rw [← hw2]; exact (Touch.setCell (S := fun k => k = w.heap.size) (Touch.setCell (S := fun k => k = w.heap.size) (Touch.refl w1 _) ⟨w.heap.size, 22, none⟩ (.inl rfl) _) ⟨w.heap.size, 23, none⟩ (.inl rfl) _)
  have rA : (w2.alloc (.cells [Value.int .i64 x.hand, .int .i64 x.act, .int .i64 x.at_, .int .u64 x.had, .int .u64 x.put, .bool x.ok].toArray 71)).rangeAt w.heap.size 0 l1 := by
    have := rowIs.range (rowIs.setL (rowIs.setL HR4.out (i := 22) (by simp [HL0.out]) (.bool true)) (i := 23) (by simp [HL0.out]) (.int .u64 0)) (by simp [HL0.out])
    rw [HSET.out, hw2] at this
    exact World.rangeAt_alloc this _
  have rB : (w2.alloc (.cells [Value.int .i64 x.hand, .int .i64 x.act, .int .i64 x.at_, .int .u64 x.had, .int .u64 x.put, .bool x.ok].toArray 71)).rangeAt w1.heap.size 0 [Value.int .i64 x.hand, .int .i64 x.act, .int .i64 x.at_, .int .u64 x.had, .int .u64 x.put, .bool x.ok] := by
    have := rowIs.range (rowL_alloc w2 [Value.int .i64 x.hand, .int .i64 x.act, .int .i64 x.at_, .int .u64 x.had, .int .u64 x.put, .bool x.ok] 71 (n := 6) rfl) rfl
    rwa [sz2] at this
  have tC : (w2.alloc (.cells [Value.int .i64 x.hand, .int .i64 x.act, .int .i64 x.at_, .int .u64 x.had, .int .u64 x.put, .bool x.ok].toArray 71)).there (w.heap.size + 1) 0 28 := rowIs.there ((HR5.out.of_block (tt2.block _ (by omega) (by omega))).alloc _) (by omega)
  have tD : (w2.alloc (.cells [Value.int .i64 x.hand, .int .i64 x.act, .int .i64 x.at_, .int .u64 x.had, .int .u64 x.put, .bool x.ok].toArray 71)).there (w.heap.size + 2) 0 6 := rowIs.there ((HR6.out.of_block (tt2.block _ (by omega) (by omega))).alloc _) (by omega)
  have rW : IsRow (w2.alloc (.cells [Value.int .i64 x.hand, .int .i64 x.act, .int .i64 x.at_, .int .u64 x.had, .int .u64 x.put, .bool x.ok].toArray 71)) g n cap f' := (HR1'.out.block (tt2.block g (by omega) (by omega))).alloc _
  have TW : Touch w (w2.alloc (.cells [Value.int .i64 x.hand, .int .i64 x.act, .int .i64 x.at_, .int .u64 x.had, .int .u64 x.put, .bool x.ok].toArray 71)) (fun k => k = g) := (((Touch.of_grown HG3.out).mono (S' := fun k => k = g) (fun k _ h => by simpa using h)).trans' (Touch.of_grown HG1.out) (fun k _ h => by simpa using h)).trans' (tt2.alloc _) (fun k hk h => absurd hk (by omega))
  have szA : (w2.alloc (.cells [Value.int .i64 x.hand, .int .i64 x.act, .int .i64 x.at_, .int .u64 x.had, .int .u64 x.put, .bool x.ok].toArray 71)).heap.size = w1.heap.size + 1 := by simp [sz2]
  rw [hw2]
  have HTW := hide TW
  have HRW := hide rW
  clear TW rW hw2
  obtain ⟨WA, hWA⟩ : ∃ W, (w2.alloc (.cells [Value.int .i64 x.hand, .int .i64 x.act, .int .i64 x.at_, .int .u64 x.had, .int .u64 x.put, .bool x.ok].toArray 71)) = W := ⟨_, rfl⟩
  rw [hWA] at rA rB tC tD szA HTW HRW
  have goA : (w2.alloc (.cells #[Value.int .i64 x.hand, .int .i64 x.act, .int .i64 x.at_, .int .u64 x.had, .int .u64 x.put, .bool x.ok] 71)) = WA := hWA
  simp only [goA]
  clear goA hWA
  refine RetN.region (ks := [(0, 53), (1, 54), (4, 6)]) (vals := fun i => match i with
      | 0 => .agg l1.toArray
      | 1 => .agg #[Value.int .i64 x.hand, .int .i64 x.act, .int .i64 x.at_, .int .u64 x.had, .int .u64 x.put, .bool x.ok]
      | 4 => .bool true
      | _ => undef) (C := w.heap.size + 1) (E := w.heap.size + 2) (iC := 2) (iE := 3) (lt := l1) (ls := [Value.int .i64 x.hand, .int .i64 x.act, .int .i64 x.at_, .int .u64 x.had, .int .u64 x.put, .bool x.ok]) (by kernel_rfl) ?g ?b rfl (by omega) (by decide) ?dd hl1i.out.2 (by simp [Value.oneCell']) (by rw [hl1i.out.1]; exact tC) tD ?kinds ?fin
  case g =>
    intro i o ho
    have hi : i < 5 := by have := (Array.getElem?_eq_some_iff.1 ho).1; simpa using this
    match i, hi with
    | 0, _ | 1, _ | 2, _ | 3, _ | 4, _ => injection ho with ho; subst ho; rfl
  case b =>
    intro i o ho
    have hi : i < 5 := by have := (Array.getElem?_eq_some_iff.1 ho).1; simpa using this
    match i, hi with
    | 0, _ | 1, _ | 2, _ | 3, _ | 4, _ => injection ho with ho; subst ho; simp [Region.binds]
  case dd =>
    intro k hk
    have hk' : k < 90 := by
      simp [RetN.D] at hk
      omega
    simpa using hk'
  case kinds =>
    intro i o ho
    have hi : i < 5 := by have := (Array.getElem?_eq_some_iff.1 ho).1; simpa using this
    match i, hi with
    | 0, _ => injection ho with ho; subst ho; exact .inl ⟨53, _, rfl, rfl, fun L a w' hI hd => ex_load_row rfl (hI.fix 2 (Reg.notD rfl)) (rangeAt_block rA (hI.tch.block _ (by omega) (by omega))) HD.out.1 HD.out.2.1 (by rw [hl1i.out.1]; exact size79)⟩
    | 1, _ => injection ho with ho; subst ho; exact .inl ⟨54, _, rfl, rfl, fun L a w' hI hd => ex_load_row rfl (hI.fix 8 (Reg.notD rfl)) (rangeAt_block rB (hI.tch.block _ (by omega) (by omega))) HD.out.2.2.1 HD.out.2.2.2 size46⟩
    | 2, _ => injection ho with ho; subst ho; exact .inr (.inl ⟨rfl, rfl, _, _, _, rfl, (by rw [hl1i.out.1]; exact size79), fun L a w' hI hd => ⟨hI.fix 4 (Reg.notD rfl), (hI.pure 0 _ _ rfl (hd ⟨0, .data⟩ (by simp) rfl))⟩⟩)
    | 3, _ => injection ho with ho; subst ho; exact .inr (.inr ⟨rfl, rfl, _, _, _, rfl, size46, fun L a w' hI hd => ⟨hI.fix 5 (Reg.notD rfl), (hI.pure 1 _ _ rfl (hd ⟨1, .data⟩ (by simp) rfl))⟩⟩)
    | 4, _ => injection ho with ho; subst ho; exact .inl ⟨6, _, rfl, rfl, fun L a w' hI hd => ex_assign rfl rfl⟩
  case fin =>
    intro L a' w' hI hall
    rename_i K2 hK2
    refine hK2 _ _ ?_
    have rC := hI.sC (hall 2 (by decide))
    have rD := hI.sE (hall 3 (by decide))
    have pC : a'.eval (.tmp 4) = .pointer (some ⟨w.heap.size + 1, 0, none⟩) := hI.fix 4 (Reg.notD rfl)
    have pD : a'.eval (.tmp 5) = .pointer (some ⟨w.heap.size + 2, 0, none⟩) := hI.fix 5 (Reg.notD rfl)
    have pe : a'.eval (.tmp 6) = .bool true := hI.pure 4 6 _ rfl (hall 4 (by decide))
    have tch := hI.tch
    have hdf : a'.defers = [] := hI.df
    have hT := run_loadVar_mid (P := Try.prog) w' (w.heap.size + 1) 0 _ l1 dT rC HD.out.1 HD.out.2.1 (by rw [hl1i.out.1]; exact size79)
    have hS := run_loadVar_mid (P := Try.prog) w' (w.heap.size + 2) 0 _ _ dS rD HD.out.2.2.1 HD.out.2.2.2 size46
    have hres := results_cct (Q := Try.prog) (fn := Try.f22) (tmps := a'.tmps) (t := 4) (t' := 5) (t'' := 6) (W := w') (by rfl) pC hT pD hS
    rw [show a'.tmps.getD 6 undef = .bool true from pe] at hres
    go_wp2
    refine bodyPost_ret (v := .tuple #[.agg l1.toArray, x.val, .bool true]) hres hdf ⟨rfl, HRW.out.block (tch.block g HRW.out.lt (by omega)), ?_⟩
    have := HTW.out.trans' tch (fun k hk h => absurd hk (by omega))
    exact ⟨this.os, this.tape, this.output, this.size, fun k hk hn => this.block k hk (by simpa using hn)⟩

set_option maxHeartbeats 8000000 in
theorem rt2 {w : World} {g n cap : Nat} {f f' : Nat → Int} {x : Stp} {s0 s1 s2 s3 s4 s5 hand a b c hh r0 r1 r2 r3 r4 val : Int} {ok : Bool} (hr : IsRow w g n cap f) (ha0 : 0 ≤ a ∧ a < 64) {e2 : Int} (he2 : u64 (r0 + 1) = e2)  (hx : stepOf n f ⟨hand, 5, 9 + a, 0, e2, true⟩ = x) (hf' : wordsOf n f ⟨hand, 5, 9 + a, 0, e2, true⟩ = f') :
    Calls Try.prog 22 #[.agg (tk ⟨s0, s1, s2, s3, s4, s5⟩ hand ⟨3, a, b, c, hh⟩ 2 ⟨r0, r1, r2, r3, r4, 0, 0, 0⟩ ⟨ok, val⟩).toArray, .slice (some ⟨g, 0, none⟩) n cap] w fun e w' =>
      e = .returned (.tuple #[.agg (tk ⟨s0, s1, s2, s3, s4, s5⟩ hand ⟨3, a, b, c, hh⟩ 2 ⟨r0, r1, r2, r3, r4, 0, 0, 0⟩ ⟨x.ok, 0⟩).toArray, x.val, .bool true]) ∧ IsRow w' g n cap f' ∧ w.grownBy w' (some g) := by
  have DO := hide (fun (w' : World) (hr' : IsRow w' g n cap f) => ref_do (s := ⟨hand, 5, 9 + a, 0, e2, true⟩) hr' (by rw [← he2]; exact ⟨u64_lo _, u64_hi _⟩) ⟨by show (1 : Int) ≤ 5; decide, by show (5 : Int) ≤ 5; decide⟩)
  have HX := hide hx
  have HF := hide hf'
  have lg := hr.lt
  obtain ⟨l0, hl0⟩ : ∃ l, tk ⟨s0, s1, s2, s3, s4, s5⟩ hand ⟨3, a, b, c, hh⟩ 2 ⟨r0, r1, r2, r3, r4, 0, 0, 0⟩ ⟨ok, val⟩ = l := ⟨_, rfl⟩
  have hl0' : l0.length = 28 := by rw [← hl0]; rfl
  have hset : ((l0.set 22 (.bool x.ok)).set 23 (.int .u64 0)) = tk ⟨s0, s1, s2, s3, s4, s5⟩ hand ⟨3, a, b, c, hh⟩ 2 ⟨r0, r1, r2, r3, r4, 0, 0, 0⟩ ⟨x.ok, 0⟩ := by rw [← hl0]; rfl
  obtain ⟨l1, hl1⟩ : ∃ l, tk ⟨s0, s1, s2, s3, s4, s5⟩ hand ⟨3, a, b, c, hh⟩ 2 ⟨r0, r1, r2, r3, r4, 0, 0, 0⟩ ⟨x.ok, 0⟩ = l := ⟨_, rfl⟩
  rw [hl0, hl1]
  rw [hl1] at hset
  have hl1i := hide (show IsTk l1 from by rw [← hl1]; exact tk_is _ _ _ _ _ _)
  obtain ⟨W3, hW3⟩ : ∃ W3, ((w.alloc (.cells l0.toArray 64)).alloc (.cells tk0.toArray 64)).alloc (.cells [Value.int .i64 0, .int .i64 0, .int .i64 0, .int .u64 0, .int .u64 0, .bool false].toArray 71) = W3 := ⟨_, rfl⟩
  have sz3 : W3.heap.size = w.heap.size + 3 := by rw [← hW3]; simp
  have R0 : W3.rowIs w.heap.size 64 28 (lrow l0) := by rw [← hW3]; exact ((rowL_alloc w l0 _ hl0').alloc _).alloc _
  have R1 : W3.rowIs (w.heap.size + 1) 64 28 (lrow tk0) := by
    rw [← hW3]
    have := (rowL_alloc (w.alloc (.cells l0.toArray 64)) tk0 64 (n := 28) rfl).alloc (.cells [Value.int .i64 0, .int .i64 0, .int .i64 0, .int .u64 0, .int .u64 0, .bool false].toArray 71)
    rwa [World.size_alloc] at this
  have R2 : W3.rowIs (w.heap.size + 2) 71 6 (lrow [Value.int .i64 0, .int .i64 0, .int .i64 0, .int .u64 0, .int .u64 0, .bool false]) := by
    rw [← hW3]
    have := rowL_alloc ((w.alloc (.cells l0.toArray 64)).alloc (.cells tk0.toArray 64)) [Value.int .i64 0, .int .i64 0, .int .i64 0, .int .u64 0, .int .u64 0, .bool false] 71 (n := 6) rfl
    rwa [World.size_alloc, World.size_alloc] at this
  have G3 : w.grownBy W3 (some g) := by rw [← hW3]; exact grown_alloc (grown_alloc (grown_alloc (grown_refl _ _) _) _) _
  have HR3 := hide (show IsRow W3 g n cap f from hr.grown (grown_none (by rw [← hW3]; exact grown_alloc (grown_alloc (grown_alloc (grown_refl _ _) _) _) _) none) (by simp))
  have cell : ∀ i v, l0[i]? = some v → W3.cell? ⟨w.heap.size, i, none⟩ = some v := fun i v hv => by rw [R0.cell (i := i) (by have := (List.getElem?_eq_some_iff.1 hv).1; omega), lrow_of hv]
  have g6 : l0[6]? = some (.int .i64 hand) := by rw [← hl0]; rfl
  have g7 : l0[7]? = some (.int .i64 3) := by rw [← hl0]; rfl
  have g8 : l0[8]? = some (.int .i64 a) := by rw [← hl0]; rfl
  have g12 : l0[12]? = some (.int .i64 2) := by rw [← hl0]; rfl
  have g13 : l0[13]? = some (.int .u64 r0) := by rw [← hl0]; rfl
  have g22 : l0[22]? = some (.bool ok) := by rw [← hl0]; rfl
  have g23 : l0[23]? = some (.int .u64 val) := by rw [← hl0]; rfl
  have c6 := cell 6 _ g6
  have c7 := cell 7 _ g7
  have c8 := cell 8 _ g8
  have c12 := cell 12 _ g12
  have c13 := cell 13 _ g13
  have c22 := cell 22 _ g22
  have c23 := cell 23 _ g23
  have G6 := hide g6
  have G7 := hide g7
  have G8 := hide g8
  have G12 := hide g12
  have G13 := hide g13
  have G22 := hide g22
  have G23 := hide g23
  obtain ⟨dT, hdT1, hdT2⟩ := row79
  obtain ⟨dS, hdS1, hdS2⟩ := row46
  have HD := hide (And.intro hdT1 (And.intro hdT2 (And.intro hdS1 hdS2)))
  have HR0 := hide R0
  have HR1 := hide R1
  have HR2 := hide R2
  have HG3 := hide G3
  have HSET := hide hset
  have HL0 := hide hl0'
  have b8 : wrap64 (9 + a) = 9 + a := by unfold wrap64; omega
  have b7 : IntKind.u64.wrap (r0 + 1) = e2 := (rwrap_u64 _).trans he2
  clear hx hf' hr R0 R1 R2 G3 cell hset hl0' hl0 hl1 hdT1 hdT2 hdS1 hdS2 he2 ha0 g6 g7 g8 g12 g13 g22 g23
  simp only [tk0] at hW3
  go_enter Try.func22, Try.ntmps22
  go_wp2_with (first | (go_at_call 41; refine (DO.out _ HR3.out).mono ?_; rintro e w1 ⟨rfl, hr1, hg1⟩; rw [HX.out]; rw [HF.out] at hr1; simp only [Stp.val]; have sz1 := hg1.size; have HR4 := hide (HR0.out.of_block (hg1.block w.heap.size (by omega) (by simp; omega))); have HR5 := hide (HR1.out.of_block (hg1.block (w.heap.size + 1) (by omega) (by simp; omega))); have HR6 := hide (HR2.out.of_block (hg1.block (w.heap.size + 2) (by omega) (by simp; omega))); have HR1' := hide hr1; have HG1 := hide hg1; have e6 : w1.cell? ⟨w.heap.size, 6, none⟩ = some (.int .i64 hand) := (by rw [HR4.out.cell (i := 6) (by omega), lrow_of G6.out]); have f6 := HR4.out.frozen 6; have e7 : w1.cell? ⟨w.heap.size, 7, none⟩ = some (.int .i64 3) := (by rw [HR4.out.cell (i := 7) (by omega), lrow_of G7.out]); have f7 := HR4.out.frozen 7; have e8 : w1.cell? ⟨w.heap.size, 8, none⟩ = some (.int .i64 a) := (by rw [HR4.out.cell (i := 8) (by omega), lrow_of G8.out]); have f8 := HR4.out.frozen 8; have e12 : w1.cell? ⟨w.heap.size, 12, none⟩ = some (.int .i64 2) := (by rw [HR4.out.cell (i := 12) (by omega), lrow_of G12.out]); have f12 := HR4.out.frozen 12; have e13 : w1.cell? ⟨w.heap.size, 13, none⟩ = some (.int .u64 r0) := (by rw [HR4.out.cell (i := 13) (by omega), lrow_of G13.out]); have f13 := HR4.out.frozen 13; have e22 : w1.cell? ⟨w.heap.size, 22, none⟩ = some (.bool ok) := (by rw [HR4.out.cell (i := 22) (by omega), lrow_of G22.out]); have f22 := HR4.out.frozen 22; have e23 : w1.cell? ⟨w.heap.size, 23, none⟩ = some (.int .u64 val) := (by rw [HR4.out.cell (i := 23) (by omega), lrow_of G23.out]); have f23 := HR4.out.frozen 23; have l1w : w.heap.size < w1.heap.size := (by omega); clear hr1 hg1 c6 c7 c8 c12 c13 c22 c23))
  obtain ⟨w2, hw2⟩ : ∃ w2, ((w1.setCell ⟨w.heap.size, 22, none⟩ (.bool x.ok)).setCell ⟨w.heap.size, 23, none⟩ (.int .u64 0)) = w2 := ⟨_, rfl⟩
  have sz2 : w2.heap.size = w1.heap.size := by rw [← hw2]; simp
  have tt2 : Touch w1 w2 (fun k => k = w.heap.size) := by rw [← hw2]; exact (Touch.setCell (S := fun k => k = w.heap.size) (Touch.setCell (S := fun k => k = w.heap.size) (Touch.refl w1 _) ⟨w.heap.size, 22, none⟩ (.inl rfl) _) ⟨w.heap.size, 23, none⟩ (.inl rfl) _)
  have rA : (w2.alloc (.cells [Value.int .i64 x.hand, .int .i64 x.act, .int .i64 x.at_, .int .u64 x.had, .int .u64 x.put, .bool x.ok].toArray 71)).rangeAt w.heap.size 0 l1 := by
    have := rowIs.range (rowIs.setL (rowIs.setL HR4.out (i := 22) (by simp [HL0.out]) (.bool x.ok)) (i := 23) (by simp [HL0.out]) (.int .u64 0)) (by simp [HL0.out])
    rw [HSET.out, hw2] at this
    exact World.rangeAt_alloc this _
  have rB : (w2.alloc (.cells [Value.int .i64 x.hand, .int .i64 x.act, .int .i64 x.at_, .int .u64 x.had, .int .u64 x.put, .bool x.ok].toArray 71)).rangeAt w1.heap.size 0 [Value.int .i64 x.hand, .int .i64 x.act, .int .i64 x.at_, .int .u64 x.had, .int .u64 x.put, .bool x.ok] := by
    have := rowIs.range (rowL_alloc w2 [Value.int .i64 x.hand, .int .i64 x.act, .int .i64 x.at_, .int .u64 x.had, .int .u64 x.put, .bool x.ok] 71 (n := 6) rfl) rfl
    rwa [sz2] at this
  have tC : (w2.alloc (.cells [Value.int .i64 x.hand, .int .i64 x.act, .int .i64 x.at_, .int .u64 x.had, .int .u64 x.put, .bool x.ok].toArray 71)).there (w.heap.size + 1) 0 28 := rowIs.there ((HR5.out.of_block (tt2.block _ (by omega) (by omega))).alloc _) (by omega)
  have tD : (w2.alloc (.cells [Value.int .i64 x.hand, .int .i64 x.act, .int .i64 x.at_, .int .u64 x.had, .int .u64 x.put, .bool x.ok].toArray 71)).there (w.heap.size + 2) 0 6 := rowIs.there ((HR6.out.of_block (tt2.block _ (by omega) (by omega))).alloc _) (by omega)
  have rW : IsRow (w2.alloc (.cells [Value.int .i64 x.hand, .int .i64 x.act, .int .i64 x.at_, .int .u64 x.had, .int .u64 x.put, .bool x.ok].toArray 71)) g n cap f' := (HR1'.out.block (tt2.block g (by omega) (by omega))).alloc _
  have TW : Touch w (w2.alloc (.cells [Value.int .i64 x.hand, .int .i64 x.act, .int .i64 x.at_, .int .u64 x.had, .int .u64 x.put, .bool x.ok].toArray 71)) (fun k => k = g) := (((Touch.of_grown HG3.out).mono (S' := fun k => k = g) (fun k _ h => by simpa using h)).trans' (Touch.of_grown HG1.out) (fun k _ h => by simpa using h)).trans' (tt2.alloc _) (fun k hk h => absurd hk (by omega))
  have szA : (w2.alloc (.cells [Value.int .i64 x.hand, .int .i64 x.act, .int .i64 x.at_, .int .u64 x.had, .int .u64 x.put, .bool x.ok].toArray 71)).heap.size = w1.heap.size + 1 := by simp [sz2]
  rw [hw2]
  have HTW := hide TW
  have HRW := hide rW
  clear TW rW hw2
  obtain ⟨WA, hWA⟩ : ∃ W, (w2.alloc (.cells [Value.int .i64 x.hand, .int .i64 x.act, .int .i64 x.at_, .int .u64 x.had, .int .u64 x.put, .bool x.ok].toArray 71)) = W := ⟨_, rfl⟩
  rw [hWA] at rA rB tC tD szA HTW HRW
  have goA : (w2.alloc (.cells #[Value.int .i64 x.hand, .int .i64 x.act, .int .i64 x.at_, .int .u64 x.had, .int .u64 x.put, .bool x.ok] 71)) = WA := hWA
  simp only [goA]
  clear goA hWA
  refine RetN.region (ks := [(0, 82), (1, 83), (4, 6)]) (vals := fun i => match i with
      | 0 => .agg l1.toArray
      | 1 => .agg #[Value.int .i64 x.hand, .int .i64 x.act, .int .i64 x.at_, .int .u64 x.had, .int .u64 x.put, .bool x.ok]
      | 4 => .bool true
      | _ => undef) (C := w.heap.size + 1) (E := w.heap.size + 2) (iC := 2) (iE := 3) (lt := l1) (ls := [Value.int .i64 x.hand, .int .i64 x.act, .int .i64 x.at_, .int .u64 x.had, .int .u64 x.put, .bool x.ok]) (by kernel_rfl) ?g ?b rfl (by omega) (by decide) ?dd hl1i.out.2 (by simp [Value.oneCell']) (by rw [hl1i.out.1]; exact tC) tD ?kinds ?fin
  case g =>
    intro i o ho
    have hi : i < 5 := by have := (Array.getElem?_eq_some_iff.1 ho).1; simpa using this
    match i, hi with
    | 0, _ | 1, _ | 2, _ | 3, _ | 4, _ => injection ho with ho; subst ho; rfl
  case b =>
    intro i o ho
    have hi : i < 5 := by have := (Array.getElem?_eq_some_iff.1 ho).1; simpa using this
    match i, hi with
    | 0, _ | 1, _ | 2, _ | 3, _ | 4, _ => injection ho with ho; subst ho; simp [Region.binds]
  case dd =>
    intro k hk
    have hk' : k < 90 := by
      simp [RetN.D] at hk
      omega
    simpa using hk'
  case kinds =>
    intro i o ho
    have hi : i < 5 := by have := (Array.getElem?_eq_some_iff.1 ho).1; simpa using this
    match i, hi with
    | 0, _ => injection ho with ho; subst ho; exact .inl ⟨82, _, rfl, rfl, fun L a w' hI hd => ex_load_row rfl (hI.fix 2 (Reg.notD rfl)) (rangeAt_block rA (hI.tch.block _ (by omega) (by omega))) HD.out.1 HD.out.2.1 (by rw [hl1i.out.1]; exact size79)⟩
    | 1, _ => injection ho with ho; subst ho; exact .inl ⟨83, _, rfl, rfl, fun L a w' hI hd => ex_load_row rfl (hI.fix 9 (Reg.notD rfl)) (rangeAt_block rB (hI.tch.block _ (by omega) (by omega))) HD.out.2.2.1 HD.out.2.2.2 size46⟩
    | 2, _ => injection ho with ho; subst ho; exact .inr (.inl ⟨rfl, rfl, _, _, _, rfl, (by rw [hl1i.out.1]; exact size79), fun L a w' hI hd => ⟨hI.fix 4 (Reg.notD rfl), (hI.pure 0 _ _ rfl (hd ⟨0, .data⟩ (by simp) rfl))⟩⟩)
    | 3, _ => injection ho with ho; subst ho; exact .inr (.inr ⟨rfl, rfl, _, _, _, rfl, size46, fun L a w' hI hd => ⟨hI.fix 5 (Reg.notD rfl), (hI.pure 1 _ _ rfl (hd ⟨1, .data⟩ (by simp) rfl))⟩⟩)
    | 4, _ => injection ho with ho; subst ho; exact .inl ⟨6, _, rfl, rfl, fun L a w' hI hd => ex_assign rfl rfl⟩
  case fin =>
    intro L a' w' hI hall
    rename_i K2 hK2
    refine hK2 _ _ ?_
    have rC := hI.sC (hall 2 (by decide))
    have rD := hI.sE (hall 3 (by decide))
    have pC : a'.eval (.tmp 4) = .pointer (some ⟨w.heap.size + 1, 0, none⟩) := hI.fix 4 (Reg.notD rfl)
    have pD : a'.eval (.tmp 5) = .pointer (some ⟨w.heap.size + 2, 0, none⟩) := hI.fix 5 (Reg.notD rfl)
    have pe : a'.eval (.tmp 6) = .bool true := hI.pure 4 6 _ rfl (hall 4 (by decide))
    have tch := hI.tch
    have hdf : a'.defers = [] := hI.df
    have hT := run_loadVar_mid (P := Try.prog) w' (w.heap.size + 1) 0 _ l1 dT rC HD.out.1 HD.out.2.1 (by rw [hl1i.out.1]; exact size79)
    have hS := run_loadVar_mid (P := Try.prog) w' (w.heap.size + 2) 0 _ _ dS rD HD.out.2.2.1 HD.out.2.2.2 size46
    have hres := results_cct (Q := Try.prog) (fn := Try.f22) (tmps := a'.tmps) (t := 4) (t' := 5) (t'' := 6) (W := w') (by rfl) pC hT pD hS
    rw [show a'.tmps.getD 6 undef = .bool true from pe] at hres
    go_wp2
    refine bodyPost_ret (v := .tuple #[.agg l1.toArray, x.val, .bool true]) hres hdf ⟨rfl, HRW.out.block (tch.block g HRW.out.lt (by omega)), ?_⟩
    have := HTW.out.trans' tch (fun k hk h => absurd hk (by omega))
    exact ⟨this.os, this.tape, this.output, this.size, fun k hk hn => this.block k hk (by simpa using hn)⟩

end Epoch
end Go.Proofs.Ytdflicgjkleonaa
