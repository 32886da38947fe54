/-
  Lemmas: EpochRB.
-/
import Derived.Test.YtdflicgjkleonaaTp35
import Derived.Test.YtdflicgjkleonaaTp36
import Derived.Deep.CutBlock
/-
  The epoch's reference: a Reap.
-/
namespace Go.Proofs.Ytdflicgjkleonaa
open Go.RowKit
set_option linter.unusedVariables false
set_option linter.unusedSimpArgs false
set_option linter.unnecessarySimpa false
set_option maxRecDepth 20000
namespace Epoch

set_option maxHeartbeats 8000000 in
theorem rp2_bar {w : World} {g n cap : Nat} {f f' : Nat → Int} {x : Stp} {s0 s1 s2 s3 s4 s5 hand a b c hh r0 r1 r2 r3 r4 val : Int} {ok : Bool} (hr : IsRow w g n cap f) (hn : 0 ≤ r2 ∧ r2 ≤ 64) {e2 : Int} (he2 : u64 (r0 + 1) = e2) (a0 : ¬ x.had = 0) (a1 : ¬ x.had = e2)  (hx : stepOf n f ⟨hand, 1, 1 + r2, 0, 0, true⟩ = x) (hf' : wordsOf n f ⟨hand, 1, 1 + r2, 0, 0, true⟩ = f') :
    Calls Try.prog 42 #[.agg (tk ⟨s0, s1, s2, s3, s4, s5⟩ hand ⟨4, a, b, c, hh⟩ 2 ⟨r0, r1, r2, r3, r4, 0, 0, 0⟩ ⟨ok, val⟩).toArray, .slice (some ⟨g, 0, none⟩) n cap] w fun e w' =>
      e = .returned (.tuple #[.agg (tk ⟨s0, s1, s2, s3, s4, s5⟩ hand ⟨4, a, b, c, hh⟩ 4 ⟨r0, r1, (r2 + 1), r3, r4, 0, 0, 0⟩ ⟨ok, val⟩).toArray, x.val, .bool false]) ∧ IsRow w' g n cap f' ∧ w.grownBy w' (some g) := by
  have DO := hide (fun (w' : World) (hr' : IsRow w' g n cap f) => ref_do (s := ⟨hand, 1, 1 + r2, 0, 0, true⟩) hr' ⟨Int.le_refl 0, by show (0 : Int) ≤ 18446744073709551615; decide⟩ ⟨by show (1 : Int) ≤ 1; decide, by show (1 : Int) ≤ 5; decide⟩)
  have HX := hide hx
  have HF := hide hf'
  have lg := hr.lt
  obtain ⟨l0, hl0⟩ : ∃ l, tk ⟨s0, s1, s2, s3, s4, s5⟩ hand ⟨4, a, b, c, hh⟩ 2 ⟨r0, r1, r2, r3, r4, 0, 0, 0⟩ ⟨ok, val⟩ = l := ⟨_, rfl⟩
  have hl0' : l0.length = 28 := by rw [← hl0]; rfl
  have hl0i := hide (show IsTk l0 from by rw [← hl0]; exact tk_is _ _ _ _ _ _)
  have hset : ((l0.set 15 (.int .u64 (r2 + 1))).set 12 (.int .i64 4)) = tk ⟨s0, s1, s2, s3, s4, s5⟩ hand ⟨4, a, b, c, hh⟩ 4 ⟨r0, r1, (r2 + 1), r3, r4, 0, 0, 0⟩ ⟨ok, val⟩ := by rw [← hl0] <;> rfl
  obtain ⟨l1, hl1⟩ : ∃ l, tk ⟨s0, s1, s2, s3, s4, s5⟩ hand ⟨4, a, b, c, hh⟩ 4 ⟨r0, r1, (r2 + 1), r3, r4, 0, 0, 0⟩ ⟨ok, val⟩ = l := ⟨_, rfl⟩
  rw [hl0, hl1]
  rw [hl1] at hset
  have hl1i := hide (show IsTk l1 from by rw [← hl1]; exact tk_is _ _ _ _ _ _)
  obtain ⟨W3, hW3, sz3, R0, R1, R2, R3, G3, R4, cell⟩ := RPre.pre hr hl0'
  have HR3 := hide R4
  have g6 : l0[6]? = some (.int .i64 hand) := by rw [← hl0]; rfl
  have g12 : l0[12]? = some (.int .i64 2) := by rw [← hl0]; rfl
  have g13 : l0[13]? = some (.int .u64 r0) := by rw [← hl0]; rfl
  have g15 : l0[15]? = some (.int .u64 r2) := by rw [← hl0]; rfl
  have c6 := cell 6 _ g6
  have c12 := cell 12 _ g12
  have c13 := cell 13 _ g13
  have c15 := cell 15 _ g15
  have G6 := hide g6
  have G12 := hide g12
  have G13 := hide g13
  have G15 := hide g15
  obtain ⟨dT, hdT1, hdT2⟩ := row79
  obtain ⟨dS, hdS1, hdS2⟩ := row46
  have HD := hide (And.intro hdT1 (And.intro hdT2 (And.intro hdS1 hdS2)))
  have HR0 := hide R0
  have HR1 := hide R1
  have HR2 := hide R2
  have HRS := hide R3
  have HG3 := hide G3
  have HSET := hide hset
  have HL0 := hide hl0'
  have v2 : wrap64 2 = 2 := by unfold wrap64; omega
  have v3 : wrap64 3 = 3 := by unfold wrap64; omega
  have v4 : wrap64 4 = 4 := by unfold wrap64; omega
  have fc0 : (x.had != 0) = true := by simpa using a0
  have fc1 : (x.had != e2) = true := by simpa using a1
  have b6 : IntKind.u64.wrap (r2 + 1) = r2 + 1 := by rw [IntKind.wrap_u64]; omega
  have b9 : wrap64 r2 = r2 := by unfold wrap64; omega
  have b8 : IntKind.i64.wrap r2 = r2 := by rw [IntKind.wrap_i64]; omega
  have b10 : wrap64 (1 + r2) = 1 + r2 := by unfold wrap64; omega
  have b7 : IntKind.u64.wrap (r0 + 1) = e2 := (rwrap_u64 _).trans he2
  clear hx hf' hr R0 R1 R2 R3 R4 G3 cell hset hl0' hl0 hl1 hdT1 hdT2 hdS1 hdS2 he2 hn a0 a1  g6 g12 g13 g15
  simp only [tk0, RPre.ZL] at hW3
  go_enter Try.func42, Try.ntmps42
  go_wp2_with fail
  refine (DO.out _ HR3.out).mono ?_
  rintro e w1 ⟨rfl, hr1, hg1⟩
  rw [HX.out]
  rw [HF.out] at hr1
  simp only [Stp.val]
  have sz1 := hg1.size
  obtain ⟨V1, hV1, szV, q1', q2', q3', q4', q5', q6', ⟨⟨z0, zf0⟩, ⟨z1, zf1⟩, ⟨z2, zf2⟩, ⟨z3, zf3⟩, ⟨z4, zf4⟩, z5, zf5⟩, y0, y1, y2, y3, y4, y5⟩ := RPre.aft x HR0.out HR1.out HR2.out HRS.out HG3.out lg sz3 hr1 hg1
  try simp only at hV1 y0 y1 y2 y3 y4 y5
  have HRQ := hide (show V1.rangeAt (w.heap.size + 3) 0 [Value.int .i64 x.hand, .int .i64 x.act, .int .i64 x.at_, .int .u64 x.had, .int .u64 x.put, .bool x.ok] from q1')
  have HR4 := hide q2'
  have HR5 := hide q3'
  have HR6 := hide q4'
  have HR1' := hide q5'
  have HT1 := hide q6'
  have lV : w.heap.size + 3 < V1.heap.size := by omega
  have lV0 : w.heap.size < V1.heap.size := by omega
  have e6 : V1.cell? ⟨w.heap.size, 6, none⟩ = some (.int .i64 hand) := by rw [HR4.out.cell (i := 6) (by omega), lrow_of G6.out]
  have f6 := HR4.out.frozen 6
  have e12 : V1.cell? ⟨w.heap.size, 12, none⟩ = some (.int .i64 2) := by rw [HR4.out.cell (i := 12) (by omega), lrow_of G12.out]
  have f12 := HR4.out.frozen 12
  have e13 : V1.cell? ⟨w.heap.size, 13, none⟩ = some (.int .u64 r0) := by rw [HR4.out.cell (i := 13) (by omega), lrow_of G13.out]
  have f13 := HR4.out.frozen 13
  have e15 : V1.cell? ⟨w.heap.size, 15, none⟩ = some (.int .u64 r2) := by rw [HR4.out.cell (i := 15) (by omega), lrow_of G15.out]
  have f15 := HR4.out.frozen 15
  have l1w : w.heap.size + 3 < w1.heap.size := by omega
  clear hr1 hg1 q1' q2' q3' q4' q5' q6' hW3 c6 c12 c13 c15
  go_wp2_with fail
  clear hV1 z0 zf0 z1 zf1 z2 zf2 z3 zf3 z4 zf4 z5 zf5
  obtain ⟨WA, hWA⟩ : ∃ W, ((V1.setCell ⟨w.heap.size, 15, none⟩ (.int .u64 (r2 + 1))).setCell ⟨w.heap.size, 12, none⟩ (.int .i64 4)) = W := ⟨_, rfl⟩
  have tt0 : Touch V1 WA (fun k => k = w.heap.size) := by
    rw [← hWA]
    exact Touch.trans' (S' := fun k => k = w.heap.size) (⟨rfl, rfl, rfl, Nat.le_refl _, fun _ _ _ => rfl⟩ : Touch V1 V1 (fun k => k = w.heap.size)) (Touch.setCell (S := fun k => k = w.heap.size) (Touch.setCell (S := fun k => k = w.heap.size) (Touch.refl V1 _) ⟨w.heap.size, 15, none⟩ (.inl rfl) _) ⟨w.heap.size, 12, none⟩ (.inl rfl) _) (fun k _ h => h)
  have szA : WA.heap.size = V1.heap.size := by
    rw [← hWA] <;> first | (simp; done) | rfl | (simp; rfl)
  have rA : WA.rangeAt w.heap.size 0 l1 := by
    have := rowIs.range (rowIs.setL (rowIs.setL (show World.rowIs V1 w.heap.size 64 28 (lrow l0) from HR4.out) (i := 15) (by simp [HL0.out]) (.int .u64 (r2 + 1))) (i := 12) (by simp [HL0.out]) (.int .i64 4)) (by simp [HL0.out])
    rw [HSET.out, hWA] at this
    exact this
  have rB : WA.rangeAt (w.heap.size + 3) 0 [Value.int .i64 x.hand, .int .i64 x.act, .int .i64 x.at_, .int .u64 x.had, .int .u64 x.put, .bool x.ok] := rangeAt_block HRQ.out (tt0.block _ (by omega) (by omega))
  have tC : WA.there (w.heap.size + 1) 0 28 := rowIs.there (HR5.out.of_block (tt0.block _ (by omega) (by omega))) (by omega)
  have tD : WA.there (w.heap.size + 2) 0 6 := rowIs.there (HR6.out.of_block (tt0.block _ (by omega) (by omega))) (by omega)
  have rW : IsRow WA g n cap f' := HR1'.out.block (tt0.block g (by omega) (by omega))
  have TW : Touch w WA (fun k => k = g) := HT1.out.trans' tt0 (fun k hk h => absurd hk (by omega))
  first | rw [hWA] | skip
  have HTW := hide TW
  have HRW := hide rW
  clear TW rW hWA tt0
  refine RetN.region (ks := [(0, 146), (1, 147), (4, 6)]) (vals := fun i => match i with
      | 0 => .agg l1.toArray
      | 1 => .agg #[Value.int .i64 x.hand, .int .i64 x.act, .int .i64 x.at_, .int .u64 x.had, .int .u64 x.put, .bool x.ok]
      | 4 => .bool false
      | _ => undef) (C := w.heap.size + 1) (E := w.heap.size + 2) (iC := 2) (iE := 3) (lt := l1) (ls := [Value.int .i64 x.hand, .int .i64 x.act, .int .i64 x.at_, .int .u64 x.had, .int .u64 x.put, .bool x.ok]) (by kernel_rfl) ?g ?b rfl (by omega) (by decide) ?dd hl1i.out.2 (by simp [Value.oneCell']) (by rw [hl1i.out.1]; exact tC) tD ?kinds ?fin
  case g =>
    intro i o ho
    have hi : i < 5 := by have := (Array.getElem?_eq_some_iff.1 ho).1; simpa using this
    match i, hi with
    | 0, _ | 1, _ | 2, _ | 3, _ | 4, _ => injection ho with ho; subst ho; rfl
  case b =>
    intro i o ho
    have hi : i < 5 := by have := (Array.getElem?_eq_some_iff.1 ho).1; simpa using this
    match i, hi with
    | 0, _ | 1, _ | 2, _ | 3, _ | 4, _ => injection ho with ho; subst ho; simp [Region.binds]
  case dd =>
    intro k hk
    have hk' : k < 148 := by
      simp [RetN.D] at hk
      omega
    simpa using hk'
  case kinds =>
    intro i o ho
    have hi : i < 5 := by have := (Array.getElem?_eq_some_iff.1 ho).1; simpa using this
    match i, hi with
    | 0, _ => injection ho with ho; subst ho; exact .inl ⟨146, _, rfl, rfl, fun L a w' hI hd => ex_load_row rfl (hI.fix 2 (Reg.notD rfl)) (rangeAt_block rA (hI.tch.block _ (by omega) (by omega))) HD.out.1 HD.out.2.1 (by rw [hl1i.out.1]; exact size79)⟩
    | 1, _ => injection ho with ho; subst ho; exact .inl ⟨147, _, rfl, rfl, fun L a w' hI hd => ex_load_row rfl (hI.fix 7 (Reg.notD rfl)) (rangeAt_block rB (hI.tch.block _ (by omega) (by omega))) HD.out.2.2.1 HD.out.2.2.2 size46⟩
    | 2, _ => injection ho with ho; subst ho; exact .inr (.inl ⟨rfl, rfl, _, _, _, rfl, (by rw [hl1i.out.1]; exact size79), fun L a w' hI hd => ⟨hI.fix 4 (Reg.notD rfl), (hI.pure 0 _ _ rfl (hd ⟨0, .data⟩ (by simp) rfl))⟩⟩)
    | 3, _ => injection ho with ho; subst ho; exact .inr (.inr ⟨rfl, rfl, _, _, _, rfl, size46, fun L a w' hI hd => ⟨hI.fix 5 (Reg.notD rfl), (hI.pure 1 _ _ rfl (hd ⟨1, .data⟩ (by simp) rfl))⟩⟩)
    | 4, _ => injection ho with ho; subst ho; exact .inl ⟨6, _, rfl, rfl, fun L a w' hI hd => ex_assign rfl rfl⟩
  case fin =>
    intro L a' w' hI hall
    rename_i K2 hK2
    refine hK2 _ _ ?_
    have rC := hI.sC (hall 2 (by decide))
    have rD := hI.sE (hall 3 (by decide))
    have pC : a'.eval (.tmp 4) = .pointer (some ⟨w.heap.size + 1, 0, none⟩) := hI.fix 4 (Reg.notD rfl)
    have pD : a'.eval (.tmp 5) = .pointer (some ⟨w.heap.size + 2, 0, none⟩) := hI.fix 5 (Reg.notD rfl)
    have pe : a'.eval (.tmp 6) = .bool false := hI.pure 4 6 _ rfl (hall 4 (by decide))
    have tch := hI.tch
    have hdf : a'.defers = [] := hI.df
    have hT := run_loadVar_mid (P := Try.prog) w' (w.heap.size + 1) 0 _ l1 dT rC HD.out.1 HD.out.2.1 (by rw [hl1i.out.1]; exact size79)
    have hS := run_loadVar_mid (P := Try.prog) w' (w.heap.size + 2) 0 _ _ dS rD HD.out.2.2.1 HD.out.2.2.2 size46
    have hres := results_cct (Q := Try.prog) (fn := Try.f42) (tmps := a'.tmps) (t := 4) (t' := 5) (t'' := 6) (W := w') (by rfl) pC hT pD hS
    rw [show a'.tmps.getD 6 undef = .bool false from pe] at hres
    go_wp2
    refine bodyPost_ret (v := .tuple #[.agg l1.toArray, x.val, .bool false]) hres hdf ⟨rfl, HRW.out.block (tch.block g HRW.out.lt (by omega)), ?_⟩
    have := HTW.out.trans' tch (fun k hk h => absurd hk (by omega))
    exact ⟨this.os, this.tape, this.output, this.size, fun k hk hn => this.block k hk (by simpa using hn)⟩

set_option maxHeartbeats 8000000 in
theorem rp2_out_last {w : World} {g n cap : Nat} {f f' : Nat → Int} {x : Stp} {s0 s1 s2 s3 s4 s5 hand a b c hh r0 r1 r2 r3 r4 val : Int} {ok : Bool} (hr : IsRow w g n cap f) (hn : 0 ≤ r2 ∧ r2 ≤ 64) {e2 : Int} (he2 : u64 (r0 + 1) = e2) (a0 : x.had = 0) (a2 : r2 + 1 = 8)  (hx : stepOf n f ⟨hand, 1, 1 + r2, 0, 0, true⟩ = x) (hf' : wordsOf n f ⟨hand, 1, 1 + r2, 0, 0, true⟩ = f') :
    Calls Try.prog 42 #[.agg (tk ⟨s0, s1, s2, s3, s4, s5⟩ hand ⟨4, a, b, c, hh⟩ 2 ⟨r0, r1, r2, r3, r4, 0, 0, 0⟩ ⟨ok, val⟩).toArray, .slice (some ⟨g, 0, none⟩) n cap] w fun e w' =>
      e = .returned (.tuple #[.agg (tk ⟨s0, s1, s2, s3, s4, s5⟩ hand ⟨4, a, b, c, hh⟩ 3 ⟨r0, r1, (r2 + 1), r3, r4, 0, 0, 0⟩ ⟨ok, val⟩).toArray, x.val, .bool false]) ∧ IsRow w' g n cap f' ∧ w.grownBy w' (some g) := by
  have DO := hide (fun (w' : World) (hr' : IsRow w' g n cap f) => ref_do (s := ⟨hand, 1, 1 + r2, 0, 0, true⟩) hr' ⟨Int.le_refl 0, by show (0 : Int) ≤ 18446744073709551615; decide⟩ ⟨by show (1 : Int) ≤ 1; decide, by show (1 : Int) ≤ 5; decide⟩)
  have HX := hide hx
  have HF := hide hf'
  have lg := hr.lt
  obtain ⟨l0, hl0⟩ : ∃ l, tk ⟨s0, s1, s2, s3, s4, s5⟩ hand ⟨4, a, b, c, hh⟩ 2 ⟨r0, r1, r2, r3, r4, 0, 0, 0⟩ ⟨ok, val⟩ = l := ⟨_, rfl⟩
  have hl0' : l0.length = 28 := by rw [← hl0]; rfl
  have hl0i := hide (show IsTk l0 from by rw [← hl0]; exact tk_is _ _ _ _ _ _)
  have hset : ((l0.set 15 (.int .u64 (r2 + 1))).set 12 (.int .i64 3)) = tk ⟨s0, s1, s2, s3, s4, s5⟩ hand ⟨4, a, b, c, hh⟩ 3 ⟨r0, r1, (r2 + 1), r3, r4, 0, 0, 0⟩ ⟨ok, val⟩ := by rw [← hl0] <;> rfl
  obtain ⟨l1, hl1⟩ : ∃ l, tk ⟨s0, s1, s2, s3, s4, s5⟩ hand ⟨4, a, b, c, hh⟩ 3 ⟨r0, r1, (r2 + 1), r3, r4, 0, 0, 0⟩ ⟨ok, val⟩ = l := ⟨_, rfl⟩
  rw [hl0, hl1]
  rw [hl1] at hset
  have hl1i := hide (show IsTk l1 from by rw [← hl1]; exact tk_is _ _ _ _ _ _)
  obtain ⟨W3, hW3, sz3, R0, R1, R2, R3, G3, R4, cell⟩ := RPre.pre hr hl0'
  have HR3 := hide R4
  have g6 : l0[6]? = some (.int .i64 hand) := by rw [← hl0]; rfl
  have g12 : l0[12]? = some (.int .i64 2) := by rw [← hl0]; rfl
  have g13 : l0[13]? = some (.int .u64 r0) := by rw [← hl0]; rfl
  have g15 : l0[15]? = some (.int .u64 r2) := by rw [← hl0]; rfl
  have c6 := cell 6 _ g6
  have c12 := cell 12 _ g12
  have c13 := cell 13 _ g13
  have c15 := cell 15 _ g15
  have G6 := hide g6
  have G12 := hide g12
  have G13 := hide g13
  have G15 := hide g15
  obtain ⟨dT, hdT1, hdT2⟩ := row79
  obtain ⟨dS, hdS1, hdS2⟩ := row46
  have HD := hide (And.intro hdT1 (And.intro hdT2 (And.intro hdS1 hdS2)))
  have HR0 := hide R0
  have HR1 := hide R1
  have HR2 := hide R2
  have HRS := hide R3
  have HG3 := hide G3
  have HSET := hide hset
  have HL0 := hide hl0'
  have v2 : wrap64 2 = 2 := by unfold wrap64; omega
  have v3 : wrap64 3 = 3 := by unfold wrap64; omega
  have v4 : wrap64 4 = 4 := by unfold wrap64; omega
  have fc0 : (x.had != 0) = false := by simpa using a0
  have fc1 : (r2 + 1 == 8) = true := by simpa using a2
  have b6 : IntKind.u64.wrap (r2 + 1) = r2 + 1 := by rw [IntKind.wrap_u64]; omega
  have b9 : wrap64 r2 = r2 := by unfold wrap64; omega
  have b8 : IntKind.i64.wrap r2 = r2 := by rw [IntKind.wrap_i64]; omega
  have b10 : wrap64 (1 + r2) = 1 + r2 := by unfold wrap64; omega
  have b7 : IntKind.u64.wrap (r0 + 1) = e2 := (rwrap_u64 _).trans he2
  clear hx hf' hr R0 R1 R2 R3 R4 G3 cell hset hl0' hl0 hl1 hdT1 hdT2 hdS1 hdS2 he2 hn a0 a2 g6 g12 g13 g15
  simp only [tk0, RPre.ZL] at hW3
  go_enter Try.func42, Try.ntmps42
  go_wp2_with fail
  refine (DO.out _ HR3.out).mono ?_
  rintro e w1 ⟨rfl, hr1, hg1⟩
  rw [HX.out]
  rw [HF.out] at hr1
  simp only [Stp.val]
  have sz1 := hg1.size
  obtain ⟨V1, hV1, szV, q1', q2', q3', q4', q5', q6', ⟨⟨z0, zf0⟩, ⟨z1, zf1⟩, ⟨z2, zf2⟩, ⟨z3, zf3⟩, ⟨z4, zf4⟩, z5, zf5⟩, y0, y1, y2, y3, y4, y5⟩ := RPre.aft x HR0.out HR1.out HR2.out HRS.out HG3.out lg sz3 hr1 hg1
  try simp only at hV1 y0 y1 y2 y3 y4 y5
  have HRQ := hide (show V1.rangeAt (w.heap.size + 3) 0 [Value.int .i64 x.hand, .int .i64 x.act, .int .i64 x.at_, .int .u64 x.had, .int .u64 x.put, .bool x.ok] from q1')
  have HR4 := hide q2'
  have HR5 := hide q3'
  have HR6 := hide q4'
  have HR1' := hide q5'
  have HT1 := hide q6'
  have lV : w.heap.size + 3 < V1.heap.size := by omega
  have lV0 : w.heap.size < V1.heap.size := by omega
  have e6 : V1.cell? ⟨w.heap.size, 6, none⟩ = some (.int .i64 hand) := by rw [HR4.out.cell (i := 6) (by omega), lrow_of G6.out]
  have f6 := HR4.out.frozen 6
  have e12 : V1.cell? ⟨w.heap.size, 12, none⟩ = some (.int .i64 2) := by rw [HR4.out.cell (i := 12) (by omega), lrow_of G12.out]
  have f12 := HR4.out.frozen 12
  have e13 : V1.cell? ⟨w.heap.size, 13, none⟩ = some (.int .u64 r0) := by rw [HR4.out.cell (i := 13) (by omega), lrow_of G13.out]
  have f13 := HR4.out.frozen 13
  have e15 : V1.cell? ⟨w.heap.size, 15, none⟩ = some (.int .u64 r2) := by rw [HR4.out.cell (i := 15) (by omega), lrow_of G15.out]
  have f15 := HR4.out.frozen 15
  have l1w : w.heap.size + 3 < w1.heap.size := by omega
  clear hr1 hg1 q1' q2' q3' q4' q5' q6' hW3 c6 c12 c13 c15
  go_wp2_with fail
  clear hV1 z0 zf0 z1 zf1 z2 zf2 z3 zf3 z4 zf4 z5 zf5
  obtain ⟨WA, hWA⟩ : ∃ W, ((V1.setCell ⟨w.heap.size, 15, none⟩ (.int .u64 (r2 + 1))).setCell ⟨w.heap.size, 12, none⟩ (.int .i64 3)) = W := ⟨_, rfl⟩
  have tt0 : Touch V1 WA (fun k => k = w.heap.size) := by
    rw [← hWA]
    exact Touch.trans' (S' := fun k => k = w.heap.size) (⟨rfl, rfl, rfl, Nat.le_refl _, fun _ _ _ => rfl⟩ : Touch V1 V1 (fun k => k = w.heap.size)) (Touch.setCell (S := fun k => k = w.heap.size) (Touch.setCell (S := fun k => k = w.heap.size) (Touch.refl V1 _) ⟨w.heap.size, 15, none⟩ (.inl rfl) _) ⟨w.heap.size, 12, none⟩ (.inl rfl) _) (fun k _ h => h)
  have szA : WA.heap.size = V1.heap.size := by
    rw [← hWA] <;> first | (simp; done) | rfl | (simp; rfl)
  have rA : WA.rangeAt w.heap.size 0 l1 := by
    have := rowIs.range (rowIs.setL (rowIs.setL (show World.rowIs V1 w.heap.size 64 28 (lrow l0) from HR4.out) (i := 15) (by simp [HL0.out]) (.int .u64 (r2 + 1))) (i := 12) (by simp [HL0.out]) (.int .i64 3)) (by simp [HL0.out])
    rw [HSET.out, hWA] at this
    exact this
  have rB : WA.rangeAt (w.heap.size + 3) 0 [Value.int .i64 x.hand, .int .i64 x.act, .int .i64 x.at_, .int .u64 x.had, .int .u64 x.put, .bool x.ok] := rangeAt_block HRQ.out (tt0.block _ (by omega) (by omega))
  have tC : WA.there (w.heap.size + 1) 0 28 := rowIs.there (HR5.out.of_block (tt0.block _ (by omega) (by omega))) (by omega)
  have tD : WA.there (w.heap.size + 2) 0 6 := rowIs.there (HR6.out.of_block (tt0.block _ (by omega) (by omega))) (by omega)
  have rW : IsRow WA g n cap f' := HR1'.out.block (tt0.block g (by omega) (by omega))
  have TW : Touch w WA (fun k => k = g) := HT1.out.trans' tt0 (fun k hk h => absurd hk (by omega))
  first | rw [hWA] | skip
  have HTW := hide TW
  have HRW := hide rW
  clear TW rW hWA tt0
  refine RetN.region (ks := [(0, 146), (1, 147), (4, 6)]) (vals := fun i => match i with
      | 0 => .agg l1.toArray
      | 1 => .agg #[Value.int .i64 x.hand, .int .i64 x.act, .int .i64 x.at_, .int .u64 x.had, .int .u64 x.put, .bool x.ok]
      | 4 => .bool false
      | _ => undef) (C := w.heap.size + 1) (E := w.heap.size + 2) (iC := 2) (iE := 3) (lt := l1) (ls := [Value.int .i64 x.hand, .int .i64 x.act, .int .i64 x.at_, .int .u64 x.had, .int .u64 x.put, .bool x.ok]) (by kernel_rfl) ?g ?b rfl (by omega) (by decide) ?dd hl1i.out.2 (by simp [Value.oneCell']) (by rw [hl1i.out.1]; exact tC) tD ?kinds ?fin
  case g =>
    intro i o ho
    have hi : i < 5 := by have := (Array.getElem?_eq_some_iff.1 ho).1; simpa using this
    match i, hi with
    | 0, _ | 1, _ | 2, _ | 3, _ | 4, _ => injection ho with ho; subst ho; rfl
  case b =>
    intro i o ho
    have hi : i < 5 := by have := (Array.getElem?_eq_some_iff.1 ho).1; simpa using this
    match i, hi with
    | 0, _ | 1, _ | 2, _ | 3, _ | 4, _ => injection ho with ho; subst ho; simp [Region.binds]
  case dd =>
    intro k hk
    have hk' : k < 148 := by
      simp [RetN.D] at hk
      omega
    simpa using hk'
  case kinds =>
    intro i o ho
    have hi : i < 5 := by have := (Array.getElem?_eq_some_iff.1 ho).1; simpa using this
    match i, hi with
    | 0, _ => injection ho with ho; subst ho; exact .inl ⟨146, _, rfl, rfl, fun L a w' hI hd => ex_load_row rfl (hI.fix 2 (Reg.notD rfl)) (rangeAt_block rA (hI.tch.block _ (by omega) (by omega))) HD.out.1 HD.out.2.1 (by rw [hl1i.out.1]; exact size79)⟩
    | 1, _ => injection ho with ho; subst ho; exact .inl ⟨147, _, rfl, rfl, fun L a w' hI hd => ex_load_row rfl (hI.fix 7 (Reg.notD rfl)) (rangeAt_block rB (hI.tch.block _ (by omega) (by omega))) HD.out.2.2.1 HD.out.2.2.2 size46⟩
    | 2, _ => injection ho with ho; subst ho; exact .inr (.inl ⟨rfl, rfl, _, _, _, rfl, (by rw [hl1i.out.1]; exact size79), fun L a w' hI hd => ⟨hI.fix 4 (Reg.notD rfl), (hI.pure 0 _ _ rfl (hd ⟨0, .data⟩ (by simp) rfl))⟩⟩)
    | 3, _ => injection ho with ho; subst ho; exact .inr (.inr ⟨rfl, rfl, _, _, _, rfl, size46, fun L a w' hI hd => ⟨hI.fix 5 (Reg.notD rfl), (hI.pure 1 _ _ rfl (hd ⟨1, .data⟩ (by simp) rfl))⟩⟩)
    | 4, _ => injection ho with ho; subst ho; exact .inl ⟨6, _, rfl, rfl, fun L a w' hI hd => ex_assign rfl rfl⟩
  case fin =>
    intro L a' w' hI hall
    rename_i K2 hK2
    refine hK2 _ _ ?_
    have rC := hI.sC (hall 2 (by decide))
    have rD := hI.sE (hall 3 (by decide))
    have pC : a'.eval (.tmp 4) = .pointer (some ⟨w.heap.size + 1, 0, none⟩) := hI.fix 4 (Reg.notD rfl)
    have pD : a'.eval (.tmp 5) = .pointer (some ⟨w.heap.size + 2, 0, none⟩) := hI.fix 5 (Reg.notD rfl)
    have pe : a'.eval (.tmp 6) = .bool false := hI.pure 4 6 _ rfl (hall 4 (by decide))
    have tch := hI.tch
    have hdf : a'.defers = [] := hI.df
    have hT := run_loadVar_mid (P := Try.prog) w' (w.heap.size + 1) 0 _ l1 dT rC HD.out.1 HD.out.2.1 (by rw [hl1i.out.1]; exact size79)
    have hS := run_loadVar_mid (P := Try.prog) w' (w.heap.size + 2) 0 _ _ dS rD HD.out.2.2.1 HD.out.2.2.2 size46
    have hres := results_cct (Q := Try.prog) (fn := Try.f42) (tmps := a'.tmps) (t := 4) (t' := 5) (t'' := 6) (W := w') (by rfl) pC hT pD hS
    rw [show a'.tmps.getD 6 undef = .bool false from pe] at hres
    go_wp2
    refine bodyPost_ret (v := .tuple #[.agg l1.toArray, x.val, .bool false]) hres hdf ⟨rfl, HRW.out.block (tch.block g HRW.out.lt (by omega)), ?_⟩
    have := HTW.out.trans' tch (fun k hk h => absurd hk (by omega))
    exact ⟨this.os, this.tape, this.output, this.size, fun k hk hn => this.block k hk (by simpa using hn)⟩

set_option maxHeartbeats 8000000 in
theorem rp2_out_more {w : World} {g n cap : Nat} {f f' : Nat → Int} {x : Stp} {s0 s1 s2 s3 s4 s5 hand a b c hh r0 r1 r2 r3 r4 val : Int} {ok : Bool} (hr : IsRow w g n cap f) (hn : 0 ≤ r2 ∧ r2 ≤ 64) {e2 : Int} (he2 : u64 (r0 + 1) = e2) (a0 : x.had = 0) (a2 : ¬ r2 + 1 = 8)  (hx : stepOf n f ⟨hand, 1, 1 + r2, 0, 0, true⟩ = x) (hf' : wordsOf n f ⟨hand, 1, 1 + r2, 0, 0, true⟩ = f') :
    Calls Try.prog 42 #[.agg (tk ⟨s0, s1, s2, s3, s4, s5⟩ hand ⟨4, a, b, c, hh⟩ 2 ⟨r0, r1, r2, r3, r4, 0, 0, 0⟩ ⟨ok, val⟩).toArray, .slice (some ⟨g, 0, none⟩) n cap] w fun e w' =>
      e = .returned (.tuple #[.agg (tk ⟨s0, s1, s2, s3, s4, s5⟩ hand ⟨4, a, b, c, hh⟩ 2 ⟨r0, r1, (r2 + 1), r3, r4, 0, 0, 0⟩ ⟨ok, val⟩).toArray, x.val, .bool false]) ∧ IsRow w' g n cap f' ∧ w.grownBy w' (some g) := by
  have DO := hide (fun (w' : World) (hr' : IsRow w' g n cap f) => ref_do (s := ⟨hand, 1, 1 + r2, 0, 0, true⟩) hr' ⟨Int.le_refl 0, by show (0 : Int) ≤ 18446744073709551615; decide⟩ ⟨by show (1 : Int) ≤ 1; decide, by show (1 : Int) ≤ 5; decide⟩)
  have HX := hide hx
  have HF := hide hf'
  have lg := hr.lt
  obtain ⟨l0, hl0⟩ : ∃ l, tk ⟨s0, s1, s2, s3, s4, s5⟩ hand ⟨4, a, b, c, hh⟩ 2 ⟨r0, r1, r2, r3, r4, 0, 0, 0⟩ ⟨ok, val⟩ = l := ⟨_, rfl⟩
  have hl0' : l0.length = 28 := by rw [← hl0]; rfl
  have hl0i := hide (show IsTk l0 from by rw [← hl0]; exact tk_is _ _ _ _ _ _)
  have hset : (l0.set 15 (.int .u64 (r2 + 1))) = tk ⟨s0, s1, s2, s3, s4, s5⟩ hand ⟨4, a, b, c, hh⟩ 2 ⟨r0, r1, (r2 + 1), r3, r4, 0, 0, 0⟩ ⟨ok, val⟩ := by rw [← hl0] <;> rfl
  obtain ⟨l1, hl1⟩ : ∃ l, tk ⟨s0, s1, s2, s3, s4, s5⟩ hand ⟨4, a, b, c, hh⟩ 2 ⟨r0, r1, (r2 + 1), r3, r4, 0, 0, 0⟩ ⟨ok, val⟩ = l := ⟨_, rfl⟩
  rw [hl0, hl1]
  rw [hl1] at hset
  have hl1i := hide (show IsTk l1 from by rw [← hl1]; exact tk_is _ _ _ _ _ _)
  obtain ⟨W3, hW3, sz3, R0, R1, R2, R3, G3, R4, cell⟩ := RPre.pre hr hl0'
  have HR3 := hide R4
  have g6 : l0[6]? = some (.int .i64 hand) := by rw [← hl0]; rfl
  have g12 : l0[12]? = some (.int .i64 2) := by rw [← hl0]; rfl
  have g13 : l0[13]? = some (.int .u64 r0) := by rw [← hl0]; rfl
  have g15 : l0[15]? = some (.int .u64 r2) := by rw [← hl0]; rfl
  have c6 := cell 6 _ g6
  have c12 := cell 12 _ g12
  have c13 := cell 13 _ g13
  have c15 := cell 15 _ g15
  have G6 := hide g6
  have G12 := hide g12
  have G13 := hide g13
  have G15 := hide g15
  obtain ⟨dT, hdT1, hdT2⟩ := row79
  obtain ⟨dS, hdS1, hdS2⟩ := row46
  have HD := hide (And.intro hdT1 (And.intro hdT2 (And.intro hdS1 hdS2)))
  have HR0 := hide R0
  have HR1 := hide R1
  have HR2 := hide R2
  have HRS := hide R3
  have HG3 := hide G3
  have HSET := hide hset
  have HL0 := hide hl0'
  have v2 : wrap64 2 = 2 := by unfold wrap64; omega
  have v3 : wrap64 3 = 3 := by unfold wrap64; omega
  have v4 : wrap64 4 = 4 := by unfold wrap64; omega
  have fc0 : (x.had != 0) = false := by simpa using a0
  have fc1 : (r2 + 1 == 8) = false := by simpa using a2
  have b6 : IntKind.u64.wrap (r2 + 1) = r2 + 1 := by rw [IntKind.wrap_u64]; omega
  have b9 : wrap64 r2 = r2 := by unfold wrap64; omega
  have b8 : IntKind.i64.wrap r2 = r2 := by rw [IntKind.wrap_i64]; omega
  have b10 : wrap64 (1 + r2) = 1 + r2 := by unfold wrap64; omega
  have b7 : IntKind.u64.wrap (r0 + 1) = e2 := (rwrap_u64 _).trans he2
  clear hx hf' hr R0 R1 R2 R3 R4 G3 cell hset hl0' hl0 hl1 hdT1 hdT2 hdS1 hdS2 he2 hn a0 a2 g6 g12 g13 g15
  simp only [tk0, RPre.ZL] at hW3
  go_enter Try.func42, Try.ntmps42
  go_wp2_with fail
  refine (DO.out _ HR3.out).mono ?_
  rintro e w1 ⟨rfl, hr1, hg1⟩
  rw [HX.out]
  rw [HF.out] at hr1
  simp only [Stp.val]
  have sz1 := hg1.size
  obtain ⟨V1, hV1, szV, q1', q2', q3', q4', q5', q6', ⟨⟨z0, zf0⟩, ⟨z1, zf1⟩, ⟨z2, zf2⟩, ⟨z3, zf3⟩, ⟨z4, zf4⟩, z5, zf5⟩, y0, y1, y2, y3, y4, y5⟩ := RPre.aft x HR0.out HR1.out HR2.out HRS.out HG3.out lg sz3 hr1 hg1
  try simp only at hV1 y0 y1 y2 y3 y4 y5
  have HRQ := hide (show V1.rangeAt (w.heap.size + 3) 0 [Value.int .i64 x.hand, .int .i64 x.act, .int .i64 x.at_, .int .u64 x.had, .int .u64 x.put, .bool x.ok] from q1')
  have HR4 := hide q2'
  have HR5 := hide q3'
  have HR6 := hide q4'
  have HR1' := hide q5'
  have HT1 := hide q6'
  have lV : w.heap.size + 3 < V1.heap.size := by omega
  have lV0 : w.heap.size < V1.heap.size := by omega
  have e6 : V1.cell? ⟨w.heap.size, 6, none⟩ = some (.int .i64 hand) := by rw [HR4.out.cell (i := 6) (by omega), lrow_of G6.out]
  have f6 := HR4.out.frozen 6
  have e12 : V1.cell? ⟨w.heap.size, 12, none⟩ = some (.int .i64 2) := by rw [HR4.out.cell (i := 12) (by omega), lrow_of G12.out]
  have f12 := HR4.out.frozen 12
  have e13 : V1.cell? ⟨w.heap.size, 13, none⟩ = some (.int .u64 r0) := by rw [HR4.out.cell (i := 13) (by omega), lrow_of G13.out]
  have f13 := HR4.out.frozen 13
  have e15 : V1.cell? ⟨w.heap.size, 15, none⟩ = some (.int .u64 r2) := by rw [HR4.out.cell (i := 15) (by omega), lrow_of G15.out]
  have f15 := HR4.out.frozen 15
  have l1w : w.heap.size + 3 < w1.heap.size := by omega
  clear hr1 hg1 q1' q2' q3' q4' q5' q6' hW3 c6 c12 c13 c15
  go_wp2_with fail
  clear hV1 z0 zf0 z1 zf1 z2 zf2 z3 zf3 z4 zf4 z5 zf5
  obtain ⟨WA, hWA⟩ : ∃ W, (V1.setCell ⟨w.heap.size, 15, none⟩ (.int .u64 (r2 + 1))) = W := ⟨_, rfl⟩
  have tt0 : Touch V1 WA (fun k => k = w.heap.size) := by
    rw [← hWA]
    exact Touch.trans' (S' := fun k => k = w.heap.size) (⟨rfl, rfl, rfl, Nat.le_refl _, fun _ _ _ => rfl⟩ : Touch V1 V1 (fun k => k = w.heap.size)) (Touch.setCell (S := fun k => k = w.heap.size) (Touch.refl V1 _) ⟨w.heap.size, 15, none⟩ (.inl rfl) _) (fun k _ h => h)
  have szA : WA.heap.size = V1.heap.size := by
    rw [← hWA] <;> first | (simp; done) | rfl | (simp; rfl)
  have rA : WA.rangeAt w.heap.size 0 l1 := by
    have := rowIs.range (rowIs.setL (show World.rowIs V1 w.heap.size 64 28 (lrow l0) from HR4.out) (i := 15) (by simp [HL0.out]) (.int .u64 (r2 + 1))) (by simp [HL0.out])
    rw [HSET.out, hWA] at this
    exact this
  have rB : WA.rangeAt (w.heap.size + 3) 0 [Value.int .i64 x.hand, .int .i64 x.act, .int .i64 x.at_, .int .u64 x.had, .int .u64 x.put, .bool x.ok] := rangeAt_block HRQ.out (tt0.block _ (by omega) (by omega))
  have tC : WA.there (w.heap.size + 1) 0 28 := rowIs.there (HR5.out.of_block (tt0.block _ (by omega) (by omega))) (by omega)
  have tD : WA.there (w.heap.size + 2) 0 6 := rowIs.there (HR6.out.of_block (tt0.block _ (by omega) (by omega))) (by omega)
  have rW : IsRow WA g n cap f' := HR1'.out.block (tt0.block g (by omega) (by omega))
  have TW : Touch w WA (fun k => k = g) := HT1.out.trans' tt0 (fun k hk h => absurd hk (by omega))
  first | rw [hWA] | skip
  have HTW := hide TW
  have HRW := hide rW
  clear TW rW hWA tt0
  refine RetN.region (ks := [(0, 146), (1, 147), (4, 6)]) (vals := fun i => match i with
      | 0 => .agg l1.toArray
      | 1 => .agg #[Value.int .i64 x.hand, .int .i64 x.act, .int .i64 x.at_, .int .u64 x.had, .int .u64 x.put, .bool x.ok]
      | 4 => .bool false
      | _ => undef) (C := w.heap.size + 1) (E := w.heap.size + 2) (iC := 2) (iE := 3) (lt := l1) (ls := [Value.int .i64 x.hand, .int .i64 x.act, .int .i64 x.at_, .int .u64 x.had, .int .u64 x.put, .bool x.ok]) (by kernel_rfl) ?g ?b rfl (by omega) (by decide) ?dd hl1i.out.2 (by simp [Value.oneCell']) (by rw [hl1i.out.1]; exact tC) tD ?kinds ?fin
  case g =>
    intro i o ho
    have hi : i < 5 := by have := (Array.getElem?_eq_some_iff.1 ho).1; simpa using this
    match i, hi with
    | 0, _ | 1, _ | 2, _ | 3, _ | 4, _ => injection ho with ho; subst ho; rfl
  case b =>
    intro i o ho
    have hi : i < 5 := by have := (Array.getElem?_eq_some_iff.1 ho).1; simpa using this
    match i, hi with
    | 0, _ | 1, _ | 2, _ | 3, _ | 4, _ => injection ho with ho; subst ho; simp [Region.binds]
  case dd =>
    intro k hk
    have hk' : k < 148 := by
      simp [RetN.D] at hk
      omega
    simpa using hk'
  case kinds =>
    intro i o ho
    have hi : i < 5 := by have := (Array.getElem?_eq_some_iff.1 ho).1; simpa using this
    match i, hi with
    | 0, _ => injection ho with ho; subst ho; exact .inl ⟨146, _, rfl, rfl, fun L a w' hI hd => ex_load_row rfl (hI.fix 2 (Reg.notD rfl)) (rangeAt_block rA (hI.tch.block _ (by omega) (by omega))) HD.out.1 HD.out.2.1 (by rw [hl1i.out.1]; exact size79)⟩
    | 1, _ => injection ho with ho; subst ho; exact .inl ⟨147, _, rfl, rfl, fun L a w' hI hd => ex_load_row rfl (hI.fix 7 (Reg.notD rfl)) (rangeAt_block rB (hI.tch.block _ (by omega) (by omega))) HD.out.2.2.1 HD.out.2.2.2 size46⟩
    | 2, _ => injection ho with ho; subst ho; exact .inr (.inl ⟨rfl, rfl, _, _, _, rfl, (by rw [hl1i.out.1]; exact size79), fun L a w' hI hd => ⟨hI.fix 4 (Reg.notD rfl), (hI.pure 0 _ _ rfl (hd ⟨0, .data⟩ (by simp) rfl))⟩⟩)
    | 3, _ => injection ho with ho; subst ho; exact .inr (.inr ⟨rfl, rfl, _, _, _, rfl, size46, fun L a w' hI hd => ⟨hI.fix 5 (Reg.notD rfl), (hI.pure 1 _ _ rfl (hd ⟨1, .data⟩ (by simp) rfl))⟩⟩)
    | 4, _ => injection ho with ho; subst ho; exact .inl ⟨6, _, rfl, rfl, fun L a w' hI hd => ex_assign rfl rfl⟩
  case fin =>
    intro L a' w' hI hall
    rename_i K2 hK2
    refine hK2 _ _ ?_
    have rC := hI.sC (hall 2 (by decide))
    have rD := hI.sE (hall 3 (by decide))
    have pC : a'.eval (.tmp 4) = .pointer (some ⟨w.heap.size + 1, 0, none⟩) := hI.fix 4 (Reg.notD rfl)
    have pD : a'.eval (.tmp 5) = .pointer (some ⟨w.heap.size + 2, 0, none⟩) := hI.fix 5 (Reg.notD rfl)
    have pe : a'.eval (.tmp 6) = .bool false := hI.pure 4 6 _ rfl (hall 4 (by decide))
    have tch := hI.tch
    have hdf : a'.defers = [] := hI.df
    have hT := run_loadVar_mid (P := Try.prog) w' (w.heap.size + 1) 0 _ l1 dT rC HD.out.1 HD.out.2.1 (by rw [hl1i.out.1]; exact size79)
    have hS := run_loadVar_mid (P := Try.prog) w' (w.heap.size + 2) 0 _ _ dS rD HD.out.2.2.1 HD.out.2.2.2 size46
    have hres := results_cct (Q := Try.prog) (fn := Try.f42) (tmps := a'.tmps) (t := 4) (t' := 5) (t'' := 6) (W := w') (by rfl) pC hT pD hS
    rw [show a'.tmps.getD 6 undef = .bool false from pe] at hres
    go_wp2
    refine bodyPost_ret (v := .tuple #[.agg l1.toArray, x.val, .bool false]) hres hdf ⟨rfl, HRW.out.block (tch.block g HRW.out.lt (by omega)), ?_⟩
    have := HTW.out.trans' tch (fun k hk h => absurd hk (by omega))
    exact ⟨this.os, this.tape, this.output, this.size, fun k hk hn => this.block k hk (by simpa using hn)⟩

set_option maxHeartbeats 8000000 in
theorem rp2_in_last {w : World} {g n cap : Nat} {f f' : Nat → Int} {x : Stp} {s0 s1 s2 s3 s4 s5 hand a b c hh r0 r1 r2 r3 r4 val : Int} {ok : Bool} (hr : IsRow w g n cap f) (hn : 0 ≤ r2 ∧ r2 ≤ 64) {e2 : Int} (he2 : u64 (r0 + 1) = e2) (a0 : ¬ x.had = 0) (a1 : x.had = e2) (a2 : r2 + 1 = 8)  (hx : stepOf n f ⟨hand, 1, 1 + r2, 0, 0, true⟩ = x) (hf' : wordsOf n f ⟨hand, 1, 1 + r2, 0, 0, true⟩ = f') :
    Calls Try.prog 42 #[.agg (tk ⟨s0, s1, s2, s3, s4, s5⟩ hand ⟨4, a, b, c, hh⟩ 2 ⟨r0, r1, r2, r3, r4, 0, 0, 0⟩ ⟨ok, val⟩).toArray, .slice (some ⟨g, 0, none⟩) n cap] w fun e w' =>
      e = .returned (.tuple #[.agg (tk ⟨s0, s1, s2, s3, s4, s5⟩ hand ⟨4, a, b, c, hh⟩ 3 ⟨r0, r1, (r2 + 1), r3, r4, 0, 0, 0⟩ ⟨ok, val⟩).toArray, x.val, .bool false]) ∧ IsRow w' g n cap f' ∧ w.grownBy w' (some g) := by
  have DO := hide (fun (w' : World) (hr' : IsRow w' g n cap f) => ref_do (s := ⟨hand, 1, 1 + r2, 0, 0, true⟩) hr' ⟨Int.le_refl 0, by show (0 : Int) ≤ 18446744073709551615; decide⟩ ⟨by show (1 : Int) ≤ 1; decide, by show (1 : Int) ≤ 5; decide⟩)
  have HX := hide hx
  have HF := hide hf'
  have lg := hr.lt
  obtain ⟨l0, hl0⟩ : ∃ l, tk ⟨s0, s1, s2, s3, s4, s5⟩ hand ⟨4, a, b, c, hh⟩ 2 ⟨r0, r1, r2, r3, r4, 0, 0, 0⟩ ⟨ok, val⟩ = l := ⟨_, rfl⟩
  have hl0' : l0.length = 28 := by rw [← hl0]; rfl
  have hl0i := hide (show IsTk l0 from by rw [← hl0]; exact tk_is _ _ _ _ _ _)
  have hset : ((l0.set 15 (.int .u64 (r2 + 1))).set 12 (.int .i64 3)) = tk ⟨s0, s1, s2, s3, s4, s5⟩ hand ⟨4, a, b, c, hh⟩ 3 ⟨r0, r1, (r2 + 1), r3, r4, 0, 0, 0⟩ ⟨ok, val⟩ := by rw [← hl0] <;> rfl
  obtain ⟨l1, hl1⟩ : ∃ l, tk ⟨s0, s1, s2, s3, s4, s5⟩ hand ⟨4, a, b, c, hh⟩ 3 ⟨r0, r1, (r2 + 1), r3, r4, 0, 0, 0⟩ ⟨ok, val⟩ = l := ⟨_, rfl⟩
  rw [hl0, hl1]
  rw [hl1] at hset
  have hl1i := hide (show IsTk l1 from by rw [← hl1]; exact tk_is _ _ _ _ _ _)
  obtain ⟨W3, hW3, sz3, R0, R1, R2, R3, G3, R4, cell⟩ := RPre.pre hr hl0'
  have HR3 := hide R4
  have g6 : l0[6]? = some (.int .i64 hand) := by rw [← hl0]; rfl
  have g12 : l0[12]? = some (.int .i64 2) := by rw [← hl0]; rfl
  have g13 : l0[13]? = some (.int .u64 r0) := by rw [← hl0]; rfl
  have g15 : l0[15]? = some (.int .u64 r2) := by rw [← hl0]; rfl
  have c6 := cell 6 _ g6
  have c12 := cell 12 _ g12
  have c13 := cell 13 _ g13
  have c15 := cell 15 _ g15
  have G6 := hide g6
  have G12 := hide g12
  have G13 := hide g13
  have G15 := hide g15
  obtain ⟨dT, hdT1, hdT2⟩ := row79
  obtain ⟨dS, hdS1, hdS2⟩ := row46
  have HD := hide (And.intro hdT1 (And.intro hdT2 (And.intro hdS1 hdS2)))
  have HR0 := hide R0
  have HR1 := hide R1
  have HR2 := hide R2
  have HRS := hide R3
  have HG3 := hide G3
  have HSET := hide hset
  have HL0 := hide hl0'
  have v2 : wrap64 2 = 2 := by unfold wrap64; omega
  have v3 : wrap64 3 = 3 := by unfold wrap64; omega
  have v4 : wrap64 4 = 4 := by unfold wrap64; omega
  have fc0 : (x.had != 0) = true := by simpa using a0
  have fc1 : (x.had != e2) = false := by simpa using a1
  have fc2 : (r2 + 1 == 8) = true := by simpa using a2
  have b6 : IntKind.u64.wrap (r2 + 1) = r2 + 1 := by rw [IntKind.wrap_u64]; omega
  have b9 : wrap64 r2 = r2 := by unfold wrap64; omega
  have b8 : IntKind.i64.wrap r2 = r2 := by rw [IntKind.wrap_i64]; omega
  have b10 : wrap64 (1 + r2) = 1 + r2 := by unfold wrap64; omega
  have b7 : IntKind.u64.wrap (r0 + 1) = e2 := (rwrap_u64 _).trans he2
  clear hx hf' hr R0 R1 R2 R3 R4 G3 cell hset hl0' hl0 hl1 hdT1 hdT2 hdS1 hdS2 he2 hn a0 a1 a2 g6 g12 g13 g15
  simp only [tk0, RPre.ZL] at hW3
  go_enter Try.func42, Try.ntmps42
  go_wp2_with fail
  refine (DO.out _ HR3.out).mono ?_
  rintro e w1 ⟨rfl, hr1, hg1⟩
  rw [HX.out]
  rw [HF.out] at hr1
  simp only [Stp.val]
  have sz1 := hg1.size
  obtain ⟨V1, hV1, szV, q1', q2', q3', q4', q5', q6', ⟨⟨z0, zf0⟩, ⟨z1, zf1⟩, ⟨z2, zf2⟩, ⟨z3, zf3⟩, ⟨z4, zf4⟩, z5, zf5⟩, y0, y1, y2, y3, y4, y5⟩ := RPre.aft x HR0.out HR1.out HR2.out HRS.out HG3.out lg sz3 hr1 hg1
  try simp only at hV1 y0 y1 y2 y3 y4 y5
  have HRQ := hide (show V1.rangeAt (w.heap.size + 3) 0 [Value.int .i64 x.hand, .int .i64 x.act, .int .i64 x.at_, .int .u64 x.had, .int .u64 x.put, .bool x.ok] from q1')
  have HR4 := hide q2'
  have HR5 := hide q3'
  have HR6 := hide q4'
  have HR1' := hide q5'
  have HT1 := hide q6'
  have lV : w.heap.size + 3 < V1.heap.size := by omega
  have lV0 : w.heap.size < V1.heap.size := by omega
  have e6 : V1.cell? ⟨w.heap.size, 6, none⟩ = some (.int .i64 hand) := by rw [HR4.out.cell (i := 6) (by omega), lrow_of G6.out]
  have f6 := HR4.out.frozen 6
  have e12 : V1.cell? ⟨w.heap.size, 12, none⟩ = some (.int .i64 2) := by rw [HR4.out.cell (i := 12) (by omega), lrow_of G12.out]
  have f12 := HR4.out.frozen 12
  have e13 : V1.cell? ⟨w.heap.size, 13, none⟩ = some (.int .u64 r0) := by rw [HR4.out.cell (i := 13) (by omega), lrow_of G13.out]
  have f13 := HR4.out.frozen 13
  have e15 : V1.cell? ⟨w.heap.size, 15, none⟩ = some (.int .u64 r2) := by rw [HR4.out.cell (i := 15) (by omega), lrow_of G15.out]
  have f15 := HR4.out.frozen 15
  have l1w : w.heap.size + 3 < w1.heap.size := by omega
  clear hr1 hg1 q1' q2' q3' q4' q5' q6' hW3 c6 c12 c13 c15
  go_wp2_with fail
  clear hV1 z0 zf0 z1 zf1 z2 zf2 z3 zf3 z4 zf4 z5 zf5
  obtain ⟨WA, hWA⟩ : ∃ W, ((V1.setCell ⟨w.heap.size, 15, none⟩ (.int .u64 (r2 + 1))).setCell ⟨w.heap.size, 12, none⟩ (.int .i64 3)) = W := ⟨_, rfl⟩
  have tt0 : Touch V1 WA (fun k => k = w.heap.size) := by
    rw [← hWA]
    exact Touch.trans' (S' := fun k => k = w.heap.size) (⟨rfl, rfl, rfl, Nat.le_refl _, fun _ _ _ => rfl⟩ : Touch V1 V1 (fun k => k = w.heap.size)) (Touch.setCell (S := fun k => k = w.heap.size) (Touch.setCell (S := fun k => k = w.heap.size) (Touch.refl V1 _) ⟨w.heap.size, 15, none⟩ (.inl rfl) _) ⟨w.heap.size, 12, none⟩ (.inl rfl) _) (fun k _ h => h)
  have szA : WA.heap.size = V1.heap.size := by
    rw [← hWA] <;> first | (simp; done) | rfl | (simp; rfl)
  have rA : WA.rangeAt w.heap.size 0 l1 := by
    have := rowIs.range (rowIs.setL (rowIs.setL (show World.rowIs V1 w.heap.size 64 28 (lrow l0) from HR4.out) (i := 15) (by simp [HL0.out]) (.int .u64 (r2 + 1))) (i := 12) (by simp [HL0.out]) (.int .i64 3)) (by simp [HL0.out])
    rw [HSET.out, hWA] at this
    exact this
  have rB : WA.rangeAt (w.heap.size + 3) 0 [Value.int .i64 x.hand, .int .i64 x.act, .int .i64 x.at_, .int .u64 x.had, .int .u64 x.put, .bool x.ok] := rangeAt_block HRQ.out (tt0.block _ (by omega) (by omega))
  have tC : WA.there (w.heap.size + 1) 0 28 := rowIs.there (HR5.out.of_block (tt0.block _ (by omega) (by omega))) (by omega)
  have tD : WA.there (w.heap.size + 2) 0 6 := rowIs.there (HR6.out.of_block (tt0.block _ (by omega) (by omega))) (by omega)
  have rW : IsRow WA g n cap f' := HR1'.out.block (tt0.block g (by omega) (by omega))
  have TW : Touch w WA (fun k => k = g) := HT1.out.trans' tt0 (fun k hk h => absurd hk (by omega))
  first | rw [hWA] | skip
  have HTW := hide TW
  have HRW := hide rW
  clear TW rW hWA tt0
  refine RetN.region (ks := [(0, 146), (1, 147), (4, 6)]) (vals := fun i => match i with
      | 0 => .agg l1.toArray
      | 1 => .agg #[Value.int .i64 x.hand, .int .i64 x.act, .int .i64 x.at_, .int .u64 x.had, .int .u64 x.put, .bool x.ok]
      | 4 => .bool false
      | _ => undef) (C := w.heap.size + 1) (E := w.heap.size + 2) (iC := 2) (iE := 3) (lt := l1) (ls := [Value.int .i64 x.hand, .int .i64 x.act, .int .i64 x.at_, .int .u64 x.had, .int .u64 x.put, .bool x.ok]) (by kernel_rfl) ?g ?b rfl (by omega) (by decide) ?dd hl1i.out.2 (by simp [Value.oneCell']) (by rw [hl1i.out.1]; exact tC) tD ?kinds ?fin
  case g =>
    intro i o ho
    have hi : i < 5 := by have := (Array.getElem?_eq_some_iff.1 ho).1; simpa using this
    match i, hi with
    | 0, _ | 1, _ | 2, _ | 3, _ | 4, _ => injection ho with ho; subst ho; rfl
  case b =>
    intro i o ho
    have hi : i < 5 := by have := (Array.getElem?_eq_some_iff.1 ho).1; simpa using this
    match i, hi with
    | 0, _ | 1, _ | 2, _ | 3, _ | 4, _ => injection ho with ho; subst ho; simp [Region.binds]
  case dd =>
    intro k hk
    have hk' : k < 148 := by
      simp [RetN.D] at hk
      omega
    simpa using hk'
  case kinds =>
    intro i o ho
    have hi : i < 5 := by have := (Array.getElem?_eq_some_iff.1 ho).1; simpa using this
    match i, hi with
    | 0, _ => injection ho with ho; subst ho; exact .inl ⟨146, _, rfl, rfl, fun L a w' hI hd => ex_load_row rfl (hI.fix 2 (Reg.notD rfl)) (rangeAt_block rA (hI.tch.block _ (by omega) (by omega))) HD.out.1 HD.out.2.1 (by rw [hl1i.out.1]; exact size79)⟩
    | 1, _ => injection ho with ho; subst ho; exact .inl ⟨147, _, rfl, rfl, fun L a w' hI hd => ex_load_row rfl (hI.fix 7 (Reg.notD rfl)) (rangeAt_block rB (hI.tch.block _ (by omega) (by omega))) HD.out.2.2.1 HD.out.2.2.2 size46⟩
    | 2, _ => injection ho with ho; subst ho; exact .inr (.inl ⟨rfl, rfl, _, _, _, rfl, (by rw [hl1i.out.1]; exact size79), fun L a w' hI hd => ⟨hI.fix 4 (Reg.notD rfl), (hI.pure 0 _ _ rfl (hd ⟨0, .data⟩ (by simp) rfl))⟩⟩)
    | 3, _ => injection ho with ho; subst ho; exact .inr (.inr ⟨rfl, rfl, _, _, _, rfl, size46, fun L a w' hI hd => ⟨hI.fix 5 (Reg.notD rfl), (hI.pure 1 _ _ rfl (hd ⟨1, .data⟩ (by simp) rfl))⟩⟩)
    | 4, _ => injection ho with ho; subst ho; exact .inl ⟨6, _, rfl, rfl, fun L a w' hI hd => ex_assign rfl rfl⟩
  case fin =>
    intro L a' w' hI hall
    rename_i K2 hK2
    refine hK2 _ _ ?_
    have rC := hI.sC (hall 2 (by decide))
    have rD := hI.sE (hall 3 (by decide))
    have pC : a'.eval (.tmp 4) = .pointer (some ⟨w.heap.size + 1, 0, none⟩) := hI.fix 4 (Reg.notD rfl)
    have pD : a'.eval (.tmp 5) = .pointer (some ⟨w.heap.size + 2, 0, none⟩) := hI.fix 5 (Reg.notD rfl)
    have pe : a'.eval (.tmp 6) = .bool false := hI.pure 4 6 _ rfl (hall 4 (by decide))
    have tch := hI.tch
    have hdf : a'.defers = [] := hI.df
    have hT := run_loadVar_mid (P := Try.prog) w' (w.heap.size + 1) 0 _ l1 dT rC HD.out.1 HD.out.2.1 (by rw [hl1i.out.1]; exact size79)
    have hS := run_loadVar_mid (P := Try.prog) w' (w.heap.size + 2) 0 _ _ dS rD HD.out.2.2.1 HD.out.2.2.2 size46
    have hres := results_cct (Q := Try.prog) (fn := Try.f42) (tmps := a'.tmps) (t := 4) (t' := 5) (t'' := 6) (W := w') (by rfl) pC hT pD hS
    rw [show a'.tmps.getD 6 undef = .bool false from pe] at hres
    go_wp2
    refine bodyPost_ret (v := .tuple #[.agg l1.toArray, x.val, .bool false]) hres hdf ⟨rfl, HRW.out.block (tch.block g HRW.out.lt (by omega)), ?_⟩
    have := HTW.out.trans' tch (fun k hk h => absurd hk (by omega))
    exact ⟨this.os, this.tape, this.output, this.size, fun k hk hn => this.block k hk (by simpa using hn)⟩

set_option maxHeartbeats 8000000 in
theorem rp2_in_more {w : World} {g n cap : Nat} {f f' : Nat → Int} {x : Stp} {s0 s1 s2 s3 s4 s5 hand a b c hh r0 r1 r2 r3 r4 val : Int} {ok : Bool} (hr : IsRow w g n cap f) (hn : 0 ≤ r2 ∧ r2 ≤ 64) {e2 : Int} (he2 : u64 (r0 + 1) = e2) (a0 : ¬ x.had = 0) (a1 : x.had = e2) (a2 : ¬ r2 + 1 = 8)  (hx : stepOf n f ⟨hand, 1, 1 + r2, 0, 0, true⟩ = x) (hf' : wordsOf n f ⟨hand, 1, 1 + r2, 0, 0, true⟩ = f') :
    Calls Try.prog 42 #[.agg (tk ⟨s0, s1, s2, s3, s4, s5⟩ hand ⟨4, a, b, c, hh⟩ 2 ⟨r0, r1, r2, r3, r4, 0, 0, 0⟩ ⟨ok, val⟩).toArray, .slice (some ⟨g, 0, none⟩) n cap] w fun e w' =>
      e = .returned (.tuple #[.agg (tk ⟨s0, s1, s2, s3, s4, s5⟩ hand ⟨4, a, b, c, hh⟩ 2 ⟨r0, r1, (r2 + 1), r3, r4, 0, 0, 0⟩ ⟨ok, val⟩).toArray, x.val, .bool false]) ∧ IsRow w' g n cap f' ∧ w.grownBy w' (some g) := by
  have DO := hide (fun (w' : World) (hr' : IsRow w' g n cap f) => ref_do (s := ⟨hand, 1, 1 + r2, 0, 0, true⟩) hr' ⟨Int.le_refl 0, by show (0 : Int) ≤ 18446744073709551615; decide⟩ ⟨by show (1 : Int) ≤ 1; decide, by show (1 : Int) ≤ 5; decide⟩)
  have HX := hide hx
  have HF := hide hf'
  have lg := hr.lt
  obtain ⟨l0, hl0⟩ : ∃ l, tk ⟨s0, s1, s2, s3, s4, s5⟩ hand ⟨4, a, b, c, hh⟩ 2 ⟨r0, r1, r2, r3, r4, 0, 0, 0⟩ ⟨ok, val⟩ = l := ⟨_, rfl⟩
  have hl0' : l0.length = 28 := by rw [← hl0]; rfl
  have hl0i := hide (show IsTk l0 from by rw [← hl0]; exact tk_is _ _ _ _ _ _)
  have hset : (l0.set 15 (.int .u64 (r2 + 1))) = tk ⟨s0, s1, s2, s3, s4, s5⟩ hand ⟨4, a, b, c, hh⟩ 2 ⟨r0, r1, (r2 + 1), r3, r4, 0, 0, 0⟩ ⟨ok, val⟩ := by rw [← hl0] <;> rfl
  obtain ⟨l1, hl1⟩ : ∃ l, tk ⟨s0, s1, s2, s3, s4, s5⟩ hand ⟨4, a, b, c, hh⟩ 2 ⟨r0, r1, (r2 + 1), r3, r4, 0, 0, 0⟩ ⟨ok, val⟩ = l := ⟨_, rfl⟩
  rw [hl0, hl1]
  rw [hl1] at hset
  have hl1i := hide (show IsTk l1 from by rw [← hl1]; exact tk_is _ _ _ _ _ _)
  obtain ⟨W3, hW3, sz3, R0, R1, R2, R3, G3, R4, cell⟩ := RPre.pre hr hl0'
  have HR3 := hide R4
  have g6 : l0[6]? = some (.int .i64 hand) := by rw [← hl0]; rfl
  have g12 : l0[12]? = some (.int .i64 2) := by rw [← hl0]; rfl
  have g13 : l0[13]? = some (.int .u64 r0) := by rw [← hl0]; rfl
  have g15 : l0[15]? = some (.int .u64 r2) := by rw [← hl0]; rfl
  have c6 := cell 6 _ g6
  have c12 := cell 12 _ g12
  have c13 := cell 13 _ g13
  have c15 := cell 15 _ g15
  have G6 := hide g6
  have G12 := hide g12
  have G13 := hide g13
  have G15 := hide g15
  obtain ⟨dT, hdT1, hdT2⟩ := row79
  obtain ⟨dS, hdS1, hdS2⟩ := row46
  have HD := hide (And.intro hdT1 (And.intro hdT2 (And.intro hdS1 hdS2)))
  have HR0 := hide R0
  have HR1 := hide R1
  have HR2 := hide R2
  have HRS := hide R3
  have HG3 := hide G3
  have HSET := hide hset
  have HL0 := hide hl0'
  have v2 : wrap64 2 = 2 := by unfold wrap64; omega
  have v3 : wrap64 3 = 3 := by unfold wrap64; omega
  have v4 : wrap64 4 = 4 := by unfold wrap64; omega
  have fc0 : (x.had != 0) = true := by simpa using a0
  have fc1 : (x.had != e2) = false := by simpa using a1
  have fc2 : (r2 + 1 == 8) = false := by simpa using a2
  have b6 : IntKind.u64.wrap (r2 + 1) = r2 + 1 := by rw [IntKind.wrap_u64]; omega
  have b9 : wrap64 r2 = r2 := by unfold wrap64; omega
  have b8 : IntKind.i64.wrap r2 = r2 := by rw [IntKind.wrap_i64]; omega
  have b10 : wrap64 (1 + r2) = 1 + r2 := by unfold wrap64; omega
  have b7 : IntKind.u64.wrap (r0 + 1) = e2 := (rwrap_u64 _).trans he2
  clear hx hf' hr R0 R1 R2 R3 R4 G3 cell hset hl0' hl0 hl1 hdT1 hdT2 hdS1 hdS2 he2 hn a0 a1 a2 g6 g12 g13 g15
  simp only [tk0, RPre.ZL] at hW3
  go_enter Try.func42, Try.ntmps42
  go_wp2_with fail
  refine (DO.out _ HR3.out).mono ?_
  rintro e w1 ⟨rfl, hr1, hg1⟩
  rw [HX.out]
  rw [HF.out] at hr1
  simp only [Stp.val]
  have sz1 := hg1.size
  obtain ⟨V1, hV1, szV, q1', q2', q3', q4', q5', q6', ⟨⟨z0, zf0⟩, ⟨z1, zf1⟩, ⟨z2, zf2⟩, ⟨z3, zf3⟩, ⟨z4, zf4⟩, z5, zf5⟩, y0, y1, y2, y3, y4, y5⟩ := RPre.aft x HR0.out HR1.out HR2.out HRS.out HG3.out lg sz3 hr1 hg1
  try simp only at hV1 y0 y1 y2 y3 y4 y5
  have HRQ := hide (show V1.rangeAt (w.heap.size + 3) 0 [Value.int .i64 x.hand, .int .i64 x.act, .int .i64 x.at_, .int .u64 x.had, .int .u64 x.put, .bool x.ok] from q1')
  have HR4 := hide q2'
  have HR5 := hide q3'
  have HR6 := hide q4'
  have HR1' := hide q5'
  have HT1 := hide q6'
  have lV : w.heap.size + 3 < V1.heap.size := by omega
  have lV0 : w.heap.size < V1.heap.size := by omega
  have e6 : V1.cell? ⟨w.heap.size, 6, none⟩ = some (.int .i64 hand) := by rw [HR4.out.cell (i := 6) (by omega), lrow_of G6.out]
  have f6 := HR4.out.frozen 6
  have e12 : V1.cell? ⟨w.heap.size, 12, none⟩ = some (.int .i64 2) := by rw [HR4.out.cell (i := 12) (by omega), lrow_of G12.out]
  have f12 := HR4.out.frozen 12
  have e13 : V1.cell? ⟨w.heap.size, 13, none⟩ = some (.int .u64 r0) := by rw [HR4.out.cell (i := 13) (by omega), lrow_of G13.out]
  have f13 := HR4.out.frozen 13
  have e15 : V1.cell? ⟨w.heap.size, 15, none⟩ = some (.int .u64 r2) := by rw [HR4.out.cell (i := 15) (by omega), lrow_of G15.out]
  have f15 := HR4.out.frozen 15
  have l1w : w.heap.size + 3 < w1.heap.size := by omega
  clear hr1 hg1 q1' q2' q3' q4' q5' q6' hW3 c6 c12 c13 c15
  go_wp2_with fail
  clear hV1 z0 zf0 z1 zf1 z2 zf2 z3 zf3 z4 zf4 z5 zf5
  obtain ⟨WA, hWA⟩ : ∃ W, (V1.setCell ⟨w.heap.size, 15, none⟩ (.int .u64 (r2 + 1))) = W := ⟨_, rfl⟩
  have tt0 : Touch V1 WA (fun k => k = w.heap.size) := by
    rw [← hWA]
    exact Touch.trans' (S' := fun k => k = w.heap.size) (⟨rfl, rfl, rfl, Nat.le_refl _, fun _ _ _ => rfl⟩ : Touch V1 V1 (fun k => k = w.heap.size)) (Touch.setCell (S := fun k => k = w.heap.size) (Touch.refl V1 _) ⟨w.heap.size, 15, none⟩ (.inl rfl) _) (fun k _ h => h)
  have szA : WA.heap.size = V1.heap.size := by
    rw [← hWA] <;> first | (simp; done) | rfl | (simp; rfl)
  have rA : WA.rangeAt w.heap.size 0 l1 := by
    have := rowIs.range (rowIs.setL (show World.rowIs V1 w.heap.size 64 28 (lrow l0) from HR4.out) (i := 15) (by simp [HL0.out]) (.int .u64 (r2 + 1))) (by simp [HL0.out])
    rw [HSET.out, hWA] at this
    exact this
  have rB : WA.rangeAt (w.heap.size + 3) 0 [Value.int .i64 x.hand, .int .i64 x.act, .int .i64 x.at_, .int .u64 x.had, .int .u64 x.put, .bool x.ok] := rangeAt_block HRQ.out (tt0.block _ (by omega) (by omega))
  have tC : WA.there (w.heap.size + 1) 0 28 := rowIs.there (HR5.out.of_block (tt0.block _ (by omega) (by omega))) (by omega)
  have tD : WA.there (w.heap.size + 2) 0 6 := rowIs.there (HR6.out.of_block (tt0.block _ (by omega) (by omega))) (by omega)
  have rW : IsRow WA g n cap f' := HR1'.out.block (tt0.block g (by omega) (by omega))
  have TW : Touch w WA (fun k => k = g) := HT1.out.trans' tt0 (fun k hk h => absurd hk (by omega))
  first | rw [hWA] | skip
  have HTW := hide TW
  have HRW := hide rW
  clear TW rW hWA tt0
  refine RetN.region (ks := [(0, 146), (1, 147), (4, 6)]) (vals := fun i => match i with
      | 0 => .agg l1.toArray
      | 1 => .agg #[Value.int .i64 x.hand, .int .i64 x.act, .int .i64 x.at_, .int .u64 x.had, .int .u64 x.put, .bool x.ok]
      | 4 => .bool false
      | _ => undef) (C := w.heap.size + 1) (E := w.heap.size + 2) (iC := 2) (iE := 3) (lt := l1) (ls := [Value.int .i64 x.hand, .int .i64 x.act, .int .i64 x.at_, .int .u64 x.had, .int .u64 x.put, .bool x.ok]) (by kernel_rfl) ?g ?b rfl (by omega) (by decide) ?dd hl1i.out.2 (by simp [Value.oneCell']) (by rw [hl1i.out.1]; exact tC) tD ?kinds ?fin
  case g =>
    intro i o ho
    have hi : i < 5 := by have := (Array.getElem?_eq_some_iff.1 ho).1; simpa using this
    match i, hi with
    | 0, _ | 1, _ | 2, _ | 3, _ | 4, _ => injection ho with ho; subst ho; rfl
  case b =>
    intro i o ho
    have hi : i < 5 := by have := (Array.getElem?_eq_some_iff.1 ho).1; simpa using this
    match i, hi with
    | 0, _ | 1, _ | 2, _ | 3, _ | 4, _ => injection ho with ho; subst ho; simp [Region.binds]
  case dd =>
    intro k hk
    have hk' : k < 148 := by
      simp [RetN.D] at hk
      omega
    simpa using hk'
  case kinds =>
    intro i o ho
    have hi : i < 5 := by have := (Array.getElem?_eq_some_iff.1 ho).1; simpa using this
    match i, hi with
    | 0, _ => injection ho with ho; subst ho; exact .inl ⟨146, _, rfl, rfl, fun L a w' hI hd => ex_load_row rfl (hI.fix 2 (Reg.notD rfl)) (rangeAt_block rA (hI.tch.block _ (by omega) (by omega))) HD.out.1 HD.out.2.1 (by rw [hl1i.out.1]; exact size79)⟩
    | 1, _ => injection ho with ho; subst ho; exact .inl ⟨147, _, rfl, rfl, fun L a w' hI hd => ex_load_row rfl (hI.fix 7 (Reg.notD rfl)) (rangeAt_block rB (hI.tch.block _ (by omega) (by omega))) HD.out.2.2.1 HD.out.2.2.2 size46⟩
    | 2, _ => injection ho with ho; subst ho; exact .inr (.inl ⟨rfl, rfl, _, _, _, rfl, (by rw [hl1i.out.1]; exact size79), fun L a w' hI hd => ⟨hI.fix 4 (Reg.notD rfl), (hI.pure 0 _ _ rfl (hd ⟨0, .data⟩ (by simp) rfl))⟩⟩)
    | 3, _ => injection ho with ho; subst ho; exact .inr (.inr ⟨rfl, rfl, _, _, _, rfl, size46, fun L a w' hI hd => ⟨hI.fix 5 (Reg.notD rfl), (hI.pure 1 _ _ rfl (hd ⟨1, .data⟩ (by simp) rfl))⟩⟩)
    | 4, _ => injection ho with ho; subst ho; exact .inl ⟨6, _, rfl, rfl, fun L a w' hI hd => ex_assign rfl rfl⟩
  case fin =>
    intro L a' w' hI hall
    rename_i K2 hK2
    refine hK2 _ _ ?_
    have rC := hI.sC (hall 2 (by decide))
    have rD := hI.sE (hall 3 (by decide))
    have pC : a'.eval (.tmp 4) = .pointer (some ⟨w.heap.size + 1, 0, none⟩) := hI.fix 4 (Reg.notD rfl)
    have pD : a'.eval (.tmp 5) = .pointer (some ⟨w.heap.size + 2, 0, none⟩) := hI.fix 5 (Reg.notD rfl)
    have pe : a'.eval (.tmp 6) = .bool false := hI.pure 4 6 _ rfl (hall 4 (by decide))
    have tch := hI.tch
    have hdf : a'.defers = [] := hI.df
    have hT := run_loadVar_mid (P := Try.prog) w' (w.heap.size + 1) 0 _ l1 dT rC HD.out.1 HD.out.2.1 (by rw [hl1i.out.1]; exact size79)
    have hS := run_loadVar_mid (P := Try.prog) w' (w.heap.size + 2) 0 _ _ dS rD HD.out.2.2.1 HD.out.2.2.2 size46
    have hres := results_cct (Q := Try.prog) (fn := Try.f42) (tmps := a'.tmps) (t := 4) (t' := 5) (t'' := 6) (W := w') (by rfl) pC hT pD hS
    rw [show a'.tmps.getD 6 undef = .bool false from pe] at hres
    go_wp2
    refine bodyPost_ret (v := .tuple #[.agg l1.toArray, x.val, .bool false]) hres hdf ⟨rfl, HRW.out.block (tch.block g HRW.out.lt (by omega)), ?_⟩
    have := HTW.out.trans' tch (fun k hk h => absurd hk (by omega))
    exact ⟨this.os, this.tape, this.output, this.size, fun k hk hn => this.block k hk (by simpa using hn)⟩

set_option maxHeartbeats 8000000 in
theorem rp3 {w : World} {g n cap : Nat} {f f' : Nat → Int} {x : Stp} {s0 s1 s2 s3 s4 s5 hand a b c hh r0 r1 r2 r3 r4 val : Int} {ok : Bool} (hr : IsRow w g n cap f) {e2 : Int} (he2 : u64 (r0 + 1) = e2)  (hx : stepOf n f ⟨hand, 5, 0, r0, e2, true⟩ = x) (hf' : wordsOf n f ⟨hand, 5, 0, r0, e2, true⟩ = f') :
    Calls Try.prog 42 #[.agg (tk ⟨s0, s1, s2, s3, s4, s5⟩ hand ⟨4, a, b, c, hh⟩ 3 ⟨r0, r1, r2, r3, r4, 0, 0, 0⟩ ⟨ok, val⟩).toArray, .slice (some ⟨g, 0, none⟩) n cap] w fun e w' =>
      e = .returned (.tuple #[.agg (tk ⟨s0, s1, s2, s3, s4, s5⟩ hand ⟨4, a, b, c, hh⟩ 4 ⟨r0, r1, r2, r3, r4, 0, 0, 0⟩ ⟨ok, val⟩).toArray, x.val, .bool false]) ∧ IsRow w' g n cap f' ∧ w.grownBy w' (some g) := by
  have DO := hide (fun (w' : World) (hr' : IsRow w' g n cap f) => ref_do (s := ⟨hand, 5, 0, r0, e2, true⟩) hr' (by rw [← he2]; exact ⟨u64_lo _, u64_hi _⟩) ⟨by show (1 : Int) ≤ 5; decide, by show (5 : Int) ≤ 5; decide⟩)
  have HX := hide hx
  have HF := hide hf'
  have lg := hr.lt
  obtain ⟨l0, hl0⟩ : ∃ l, tk ⟨s0, s1, s2, s3, s4, s5⟩ hand ⟨4, a, b, c, hh⟩ 3 ⟨r0, r1, r2, r3, r4, 0, 0, 0⟩ ⟨ok, val⟩ = l := ⟨_, rfl⟩
  have hl0' : l0.length = 28 := by rw [← hl0]; rfl
  have hl0i := hide (show IsTk l0 from by rw [← hl0]; exact tk_is _ _ _ _ _ _)
  have hset : (l0.set 12 (.int .i64 4)) = tk ⟨s0, s1, s2, s3, s4, s5⟩ hand ⟨4, a, b, c, hh⟩ 4 ⟨r0, r1, r2, r3, r4, 0, 0, 0⟩ ⟨ok, val⟩ := by rw [← hl0] <;> rfl
  obtain ⟨l1, hl1⟩ : ∃ l, tk ⟨s0, s1, s2, s3, s4, s5⟩ hand ⟨4, a, b, c, hh⟩ 4 ⟨r0, r1, r2, r3, r4, 0, 0, 0⟩ ⟨ok, val⟩ = l := ⟨_, rfl⟩
  rw [hl0, hl1]
  rw [hl1] at hset
  have hl1i := hide (show IsTk l1 from by rw [← hl1]; exact tk_is _ _ _ _ _ _)
  obtain ⟨W3, hW3, sz3, R0, R1, R2, R3, G3, R4, cell⟩ := RPre.pre hr hl0'
  have HR3 := hide R4
  have g6 : l0[6]? = some (.int .i64 hand) := by rw [← hl0]; rfl
  have g12 : l0[12]? = some (.int .i64 3) := by rw [← hl0]; rfl
  have g13 : l0[13]? = some (.int .u64 r0) := by rw [← hl0]; rfl
  have c6 := cell 6 _ g6
  have c12 := cell 12 _ g12
  have c13 := cell 13 _ g13
  have G6 := hide g6
  have G12 := hide g12
  have G13 := hide g13
  obtain ⟨dT, hdT1, hdT2⟩ := row79
  obtain ⟨dS, hdS1, hdS2⟩ := row46
  have HD := hide (And.intro hdT1 (And.intro hdT2 (And.intro hdS1 hdS2)))
  have HR0 := hide R0
  have HR1 := hide R1
  have HR2 := hide R2
  have HRS := hide R3
  have HG3 := hide G3
  have HSET := hide hset
  have HL0 := hide hl0'
  have v2 : wrap64 2 = 2 := by unfold wrap64; omega
  have v3 : wrap64 3 = 3 := by unfold wrap64; omega
  have v4 : wrap64 4 = 4 := by unfold wrap64; omega
  have b7 : IntKind.u64.wrap (r0 + 1) = e2 := (rwrap_u64 _).trans he2
  clear hx hf' hr R0 R1 R2 R3 R4 G3 cell hset hl0' hl0 hl1 hdT1 hdT2 hdS1 hdS2 he2 g6 g12 g13
  simp only [tk0, RPre.ZL] at hW3
  go_enter Try.func42, Try.ntmps42
  go_wp2_with fail
  refine (DO.out _ HR3.out).mono ?_
  rintro e w1 ⟨rfl, hr1, hg1⟩
  rw [HX.out]
  rw [HF.out] at hr1
  simp only [Stp.val]
  have sz1 := hg1.size
  obtain ⟨V1, hV1, szV, q1', q2', q3', q4', q5', q6', ⟨⟨z0, zf0⟩, ⟨z1, zf1⟩, ⟨z2, zf2⟩, ⟨z3, zf3⟩, ⟨z4, zf4⟩, z5, zf5⟩, y0, y1, y2, y3, y4, y5⟩ := RPre.aft x HR0.out HR1.out HR2.out HRS.out HG3.out lg sz3 hr1 hg1
  try simp only at hV1 y0 y1 y2 y3 y4 y5
  have HRQ := hide (show V1.rangeAt (w.heap.size + 3) 0 [Value.int .i64 x.hand, .int .i64 x.act, .int .i64 x.at_, .int .u64 x.had, .int .u64 x.put, .bool x.ok] from q1')
  have HR4 := hide q2'
  have HR5 := hide q3'
  have HR6 := hide q4'
  have HR1' := hide q5'
  have HT1 := hide q6'
  have lV : w.heap.size + 3 < V1.heap.size := by omega
  have lV0 : w.heap.size < V1.heap.size := by omega
  have e6 : V1.cell? ⟨w.heap.size, 6, none⟩ = some (.int .i64 hand) := by rw [HR4.out.cell (i := 6) (by omega), lrow_of G6.out]
  have f6 := HR4.out.frozen 6
  have e12 : V1.cell? ⟨w.heap.size, 12, none⟩ = some (.int .i64 3) := by rw [HR4.out.cell (i := 12) (by omega), lrow_of G12.out]
  have f12 := HR4.out.frozen 12
  have e13 : V1.cell? ⟨w.heap.size, 13, none⟩ = some (.int .u64 r0) := by rw [HR4.out.cell (i := 13) (by omega), lrow_of G13.out]
  have f13 := HR4.out.frozen 13
  have l1w : w.heap.size + 3 < w1.heap.size := by omega
  clear hr1 hg1 q1' q2' q3' q4' q5' q6' hW3 c6 c12 c13
  go_wp2_with fail
  clear hV1 z0 zf0 z1 zf1 z2 zf2 z3 zf3 z4 zf4 z5 zf5
  obtain ⟨WA, hWA⟩ : ∃ W, (V1.setCell ⟨w.heap.size, 12, none⟩ (.int .i64 4)) = W := ⟨_, rfl⟩
  have tt0 : Touch V1 WA (fun k => k = w.heap.size) := by
    rw [← hWA]
    exact Touch.trans' (S' := fun k => k = w.heap.size) (⟨rfl, rfl, rfl, Nat.le_refl _, fun _ _ _ => rfl⟩ : Touch V1 V1 (fun k => k = w.heap.size)) (Touch.setCell (S := fun k => k = w.heap.size) (Touch.refl V1 _) ⟨w.heap.size, 12, none⟩ (.inl rfl) _) (fun k _ h => h)
  have szA : WA.heap.size = V1.heap.size := by
    rw [← hWA] <;> first | (simp; done) | rfl | (simp; rfl)
  have rA : WA.rangeAt w.heap.size 0 l1 := by
    have := rowIs.range (rowIs.setL (show World.rowIs V1 w.heap.size 64 28 (lrow l0) from HR4.out) (i := 12) (by simp [HL0.out]) (.int .i64 4)) (by simp [HL0.out])
    rw [HSET.out, hWA] at this
    exact this
  have rB : WA.rangeAt (w.heap.size + 3) 0 [Value.int .i64 x.hand, .int .i64 x.act, .int .i64 x.at_, .int .u64 x.had, .int .u64 x.put, .bool x.ok] := rangeAt_block HRQ.out (tt0.block _ (by omega) (by omega))
  have tC : WA.there (w.heap.size + 1) 0 28 := rowIs.there (HR5.out.of_block (tt0.block _ (by omega) (by omega))) (by omega)
  have tD : WA.there (w.heap.size + 2) 0 6 := rowIs.there (HR6.out.of_block (tt0.block _ (by omega) (by omega))) (by omega)
  have rW : IsRow WA g n cap f' := HR1'.out.block (tt0.block g (by omega) (by omega))
  have TW : Touch w WA (fun k => k = g) := HT1.out.trans' tt0 (fun k hk h => absurd hk (by omega))
  first | rw [hWA] | skip
  have HTW := hide TW
  have HRW := hide rW
  clear TW rW hWA tt0
  refine RetN.region (ks := [(0, 146), (1, 147), (4, 6)]) (vals := fun i => match i with
      | 0 => .agg l1.toArray
      | 1 => .agg #[Value.int .i64 x.hand, .int .i64 x.act, .int .i64 x.at_, .int .u64 x.had, .int .u64 x.put, .bool x.ok]
      | 4 => .bool false
      | _ => undef) (C := w.heap.size + 1) (E := w.heap.size + 2) (iC := 2) (iE := 3) (lt := l1) (ls := [Value.int .i64 x.hand, .int .i64 x.act, .int .i64 x.at_, .int .u64 x.had, .int .u64 x.put, .bool x.ok]) (by kernel_rfl) ?g ?b rfl (by omega) (by decide) ?dd hl1i.out.2 (by simp [Value.oneCell']) (by rw [hl1i.out.1]; exact tC) tD ?kinds ?fin
  case g =>
    intro i o ho
    have hi : i < 5 := by have := (Array.getElem?_eq_some_iff.1 ho).1; simpa using this
    match i, hi with
    | 0, _ | 1, _ | 2, _ | 3, _ | 4, _ => injection ho with ho; subst ho; rfl
  case b =>
    intro i o ho
    have hi : i < 5 := by have := (Array.getElem?_eq_some_iff.1 ho).1; simpa using this
    match i, hi with
    | 0, _ | 1, _ | 2, _ | 3, _ | 4, _ => injection ho with ho; subst ho; simp [Region.binds]
  case dd =>
    intro k hk
    have hk' : k < 148 := by
      simp [RetN.D] at hk
      omega
    simpa using hk'
  case kinds =>
    intro i o ho
    have hi : i < 5 := by have := (Array.getElem?_eq_some_iff.1 ho).1; simpa using this
    match i, hi with
    | 0, _ => injection ho with ho; subst ho; exact .inl ⟨146, _, rfl, rfl, fun L a w' hI hd => ex_load_row rfl (hI.fix 2 (Reg.notD rfl)) (rangeAt_block rA (hI.tch.block _ (by omega) (by omega))) HD.out.1 HD.out.2.1 (by rw [hl1i.out.1]; exact size79)⟩
    | 1, _ => injection ho with ho; subst ho; exact .inl ⟨147, _, rfl, rfl, fun L a w' hI hd => ex_load_row rfl (hI.fix 7 (Reg.notD rfl)) (rangeAt_block rB (hI.tch.block _ (by omega) (by omega))) HD.out.2.2.1 HD.out.2.2.2 size46⟩
    | 2, _ => injection ho with ho; subst ho; exact .inr (.inl ⟨rfl, rfl, _, _, _, rfl, (by rw [hl1i.out.1]; exact size79), fun L a w' hI hd => ⟨hI.fix 4 (Reg.notD rfl), (hI.pure 0 _ _ rfl (hd ⟨0, .data⟩ (by simp) rfl))⟩⟩)
    | 3, _ => injection ho with ho; subst ho; exact .inr (.inr ⟨rfl, rfl, _, _, _, rfl, size46, fun L a w' hI hd => ⟨hI.fix 5 (Reg.notD rfl), (hI.pure 1 _ _ rfl (hd ⟨1, .data⟩ (by simp) rfl))⟩⟩)
    | 4, _ => injection ho with ho; subst ho; exact .inl ⟨6, _, rfl, rfl, fun L a w' hI hd => ex_assign rfl rfl⟩
  case fin =>
    intro L a' w' hI hall
    rename_i K2 hK2
    refine hK2 _ _ ?_
    have rC := hI.sC (hall 2 (by decide))
    have rD := hI.sE (hall 3 (by decide))
    have pC : a'.eval (.tmp 4) = .pointer (some ⟨w.heap.size + 1, 0, none⟩) := hI.fix 4 (Reg.notD rfl)
    have pD : a'.eval (.tmp 5) = .pointer (some ⟨w.heap.size + 2, 0, none⟩) := hI.fix 5 (Reg.notD rfl)
    have pe : a'.eval (.tmp 6) = .bool false := hI.pure 4 6 _ rfl (hall 4 (by decide))
    have tch := hI.tch
    have hdf : a'.defers = [] := hI.df
    have hT := run_loadVar_mid (P := Try.prog) w' (w.heap.size + 1) 0 _ l1 dT rC HD.out.1 HD.out.2.1 (by rw [hl1i.out.1]; exact size79)
    have hS := run_loadVar_mid (P := Try.prog) w' (w.heap.size + 2) 0 _ _ dS rD HD.out.2.2.1 HD.out.2.2.2 size46
    have hres := results_cct (Q := Try.prog) (fn := Try.f42) (tmps := a'.tmps) (t := 4) (t' := 5) (t'' := 6) (W := w') (by rfl) pC hT pD hS
    rw [show a'.tmps.getD 6 undef = .bool false from pe] at hres
    go_wp2
    refine bodyPost_ret (v := .tuple #[.agg l1.toArray, x.val, .bool false]) hres hdf ⟨rfl, HRW.out.block (tch.block g HRW.out.lt (by omega)), ?_⟩
    have := HTW.out.trans' tch (fun k hk h => absurd hk (by omega))
    exact ⟨this.os, this.tape, this.output, this.size, fun k hk hn => this.block k hk (by simpa using hn)⟩

set_option maxHeartbeats 8000000 in
theorem rp4 {w : World} {g n cap : Nat} {f f' : Nat → Int} {x : Stp} {s0 s1 s2 s3 s4 s5 hand a b c hh r0 r1 r2 r3 r4 val : Int} {ok : Bool} (hr : IsRow w g n cap f)  (hx : stepOf n f ⟨hand, 1, 0, 0, 0, true⟩ = x) (hf' : wordsOf n f ⟨hand, 1, 0, 0, 0, true⟩ = f') :
    Calls Try.prog 42 #[.agg (tk ⟨s0, s1, s2, s3, s4, s5⟩ hand ⟨4, a, b, c, hh⟩ 4 ⟨r0, r1, r2, r3, r4, 0, 0, 0⟩ ⟨ok, val⟩).toArray, .slice (some ⟨g, 0, none⟩) n cap] w fun e w' =>
      e = .returned (.tuple #[.agg (tk ⟨s0, s1, s2, s3, s4, s5⟩ hand ⟨4, a, b, c, hh⟩ 5 ⟨r0, x.had, 0, r3, r4, 0, 0, 0⟩ ⟨ok, val⟩).toArray, x.val, .bool false]) ∧ IsRow w' g n cap f' ∧ w.grownBy w' (some g) := by
  have DO := hide (fun (w' : World) (hr' : IsRow w' g n cap f) => ref_do (s := ⟨hand, 1, 0, 0, 0, true⟩) hr' ⟨Int.le_refl 0, by show (0 : Int) ≤ 18446744073709551615; decide⟩ ⟨by show (1 : Int) ≤ 1; decide, by show (1 : Int) ≤ 5; decide⟩)
  have HX := hide hx
  have HF := hide hf'
  have lg := hr.lt
  obtain ⟨l0, hl0⟩ : ∃ l, tk ⟨s0, s1, s2, s3, s4, s5⟩ hand ⟨4, a, b, c, hh⟩ 4 ⟨r0, r1, r2, r3, r4, 0, 0, 0⟩ ⟨ok, val⟩ = l := ⟨_, rfl⟩
  have hl0' : l0.length = 28 := by rw [← hl0]; rfl
  have hl0i := hide (show IsTk l0 from by rw [← hl0]; exact tk_is _ _ _ _ _ _)
  have hset : (((l0.set 14 (.int .u64 x.had)).set 15 (.int .u64 0)).set 12 (.int .i64 5)) = tk ⟨s0, s1, s2, s3, s4, s5⟩ hand ⟨4, a, b, c, hh⟩ 5 ⟨r0, x.had, 0, r3, r4, 0, 0, 0⟩ ⟨ok, val⟩ := by rw [← hl0] <;> rfl
  obtain ⟨l1, hl1⟩ : ∃ l, tk ⟨s0, s1, s2, s3, s4, s5⟩ hand ⟨4, a, b, c, hh⟩ 5 ⟨r0, x.had, 0, r3, r4, 0, 0, 0⟩ ⟨ok, val⟩ = l := ⟨_, rfl⟩
  rw [hl0, hl1]
  rw [hl1] at hset
  have hl1i := hide (show IsTk l1 from by rw [← hl1]; exact tk_is _ _ _ _ _ _)
  obtain ⟨W3, hW3, sz3, R0, R1, R2, R3, G3, R4, cell⟩ := RPre.pre hr hl0'
  have HR3 := hide R4
  have g6 : l0[6]? = some (.int .i64 hand) := by rw [← hl0]; rfl
  have g12 : l0[12]? = some (.int .i64 4) := by rw [← hl0]; rfl
  have g14 : l0[14]? = some (.int .u64 r1) := by rw [← hl0]; rfl
  have g15 : l0[15]? = some (.int .u64 r2) := by rw [← hl0]; rfl
  have c6 := cell 6 _ g6
  have c12 := cell 12 _ g12
  have c14 := cell 14 _ g14
  have c15 := cell 15 _ g15
  have G6 := hide g6
  have G12 := hide g12
  have G14 := hide g14
  have G15 := hide g15
  obtain ⟨dT, hdT1, hdT2⟩ := row79
  obtain ⟨dS, hdS1, hdS2⟩ := row46
  have HD := hide (And.intro hdT1 (And.intro hdT2 (And.intro hdS1 hdS2)))
  have HR0 := hide R0
  have HR1 := hide R1
  have HR2 := hide R2
  have HRS := hide R3
  have HG3 := hide G3
  have HSET := hide hset
  have HL0 := hide hl0'
  have v2 : wrap64 2 = 2 := by unfold wrap64; omega
  have v3 : wrap64 3 = 3 := by unfold wrap64; omega
  have v4 : wrap64 4 = 4 := by unfold wrap64; omega
  clear hx hf' hr R0 R1 R2 R3 R4 G3 cell hset hl0' hl0 hl1 hdT1 hdT2 hdS1 hdS2  g6 g12 g14 g15
  simp only [tk0, RPre.ZL] at hW3
  go_enter Try.func42, Try.ntmps42
  go_wp2_with fail
  refine (DO.out _ HR3.out).mono ?_
  rintro e w1 ⟨rfl, hr1, hg1⟩
  rw [HX.out]
  rw [HF.out] at hr1
  simp only [Stp.val]
  have sz1 := hg1.size
  obtain ⟨V1, hV1, szV, q1', q2', q3', q4', q5', q6', ⟨⟨z0, zf0⟩, ⟨z1, zf1⟩, ⟨z2, zf2⟩, ⟨z3, zf3⟩, ⟨z4, zf4⟩, z5, zf5⟩, y0, y1, y2, y3, y4, y5⟩ := RPre.aft x HR0.out HR1.out HR2.out HRS.out HG3.out lg sz3 hr1 hg1
  try simp only at hV1 y0 y1 y2 y3 y4 y5
  have HRQ := hide (show V1.rangeAt (w.heap.size + 3) 0 [Value.int .i64 x.hand, .int .i64 x.act, .int .i64 x.at_, .int .u64 x.had, .int .u64 x.put, .bool x.ok] from q1')
  have HR4 := hide q2'
  have HR5 := hide q3'
  have HR6 := hide q4'
  have HR1' := hide q5'
  have HT1 := hide q6'
  have lV : w.heap.size + 3 < V1.heap.size := by omega
  have lV0 : w.heap.size < V1.heap.size := by omega
  have e6 : V1.cell? ⟨w.heap.size, 6, none⟩ = some (.int .i64 hand) := by rw [HR4.out.cell (i := 6) (by omega), lrow_of G6.out]
  have f6 := HR4.out.frozen 6
  have e12 : V1.cell? ⟨w.heap.size, 12, none⟩ = some (.int .i64 4) := by rw [HR4.out.cell (i := 12) (by omega), lrow_of G12.out]
  have f12 := HR4.out.frozen 12
  have e14 : V1.cell? ⟨w.heap.size, 14, none⟩ = some (.int .u64 r1) := by rw [HR4.out.cell (i := 14) (by omega), lrow_of G14.out]
  have f14 := HR4.out.frozen 14
  have e15 : V1.cell? ⟨w.heap.size, 15, none⟩ = some (.int .u64 r2) := by rw [HR4.out.cell (i := 15) (by omega), lrow_of G15.out]
  have f15 := HR4.out.frozen 15
  have l1w : w.heap.size + 3 < w1.heap.size := by omega
  clear hr1 hg1 q1' q2' q3' q4' q5' q6' hW3 c6 c12 c14 c15
  go_wp2_with fail
  clear hV1 z0 zf0 z1 zf1 z2 zf2 z3 zf3 z4 zf4 z5 zf5
  obtain ⟨WA, hWA⟩ : ∃ W, (((V1.setCell ⟨w.heap.size, 14, none⟩ (.int .u64 x.had)).setCell ⟨w.heap.size, 15, none⟩ (.int .u64 0)).setCell ⟨w.heap.size, 12, none⟩ (.int .i64 5)) = W := ⟨_, rfl⟩
  have tt0 : Touch V1 WA (fun k => k = w.heap.size) := by
    rw [← hWA]
    exact Touch.trans' (S' := fun k => k = w.heap.size) (⟨rfl, rfl, rfl, Nat.le_refl _, fun _ _ _ => rfl⟩ : Touch V1 V1 (fun k => k = w.heap.size)) (Touch.setCell (S := fun k => k = w.heap.size) (Touch.setCell (S := fun k => k = w.heap.size) (Touch.setCell (S := fun k => k = w.heap.size) (Touch.refl V1 _) ⟨w.heap.size, 14, none⟩ (.inl rfl) _) ⟨w.heap.size, 15, none⟩ (.inl rfl) _) ⟨w.heap.size, 12, none⟩ (.inl rfl) _) (fun k _ h => h)
  have szA : WA.heap.size = V1.heap.size := by
    rw [← hWA] <;> first | (simp; done) | rfl | (simp; rfl)
  have rA : WA.rangeAt w.heap.size 0 l1 := by
    have := rowIs.range (rowIs.setL (rowIs.setL (rowIs.setL (show World.rowIs V1 w.heap.size 64 28 (lrow l0) from HR4.out) (i := 14) (by simp [HL0.out]) (.int .u64 x.had)) (i := 15) (by simp [HL0.out]) (.int .u64 0)) (i := 12) (by simp [HL0.out]) (.int .i64 5)) (by simp [HL0.out])
    rw [HSET.out, hWA] at this
    exact this
  have rB : WA.rangeAt (w.heap.size + 3) 0 [Value.int .i64 x.hand, .int .i64 x.act, .int .i64 x.at_, .int .u64 x.had, .int .u64 x.put, .bool x.ok] := rangeAt_block HRQ.out (tt0.block _ (by omega) (by omega))
  have tC : WA.there (w.heap.size + 1) 0 28 := rowIs.there (HR5.out.of_block (tt0.block _ (by omega) (by omega))) (by omega)
  have tD : WA.there (w.heap.size + 2) 0 6 := rowIs.there (HR6.out.of_block (tt0.block _ (by omega) (by omega))) (by omega)
  have rW : IsRow WA g n cap f' := HR1'.out.block (tt0.block g (by omega) (by omega))
  have TW : Touch w WA (fun k => k = g) := HT1.out.trans' tt0 (fun k hk h => absurd hk (by omega))
  first | rw [hWA] | skip
  have HTW := hide TW
  have HRW := hide rW
  clear TW rW hWA tt0
  refine RetN.region (ks := [(0, 146), (1, 147), (4, 6)]) (vals := fun i => match i with
      | 0 => .agg l1.toArray
      | 1 => .agg #[Value.int .i64 x.hand, .int .i64 x.act, .int .i64 x.at_, .int .u64 x.had, .int .u64 x.put, .bool x.ok]
      | 4 => .bool false
      | _ => undef) (C := w.heap.size + 1) (E := w.heap.size + 2) (iC := 2) (iE := 3) (lt := l1) (ls := [Value.int .i64 x.hand, .int .i64 x.act, .int .i64 x.at_, .int .u64 x.had, .int .u64 x.put, .bool x.ok]) (by kernel_rfl) ?g ?b rfl (by omega) (by decide) ?dd hl1i.out.2 (by simp [Value.oneCell']) (by rw [hl1i.out.1]; exact tC) tD ?kinds ?fin
  case g =>
    intro i o ho
    have hi : i < 5 := by have := (Array.getElem?_eq_some_iff.1 ho).1; simpa using this
    match i, hi with
    | 0, _ | 1, _ | 2, _ | 3, _ | 4, _ => injection ho with ho; subst ho; rfl
  case b =>
    intro i o ho
    have hi : i < 5 := by have := (Array.getElem?_eq_some_iff.1 ho).1; simpa using this
    match i, hi with
    | 0, _ | 1, _ | 2, _ | 3, _ | 4, _ => injection ho with ho; subst ho; simp [Region.binds]
  case dd =>
    intro k hk
    have hk' : k < 148 := by
      simp [RetN.D] at hk
      omega
    simpa using hk'
  case kinds =>
    intro i o ho
    have hi : i < 5 := by have := (Array.getElem?_eq_some_iff.1 ho).1; simpa using this
    match i, hi with
    | 0, _ => injection ho with ho; subst ho; exact .inl ⟨146, _, rfl, rfl, fun L a w' hI hd => ex_load_row rfl (hI.fix 2 (Reg.notD rfl)) (rangeAt_block rA (hI.tch.block _ (by omega) (by omega))) HD.out.1 HD.out.2.1 (by rw [hl1i.out.1]; exact size79)⟩
    | 1, _ => injection ho with ho; subst ho; exact .inl ⟨147, _, rfl, rfl, fun L a w' hI hd => ex_load_row rfl (hI.fix 7 (Reg.notD rfl)) (rangeAt_block rB (hI.tch.block _ (by omega) (by omega))) HD.out.2.2.1 HD.out.2.2.2 size46⟩
    | 2, _ => injection ho with ho; subst ho; exact .inr (.inl ⟨rfl, rfl, _, _, _, rfl, (by rw [hl1i.out.1]; exact size79), fun L a w' hI hd => ⟨hI.fix 4 (Reg.notD rfl), (hI.pure 0 _ _ rfl (hd ⟨0, .data⟩ (by simp) rfl))⟩⟩)
    | 3, _ => injection ho with ho; subst ho; exact .inr (.inr ⟨rfl, rfl, _, _, _, rfl, size46, fun L a w' hI hd => ⟨hI.fix 5 (Reg.notD rfl), (hI.pure 1 _ _ rfl (hd ⟨1, .data⟩ (by simp) rfl))⟩⟩)
    | 4, _ => injection ho with ho; subst ho; exact .inl ⟨6, _, rfl, rfl, fun L a w' hI hd => ex_assign rfl rfl⟩
  case fin =>
    intro L a' w' hI hall
    rename_i K2 hK2
    refine hK2 _ _ ?_
    have rC := hI.sC (hall 2 (by decide))
    have rD := hI.sE (hall 3 (by decide))
    have pC : a'.eval (.tmp 4) = .pointer (some ⟨w.heap.size + 1, 0, none⟩) := hI.fix 4 (Reg.notD rfl)
    have pD : a'.eval (.tmp 5) = .pointer (some ⟨w.heap.size + 2, 0, none⟩) := hI.fix 5 (Reg.notD rfl)
    have pe : a'.eval (.tmp 6) = .bool false := hI.pure 4 6 _ rfl (hall 4 (by decide))
    have tch := hI.tch
    have hdf : a'.defers = [] := hI.df
    have hT := run_loadVar_mid (P := Try.prog) w' (w.heap.size + 1) 0 _ l1 dT rC HD.out.1 HD.out.2.1 (by rw [hl1i.out.1]; exact size79)
    have hS := run_loadVar_mid (P := Try.prog) w' (w.heap.size + 2) 0 _ _ dS rD HD.out.2.2.1 HD.out.2.2.2 size46
    have hres := results_cct (Q := Try.prog) (fn := Try.f42) (tmps := a'.tmps) (t := 4) (t' := 5) (t'' := 6) (W := w') (by rfl) pC hT pD hS
    rw [show a'.tmps.getD 6 undef = .bool false from pe] at hres
    go_wp2
    refine bodyPost_ret (v := .tuple #[.agg l1.toArray, x.val, .bool false]) hres hdf ⟨rfl, HRW.out.block (tch.block g HRW.out.lt (by omega)), ?_⟩
    have := HTW.out.trans' tch (fun k hk h => absurd hk (by omega))
    exact ⟨this.os, this.tape, this.output, this.size, fun k hk hn => this.block k hk (by simpa using hn)⟩

set_option maxHeartbeats 8000000 in
theorem rp5_due {w : World} {g n cap : Nat} {f f' : Nat → Int} {x : Stp} {s0 s1 s2 s3 s4 s5 hand a b c hh r0 r1 r2 r3 r4 val : Int} {ok : Bool} (hr : IsRow w g n cap f) (hn : 0 ≤ r2 ∧ r2 ≤ 64) {e2 : Int} (he2 : u64 (x.had + 1) = e2) (a0 : ¬ x.had = 0) (a1 : e2 ≤ r1)  (hx : stepOf n f ⟨hand, 1, 9 + r2, 0, 0, true⟩ = x) (hf' : wordsOf n f ⟨hand, 1, 9 + r2, 0, 0, true⟩ = f') :
    Calls Try.prog 42 #[.agg (tk ⟨s0, s1, s2, s3, s4, s5⟩ hand ⟨4, a, b, c, hh⟩ 5 ⟨r0, r1, r2, r3, r4, 0, 0, 0⟩ ⟨ok, val⟩).toArray, .slice (some ⟨g, 0, none⟩) n cap] w fun e w' =>
      e = .returned (.tuple #[.agg (tk ⟨s0, s1, s2, s3, s4, s5⟩ hand ⟨4, a, b, c, hh⟩ 6 ⟨r0, r1, r2, x.had, r4, 0, 0, 0⟩ ⟨ok, val⟩).toArray, x.val, .bool false]) ∧ IsRow w' g n cap f' ∧ w.grownBy w' (some g) := by
  have DO := hide (fun (w' : World) (hr' : IsRow w' g n cap f) => ref_do (s := ⟨hand, 1, 9 + r2, 0, 0, true⟩) hr' ⟨Int.le_refl 0, by show (0 : Int) ≤ 18446744073709551615; decide⟩ ⟨by show (1 : Int) ≤ 1; decide, by show (1 : Int) ≤ 5; decide⟩)
  have HX := hide hx
  have HF := hide hf'
  have lg := hr.lt
  obtain ⟨l0, hl0⟩ : ∃ l, tk ⟨s0, s1, s2, s3, s4, s5⟩ hand ⟨4, a, b, c, hh⟩ 5 ⟨r0, r1, r2, r3, r4, 0, 0, 0⟩ ⟨ok, val⟩ = l := ⟨_, rfl⟩
  have hl0' : l0.length = 28 := by rw [← hl0]; rfl
  have hl0i := hide (show IsTk l0 from by rw [← hl0]; exact tk_is _ _ _ _ _ _)
  have hset : ((l0.set 16 (.int .u64 x.had)).set 12 (.int .i64 6)) = tk ⟨s0, s1, s2, s3, s4, s5⟩ hand ⟨4, a, b, c, hh⟩ 6 ⟨r0, r1, r2, x.had, r4, 0, 0, 0⟩ ⟨ok, val⟩ := by rw [← hl0] <;> rfl
  obtain ⟨l1, hl1⟩ : ∃ l, tk ⟨s0, s1, s2, s3, s4, s5⟩ hand ⟨4, a, b, c, hh⟩ 6 ⟨r0, r1, r2, x.had, r4, 0, 0, 0⟩ ⟨ok, val⟩ = l := ⟨_, rfl⟩
  rw [hl0, hl1]
  rw [hl1] at hset
  have hl1i := hide (show IsTk l1 from by rw [← hl1]; exact tk_is _ _ _ _ _ _)
  obtain ⟨W3, hW3, sz3, R0, R1, R2, R3, G3, R4, cell⟩ := RPre.pre hr hl0'
  have HR3 := hide R4
  have g6 : l0[6]? = some (.int .i64 hand) := by rw [← hl0]; rfl
  have g12 : l0[12]? = some (.int .i64 5) := by rw [← hl0]; rfl
  have g14 : l0[14]? = some (.int .u64 r1) := by rw [← hl0]; rfl
  have g15 : l0[15]? = some (.int .u64 r2) := by rw [← hl0]; rfl
  have g16 : l0[16]? = some (.int .u64 r3) := by rw [← hl0]; rfl
  have c6 := cell 6 _ g6
  have c12 := cell 12 _ g12
  have c14 := cell 14 _ g14
  have c15 := cell 15 _ g15
  have c16 := cell 16 _ g16
  have G6 := hide g6
  have G12 := hide g12
  have G14 := hide g14
  have G15 := hide g15
  have G16 := hide g16
  obtain ⟨dT, hdT1, hdT2⟩ := row79
  obtain ⟨dS, hdS1, hdS2⟩ := row46
  have HD := hide (And.intro hdT1 (And.intro hdT2 (And.intro hdS1 hdS2)))
  have HR0 := hide R0
  have HR1 := hide R1
  have HR2 := hide R2
  have HRS := hide R3
  have HG3 := hide G3
  have HSET := hide hset
  have HL0 := hide hl0'
  have v2 : wrap64 2 = 2 := by unfold wrap64; omega
  have v3 : wrap64 3 = 3 := by unfold wrap64; omega
  have v4 : wrap64 4 = 4 := by unfold wrap64; omega
  have fc0 : (x.had != 0) = true := by simpa using a0
  have b9 : wrap64 r2 = r2 := by unfold wrap64; omega
  have b8 : IntKind.i64.wrap r2 = r2 := by rw [IntKind.wrap_i64]; omega
  have b10 : wrap64 (9 + r2) = 9 + r2 := by unfold wrap64; omega
  have b7 : IntKind.u64.wrap (x.had + 1) = e2 := (rwrap_u64 _).trans he2
  clear hx hf' hr R0 R1 R2 R3 R4 G3 cell hset hl0' hl0 hl1 hdT1 hdT2 hdS1 hdS2 he2 hn a0 g6 g12 g14 g15 g16
  simp only [tk0, RPre.ZL] at hW3
  go_enter Try.func42, Try.ntmps42
  go_wp2_with fail
  refine (DO.out _ HR3.out).mono ?_
  rintro e w1 ⟨rfl, hr1, hg1⟩
  rw [HX.out]
  rw [HF.out] at hr1
  simp only [Stp.val]
  have sz1 := hg1.size
  obtain ⟨V1, hV1, szV, q1', q2', q3', q4', q5', q6', ⟨⟨z0, zf0⟩, ⟨z1, zf1⟩, ⟨z2, zf2⟩, ⟨z3, zf3⟩, ⟨z4, zf4⟩, z5, zf5⟩, y0, y1, y2, y3, y4, y5⟩ := RPre.aft x HR0.out HR1.out HR2.out HRS.out HG3.out lg sz3 hr1 hg1
  try simp only at hV1 y0 y1 y2 y3 y4 y5
  have HRQ := hide (show V1.rangeAt (w.heap.size + 3) 0 [Value.int .i64 x.hand, .int .i64 x.act, .int .i64 x.at_, .int .u64 x.had, .int .u64 x.put, .bool x.ok] from q1')
  have HR4 := hide q2'
  have HR5 := hide q3'
  have HR6 := hide q4'
  have HR1' := hide q5'
  have HT1 := hide q6'
  have lV : w.heap.size + 3 < V1.heap.size := by omega
  have lV0 : w.heap.size < V1.heap.size := by omega
  have e6 : V1.cell? ⟨w.heap.size, 6, none⟩ = some (.int .i64 hand) := by rw [HR4.out.cell (i := 6) (by omega), lrow_of G6.out]
  have f6 := HR4.out.frozen 6
  have e12 : V1.cell? ⟨w.heap.size, 12, none⟩ = some (.int .i64 5) := by rw [HR4.out.cell (i := 12) (by omega), lrow_of G12.out]
  have f12 := HR4.out.frozen 12
  have e14 : V1.cell? ⟨w.heap.size, 14, none⟩ = some (.int .u64 r1) := by rw [HR4.out.cell (i := 14) (by omega), lrow_of G14.out]
  have f14 := HR4.out.frozen 14
  have e15 : V1.cell? ⟨w.heap.size, 15, none⟩ = some (.int .u64 r2) := by rw [HR4.out.cell (i := 15) (by omega), lrow_of G15.out]
  have f15 := HR4.out.frozen 15
  have e16 : V1.cell? ⟨w.heap.size, 16, none⟩ = some (.int .u64 r3) := by rw [HR4.out.cell (i := 16) (by omega), lrow_of G16.out]
  have f16 := HR4.out.frozen 16
  have l1w : w.heap.size + 3 < w1.heap.size := by omega
  clear hr1 hg1 q1' q2' q3' q4' q5' q6' hW3 c6 c12 c14 c15 c16
  go_wp2_with fail
  clear hV1 z0 zf0 z1 zf1 z2 zf2 z3 zf3 z4 zf4 z5 zf5
  obtain ⟨WA, hWA⟩ : ∃ W, ((V1.setCell ⟨w.heap.size, 16, none⟩ (.int .u64 x.had)).setCell ⟨w.heap.size, 12, none⟩ (.int .i64 6)) = W := ⟨_, rfl⟩
  have tt0 : Touch V1 WA (fun k => k = w.heap.size) := by
    rw [← hWA]
    exact Touch.trans' (S' := fun k => k = w.heap.size) (⟨rfl, rfl, rfl, Nat.le_refl _, fun _ _ _ => rfl⟩ : Touch V1 V1 (fun k => k = w.heap.size)) (Touch.setCell (S := fun k => k = w.heap.size) (Touch.setCell (S := fun k => k = w.heap.size) (Touch.refl V1 _) ⟨w.heap.size, 16, none⟩ (.inl rfl) _) ⟨w.heap.size, 12, none⟩ (.inl rfl) _) (fun k _ h => h)
  have szA : WA.heap.size = V1.heap.size := by
    rw [← hWA] <;> first | (simp; done) | rfl | (simp; rfl)
  have rA : WA.rangeAt w.heap.size 0 l1 := by
    have := rowIs.range (rowIs.setL (rowIs.setL (show World.rowIs V1 w.heap.size 64 28 (lrow l0) from HR4.out) (i := 16) (by simp [HL0.out]) (.int .u64 x.had)) (i := 12) (by simp [HL0.out]) (.int .i64 6)) (by simp [HL0.out])
    rw [HSET.out, hWA] at this
    exact this
  have rB : WA.rangeAt (w.heap.size + 3) 0 [Value.int .i64 x.hand, .int .i64 x.act, .int .i64 x.at_, .int .u64 x.had, .int .u64 x.put, .bool x.ok] := rangeAt_block HRQ.out (tt0.block _ (by omega) (by omega))
  have tC : WA.there (w.heap.size + 1) 0 28 := rowIs.there (HR5.out.of_block (tt0.block _ (by omega) (by omega))) (by omega)
  have tD : WA.there (w.heap.size + 2) 0 6 := rowIs.there (HR6.out.of_block (tt0.block _ (by omega) (by omega))) (by omega)
  have rW : IsRow WA g n cap f' := HR1'.out.block (tt0.block g (by omega) (by omega))
  have TW : Touch w WA (fun k => k = g) := HT1.out.trans' tt0 (fun k hk h => absurd hk (by omega))
  first | rw [hWA] | skip
  have HTW := hide TW
  have HRW := hide rW
  clear TW rW hWA tt0
  refine RetN.region (ks := [(0, 138), (1, 139), (4, 6)]) (vals := fun i => match i with
      | 0 => .agg l1.toArray
      | 1 => .agg #[Value.int .i64 x.hand, .int .i64 x.act, .int .i64 x.at_, .int .u64 x.had, .int .u64 x.put, .bool x.ok]
      | 4 => .bool false
      | _ => undef) (C := w.heap.size + 1) (E := w.heap.size + 2) (iC := 2) (iE := 3) (lt := l1) (ls := [Value.int .i64 x.hand, .int .i64 x.act, .int .i64 x.at_, .int .u64 x.had, .int .u64 x.put, .bool x.ok]) (by kernel_rfl) ?g ?b rfl (by omega) (by decide) ?dd hl1i.out.2 (by simp [Value.oneCell']) (by rw [hl1i.out.1]; exact tC) tD ?kinds ?fin
  case g =>
    intro i o ho
    have hi : i < 5 := by have := (Array.getElem?_eq_some_iff.1 ho).1; simpa using this
    match i, hi with
    | 0, _ | 1, _ | 2, _ | 3, _ | 4, _ => injection ho with ho; subst ho; rfl
  case b =>
    intro i o ho
    have hi : i < 5 := by have := (Array.getElem?_eq_some_iff.1 ho).1; simpa using this
    match i, hi with
    | 0, _ | 1, _ | 2, _ | 3, _ | 4, _ => injection ho with ho; subst ho; simp [Region.binds]
  case dd =>
    intro k hk
    have hk' : k < 148 := by
      simp [RetN.D] at hk
      omega
    simpa using hk'
  case kinds =>
    intro i o ho
    have hi : i < 5 := by have := (Array.getElem?_eq_some_iff.1 ho).1; simpa using this
    match i, hi with
    | 0, _ => injection ho with ho; subst ho; exact .inl ⟨138, _, rfl, rfl, fun L a w' hI hd => ex_load_row rfl (hI.fix 2 (Reg.notD rfl)) (rangeAt_block rA (hI.tch.block _ (by omega) (by omega))) HD.out.1 HD.out.2.1 (by rw [hl1i.out.1]; exact size79)⟩
    | 1, _ => injection ho with ho; subst ho; exact .inl ⟨139, _, rfl, rfl, fun L a w' hI hd => ex_load_row rfl (hI.fix 7 (Reg.notD rfl)) (rangeAt_block rB (hI.tch.block _ (by omega) (by omega))) HD.out.2.2.1 HD.out.2.2.2 size46⟩
    | 2, _ => injection ho with ho; subst ho; exact .inr (.inl ⟨rfl, rfl, _, _, _, rfl, (by rw [hl1i.out.1]; exact size79), fun L a w' hI hd => ⟨hI.fix 4 (Reg.notD rfl), (hI.pure 0 _ _ rfl (hd ⟨0, .data⟩ (by simp) rfl))⟩⟩)
    | 3, _ => injection ho with ho; subst ho; exact .inr (.inr ⟨rfl, rfl, _, _, _, rfl, size46, fun L a w' hI hd => ⟨hI.fix 5 (Reg.notD rfl), (hI.pure 1 _ _ rfl (hd ⟨1, .data⟩ (by simp) rfl))⟩⟩)
    | 4, _ => injection ho with ho; subst ho; exact .inl ⟨6, _, rfl, rfl, fun L a w' hI hd => ex_assign rfl rfl⟩
  case fin =>
    intro L a' w' hI hall
    rename_i K2 hK2
    refine hK2 _ _ ?_
    have rC := hI.sC (hall 2 (by decide))
    have rD := hI.sE (hall 3 (by decide))
    have pC : a'.eval (.tmp 4) = .pointer (some ⟨w.heap.size + 1, 0, none⟩) := hI.fix 4 (Reg.notD rfl)
    have pD : a'.eval (.tmp 5) = .pointer (some ⟨w.heap.size + 2, 0, none⟩) := hI.fix 5 (Reg.notD rfl)
    have pe : a'.eval (.tmp 6) = .bool false := hI.pure 4 6 _ rfl (hall 4 (by decide))
    have tch := hI.tch
    have hdf : a'.defers = [] := hI.df
    have hT := run_loadVar_mid (P := Try.prog) w' (w.heap.size + 1) 0 _ l1 dT rC HD.out.1 HD.out.2.1 (by rw [hl1i.out.1]; exact size79)
    have hS := run_loadVar_mid (P := Try.prog) w' (w.heap.size + 2) 0 _ _ dS rD HD.out.2.2.1 HD.out.2.2.2 size46
    have hres := results_cct (Q := Try.prog) (fn := Try.f42) (tmps := a'.tmps) (t := 4) (t' := 5) (t'' := 6) (W := w') (by rfl) pC hT pD hS
    rw [show a'.tmps.getD 6 undef = .bool false from pe] at hres
    go_wp2
    refine bodyPost_ret (v := .tuple #[.agg l1.toArray, x.val, .bool false]) hres hdf ⟨rfl, HRW.out.block (tch.block g HRW.out.lt (by omega)), ?_⟩
    have := HTW.out.trans' tch (fun k hk h => absurd hk (by omega))
    exact ⟨this.os, this.tape, this.output, this.size, fun k hk hn => this.block k hk (by simpa using hn)⟩

end Epoch
end Go.Proofs.Ytdflicgjkleonaa
