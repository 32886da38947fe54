/-
  Lemmas: BeltRB.
-/
import Derived.Test.YtehbkkmhnfgcmaaTp22
import Derived.Test.YtehbkkmhnfgcmaaTp19
import Derived.Test.YtehbkkmhnfgcmaaTp29
/-
  The belt's reference: Step: take, a fetch touches.
-/
namespace Go.Proofs.Ytehbkkmhnfgcmaa
open Go.RowKit
set_option linter.unusedVariables false
set_option linter.unusedSimpArgs false
set_option linter.unnecessarySimpa false
set_option maxRecDepth 20000
namespace Belt

set_option maxHeartbeats 8000000 in
theorem rtake_give_true {w : World} {g n cap : Nat} {f f' : Nat → Int} {xh xa xt xd xp : Int} {s0 s1 s2 s3 s4 s5 hand a b c hh r0 r1 r2 r3 val : Int} {ok : Bool} {mk ta fr gi : Int} (hr : IsRow w g n cap f) (hs : 1 ≤ s5 ∧ s5 ≤ 64) (h0 : 0 ≤ r0 ∧ r0 ≤ 18446744073709551615) (hmk : mrk s5 r0 = mk) (hta : mk + s5 = ta) (hfr : fre r0 = fr) (hgi : giv r0 = gi) {nx : Int} (hnx : u64 (r0 + 1) = nx) (hx : stepOf n f ⟨hand, 5, 0, r0, nx, true⟩ = ⟨xh, xa, xt, xd, xp, true⟩) (hf' : wordsOf n f ⟨hand, 5, 0, r0, nx, true⟩ = f') :
    Calls Try.prog 55 #[.agg (tk ⟨s0, s1, s2, s3, s4, s5⟩ hand ⟨1, a, b, c, hh⟩ 2 ⟨r0, r1, r2, r3, 0, 0, 0, 0⟩ ⟨ok, val⟩).toArray, .slice (some ⟨g, 0, none⟩) n cap] w fun e w' =>
      e = .returned (.tuple #[.agg (tk ⟨s0, s1, s2, s3, s4, s5⟩ hand ⟨1, a, b, c, hh⟩ 3 ⟨r0, r1, r2, r3, 0, 0, 0, 0⟩ ⟨ok, val⟩).toArray, (⟨xh, xa, xt, xd, xp, true⟩ : Stp).val, .bool false]) ∧ IsRow w' g n cap f' ∧ w.grownBy w' (some g) := by
  have DO := hide (fun (w' : World) (hr' : IsRow w' g n cap f) => ref_do (s := ⟨hand, 5, 0, r0, nx, true⟩) hr' (by rw [← hnx]; exact ⟨u64_lo _, u64_hi _⟩) ⟨by show (1 : Int) ≤ 5; decide, by show (5 : Int) ≤ 5; decide⟩)
  have HX := hide hx
  have HF := hide hf'
  have lg := hr.lt
  have hmb := mrk_bounds r0 hs.1 hs.2
  have hmo : 0 ≤ r0 % s5 ∧ r0 % s5 < 64 := by unfold mrk at hmb; omega
  have b0 : IntKind.u64.wrap s5 = s5 := by rw [IntKind.wrap_u64]; omega
  have b1 : r0.tmod s5 = r0 % s5 := Int.tmod_eq_emod_of_nonneg h0.1
  have b00 : ¬ s5 = 0 := by omega
  have b2 : wrap64 (r0 % s5) = r0 % s5 := by unfold wrap64; omega
  have b2' : IntKind.i64.wrap (r0 % s5) = r0 % s5 := by rw [IntKind.wrap_i64]; omega
  have b3 : wrap64 (2 + r0 % s5) = mk := by rw [← hmk]; unfold mrk wrap64; omega
  have b4 : wrap64 (mk + s5) = ta := by rw [hmk] at hmb; unfold wrap64; omega
  have b5 : IntKind.u64.wrap (2 * r0) = fr := by rw [IntKind.wrap_u64]; exact hfr
  have hgi' : u64 (fr + 1) = gi := by rw [← hfr, ← hgi]; rfl
  have b6 : IntKind.u64.wrap (fr + 1) = gi := by rw [IntKind.wrap_u64]; exact hgi'
  have HFR := hide hfr
  have HGI := hide hgi'
  obtain ⟨l0, hl0⟩ : ∃ l, tk ⟨s0, s1, s2, s3, s4, s5⟩ hand ⟨1, a, b, c, hh⟩ 2 ⟨r0, r1, r2, r3, 0, 0, 0, 0⟩ ⟨ok, val⟩ = l := ⟨_, rfl⟩
  have hl0' : l0.length = 28 := by rw [← hl0]; rfl
  have hset : ((l0.set 12 (.int .i64 0)).set 12 (.int .i64 3)) = tk ⟨s0, s1, s2, s3, s4, s5⟩ hand ⟨1, a, b, c, hh⟩ 3 ⟨r0, r1, r2, r3, 0, 0, 0, 0⟩ ⟨ok, val⟩ := by rw [← hl0]; rfl
  obtain ⟨l1, hl1⟩ : ∃ l, tk ⟨s0, s1, s2, s3, s4, s5⟩ hand ⟨1, a, b, c, hh⟩ 3 ⟨r0, r1, r2, r3, 0, 0, 0, 0⟩ ⟨ok, val⟩ = l := ⟨_, rfl⟩
  rw [hl0, hl1]
  rw [hl1] at hset
  have hl1i := hide (show IsTk l1 from by rw [← hl1]; exact tk_is _ _ _ _ _ _)
  obtain ⟨W3, hW3⟩ : ∃ W3, ((w.alloc (.cells l0.toArray 64)).alloc (.cells tk0.toArray 64)).alloc (.cells [Value.int .i64 0, .int .i64 0, .int .i64 0, .int .u64 0, .int .u64 0, .bool false].toArray 77) = W3 := ⟨_, rfl⟩
  have sz3 : W3.heap.size = w.heap.size + 3 := by rw [← hW3]; simp
  have R0 : W3.rowIs w.heap.size 64 28 (lrow l0) := by rw [← hW3]; exact ((rowL_alloc w l0 _ hl0').alloc _).alloc _
  have R1 : W3.rowIs (w.heap.size + 1) 64 28 (lrow tk0) := by
    rw [← hW3]
    have := (rowL_alloc (w.alloc (.cells l0.toArray 64)) tk0 64 (n := 28) rfl).alloc (.cells [Value.int .i64 0, .int .i64 0, .int .i64 0, .int .u64 0, .int .u64 0, .bool false].toArray 77)
    rwa [World.size_alloc] at this
  have R2 : W3.rowIs (w.heap.size + 2) 77 6 (lrow [Value.int .i64 0, .int .i64 0, .int .i64 0, .int .u64 0, .int .u64 0, .bool false]) := by
    rw [← hW3]
    have := rowL_alloc ((w.alloc (.cells l0.toArray 64)).alloc (.cells tk0.toArray 64)) [Value.int .i64 0, .int .i64 0, .int .i64 0, .int .u64 0, .int .u64 0, .bool false] 77 (n := 6) rfl
    rwa [World.size_alloc, World.size_alloc] at this
  have G3 : w.grownBy W3 (some g) := by rw [← hW3]; exact grown_alloc (grown_alloc (grown_alloc (grown_refl _ _) _) _) _
  have HR3 := hide (show IsRow W3 g n cap f from hr.grown (grown_none (by rw [← hW3]; exact grown_alloc (grown_alloc (grown_alloc (grown_refl _ _) _) _) _) none) (by simp))
  have cell : ∀ i v, l0[i]? = some v → W3.cell? ⟨w.heap.size, i, none⟩ = some v := fun i v hv => by rw [R0.cell (i := i) (by have := (List.getElem?_eq_some_iff.1 hv).1; omega), lrow_of hv]
  have g5 : l0[5]? = some (.int .i64 s5) := by rw [← hl0]; rfl
  have g6 : l0[6]? = some (.int .i64 hand) := by rw [← hl0]; rfl
  have g7 : l0[7]? = some (.int .i64 1) := by rw [← hl0]; rfl
  have g11 : l0[11]? = some (.int .u64 hh) := by rw [← hl0]; rfl
  have g12 : l0[12]? = some (.int .i64 2) := by rw [← hl0]; rfl
  have g13 : l0[13]? = some (.int .u64 r0) := by rw [← hl0]; rfl
  have g14 : l0[14]? = some (.int .u64 r1) := by rw [← hl0]; rfl
  have g15 : l0[15]? = some (.int .u64 r2) := by rw [← hl0]; rfl
  have g16 : l0[16]? = some (.int .u64 r3) := by rw [← hl0]; rfl
  have g22 : l0[22]? = some (.bool ok) := by rw [← hl0]; rfl
  have g23 : l0[23]? = some (.int .u64 val) := by rw [← hl0]; rfl
  have c5 := cell 5 _ g5
  have c6 := cell 6 _ g6
  have c7 := cell 7 _ g7
  have c11 := cell 11 _ g11
  have c12 := cell 12 _ g12
  have c13 := cell 13 _ g13
  have c14 := cell 14 _ g14
  have c15 := cell 15 _ g15
  have c16 := cell 16 _ g16
  have c22 := cell 22 _ g22
  have c23 := cell 23 _ g23
  have G5 := hide g5
  have G6 := hide g6
  have G7 := hide g7
  have G11 := hide g11
  have G12 := hide g12
  have G13 := hide g13
  have G14 := hide g14
  have G15 := hide g15
  have G16 := hide g16
  have G22 := hide g22
  have G23 := hide g23
  obtain ⟨dT, hdT1, hdT2⟩ := row79
  obtain ⟨dS, hdS1, hdS2⟩ := row46
  have HD := hide (And.intro hdT1 (And.intro hdT2 (And.intro hdS1 hdS2)))
  have HR0 := hide R0
  have HR1 := hide R1
  have HR2 := hide R2
  have HG3 := hide G3
  have HSET := hide hset
  have HL0 := hide hl0'
  have b7 : IntKind.u64.wrap (r0 + 1) = nx := by rw [IntKind.wrap_u64]; exact hnx
  clear hx hf' hr hs h0 hmk hta hfr hgi hgi' hmb hmo R0 R1 R2 G3 cell hset hl0' hl0 hl1 hdT1 hdT2 hdS1 hdS2 hnx g5 g6 g7 g11 g12 g13 g14 g15 g16 g22 g23
  simp only [tk0] at hW3
  go_enter Try.func55, Try.ntmps55
  go_wp2_with (first | (go_at_call 66; refine (DO.out _ HR3.out).mono ?_; rintro e w1 ⟨rfl, hr1, hg1⟩; rw [HX.out]; rw [HF.out] at hr1; simp only [Stp.val]; have sz1 := hg1.size; have HR4 := hide (HR0.out.of_block (hg1.block w.heap.size (by omega) (by simp; omega))); have HR5 := hide (HR1.out.of_block (hg1.block (w.heap.size + 1) (by omega) (by simp; omega))); have HR6 := hide (HR2.out.of_block (hg1.block (w.heap.size + 2) (by omega) (by simp; omega))); have HR1' := hide hr1; have HG1 := hide hg1; have e5 : w1.cell? ⟨w.heap.size, 5, none⟩ = some (.int .i64 s5) := (by rw [HR4.out.cell (i := 5) (by omega), lrow_of G5.out]); have f5 := HR4.out.frozen 5; have e6 : w1.cell? ⟨w.heap.size, 6, none⟩ = some (.int .i64 hand) := (by rw [HR4.out.cell (i := 6) (by omega), lrow_of G6.out]); have f6 := HR4.out.frozen 6; have e7 : w1.cell? ⟨w.heap.size, 7, none⟩ = some (.int .i64 1) := (by rw [HR4.out.cell (i := 7) (by omega), lrow_of G7.out]); have f7 := HR4.out.frozen 7; have e11 : w1.cell? ⟨w.heap.size, 11, none⟩ = some (.int .u64 hh) := (by rw [HR4.out.cell (i := 11) (by omega), lrow_of G11.out]); have f11 := HR4.out.frozen 11; have e12 : w1.cell? ⟨w.heap.size, 12, none⟩ = some (.int .i64 2) := (by rw [HR4.out.cell (i := 12) (by omega), lrow_of G12.out]); have f12 := HR4.out.frozen 12; have e13 : w1.cell? ⟨w.heap.size, 13, none⟩ = some (.int .u64 r0) := (by rw [HR4.out.cell (i := 13) (by omega), lrow_of G13.out]); have f13 := HR4.out.frozen 13; have e14 : w1.cell? ⟨w.heap.size, 14, none⟩ = some (.int .u64 r1) := (by rw [HR4.out.cell (i := 14) (by omega), lrow_of G14.out]); have f14 := HR4.out.frozen 14; have e15 : w1.cell? ⟨w.heap.size, 15, none⟩ = some (.int .u64 r2) := (by rw [HR4.out.cell (i := 15) (by omega), lrow_of G15.out]); have f15 := HR4.out.frozen 15; have e16 : w1.cell? ⟨w.heap.size, 16, none⟩ = some (.int .u64 r3) := (by rw [HR4.out.cell (i := 16) (by omega), lrow_of G16.out]); have f16 := HR4.out.frozen 16; have e22 : w1.cell? ⟨w.heap.size, 22, none⟩ = some (.bool ok) := (by rw [HR4.out.cell (i := 22) (by omega), lrow_of G22.out]); have f22 := HR4.out.frozen 22; have e23 : w1.cell? ⟨w.heap.size, 23, none⟩ = some (.int .u64 val) := (by rw [HR4.out.cell (i := 23) (by omega), lrow_of G23.out]); have f23 := HR4.out.frozen 23; have l1w : w.heap.size < w1.heap.size := (by omega); clear hr1 hg1 c5 c6 c7 c11 c12 c13 c14 c15 c16 c22 c23))
  obtain ⟨w2, hw2⟩ : ∃ w2, ((w1.setCell ⟨w.heap.size, 12, none⟩ (.int .i64 0)).setCell ⟨w.heap.size, 12, none⟩ (.int .i64 3)) = w2 := ⟨_, rfl⟩
  have sz2 : w2.heap.size = w1.heap.size := by rw [← hw2]; simp
  have tt2 : Touch w1 w2 (fun k => k = w.heap.size) := by rw [← hw2]; exact (Touch.setCell (S := fun k => k = w.heap.size) (Touch.setCell (S := fun k => k = w.heap.size) (Touch.refl w1 _) ⟨w.heap.size, 12, none⟩ (.inl rfl) _) ⟨w.heap.size, 12, none⟩ (.inl rfl) _)
  have rA : (w2.alloc (.cells [Value.int .i64 xh, .int .i64 xa, .int .i64 xt, .int .u64 xd, .int .u64 xp, .bool true].toArray 77)).rangeAt w.heap.size 0 l1 := by
    have := rowIs.range (rowIs.setL (rowIs.setL HR4.out (i := 12) (by simp [HL0.out]) (.int .i64 0)) (i := 12) (by simp [HL0.out]) (.int .i64 3)) (by simp [HL0.out])
    rw [HSET.out, hw2] at this
    exact World.rangeAt_alloc this _
  have rB : (w2.alloc (.cells [Value.int .i64 xh, .int .i64 xa, .int .i64 xt, .int .u64 xd, .int .u64 xp, .bool true].toArray 77)).rangeAt w1.heap.size 0 [Value.int .i64 xh, .int .i64 xa, .int .i64 xt, .int .u64 xd, .int .u64 xp, .bool true] := by
    have := rowIs.range (rowL_alloc w2 [Value.int .i64 xh, .int .i64 xa, .int .i64 xt, .int .u64 xd, .int .u64 xp, .bool true] 77 (n := 6) rfl) rfl
    rwa [sz2] at this
  have tC : (w2.alloc (.cells [Value.int .i64 xh, .int .i64 xa, .int .i64 xt, .int .u64 xd, .int .u64 xp, .bool true].toArray 77)).there (w.heap.size + 1) 0 28 := rowIs.there ((HR5.out.of_block (tt2.block _ (by omega) (by omega))).alloc _) (by omega)
  have tD : (w2.alloc (.cells [Value.int .i64 xh, .int .i64 xa, .int .i64 xt, .int .u64 xd, .int .u64 xp, .bool true].toArray 77)).there (w.heap.size + 2) 0 6 := rowIs.there ((HR6.out.of_block (tt2.block _ (by omega) (by omega))).alloc _) (by omega)
  have rW : IsRow (w2.alloc (.cells [Value.int .i64 xh, .int .i64 xa, .int .i64 xt, .int .u64 xd, .int .u64 xp, .bool true].toArray 77)) g n cap f' := (HR1'.out.block (tt2.block g (by omega) (by omega))).alloc _
  have TW : Touch w (w2.alloc (.cells [Value.int .i64 xh, .int .i64 xa, .int .i64 xt, .int .u64 xd, .int .u64 xp, .bool true].toArray 77)) (fun k => k = g) := (((Touch.of_grown HG3.out).mono (S' := fun k => k = g) (fun k _ h => by simpa using h)).trans' (Touch.of_grown HG1.out) (fun k _ h => by simpa using h)).trans' (tt2.alloc _) (fun k hk h => absurd hk (by omega))
  have szA : (w2.alloc (.cells [Value.int .i64 xh, .int .i64 xa, .int .i64 xt, .int .u64 xd, .int .u64 xp, .bool true].toArray 77)).heap.size = w1.heap.size + 1 := by simp [sz2]
  rw [hw2]
  have HTW := hide TW
  have HRW := hide rW
  clear TW rW hw2
  obtain ⟨WA, hWA⟩ : ∃ W, (w2.alloc (.cells [Value.int .i64 xh, .int .i64 xa, .int .i64 xt, .int .u64 xd, .int .u64 xp, .bool true].toArray 77)) = W := ⟨_, rfl⟩
  rw [hWA] at rA rB tC tD szA HTW HRW
  have goA : (w2.alloc (.cells #[Value.int .i64 xh, .int .i64 xa, .int .i64 xt, .int .u64 xd, .int .u64 xp, .bool true] 77)) = WA := hWA
  simp only [goA]
  clear goA hWA
  refine RetN.region (ks := [(0, 93), (1, 94), (4, 6)]) (vals := fun i => match i with
      | 0 => .agg l1.toArray
      | 1 => .agg #[Value.int .i64 xh, .int .i64 xa, .int .i64 xt, .int .u64 xd, .int .u64 xp, .bool true]
      | 4 => .bool false
      | _ => undef) (C := w.heap.size + 1) (E := w.heap.size + 2) (iC := 2) (iE := 3) (lt := l1) (ls := [Value.int .i64 xh, .int .i64 xa, .int .i64 xt, .int .u64 xd, .int .u64 xp, .bool true]) (by kernel_rfl) ?g ?b rfl (by omega) (by decide) ?dd hl1i.out.2 (by simp [Value.oneCell']) (by rw [hl1i.out.1]; exact tC) tD ?kinds ?fin
  case g =>
    intro i o ho
    have hi : i < 5 := by have := (Array.getElem?_eq_some_iff.1 ho).1; simpa using this
    match i, hi with
    | 0, _ | 1, _ | 2, _ | 3, _ | 4, _ => injection ho with ho; subst ho; rfl
  case b =>
    intro i o ho
    have hi : i < 5 := by have := (Array.getElem?_eq_some_iff.1 ho).1; simpa using this
    match i, hi with
    | 0, _ | 1, _ | 2, _ | 3, _ | 4, _ => injection ho with ho; subst ho; simp [Region.binds]
  case dd =>
    intro k hk
    have hk' : k < 153 := by
      simp [RetN.D] at hk
      omega
    simpa using hk'
  case kinds =>
    intro i o ho
    have hi : i < 5 := by have := (Array.getElem?_eq_some_iff.1 ho).1; simpa using this
    match i, hi with
    | 0, _ => injection ho with ho; subst ho; exact .inl ⟨93, _, rfl, rfl, fun L a w' hI hd => ex_load_row rfl (hI.fix 2 (Reg.notD rfl)) (rangeAt_block rA (hI.tch.block _ (by omega) (by omega))) HD.out.1 HD.out.2.1 (by rw [hl1i.out.1]; exact size79)⟩
    | 1, _ => injection ho with ho; subst ho; exact .inl ⟨94, _, rfl, rfl, fun L a w' hI hd => ex_load_row rfl (hI.fix 16 (Reg.notD rfl)) (rangeAt_block rB (hI.tch.block _ (by omega) (by omega))) HD.out.2.2.1 HD.out.2.2.2 size46⟩
    | 2, _ => injection ho with ho; subst ho; exact .inr (.inl ⟨rfl, rfl, _, _, _, rfl, (by rw [hl1i.out.1]; exact size79), fun L a w' hI hd => ⟨hI.fix 4 (Reg.notD rfl), (hI.pure 0 _ _ rfl (hd ⟨0, .data⟩ (by simp) rfl))⟩⟩)
    | 3, _ => injection ho with ho; subst ho; exact .inr (.inr ⟨rfl, rfl, _, _, _, rfl, size46, fun L a w' hI hd => ⟨hI.fix 5 (Reg.notD rfl), (hI.pure 1 _ _ rfl (hd ⟨1, .data⟩ (by simp) rfl))⟩⟩)
    | 4, _ => injection ho with ho; subst ho; exact .inl ⟨6, _, rfl, rfl, fun L a w' hI hd => ex_assign rfl rfl⟩
  case fin =>
    intro L a' w' hI hall
    rename_i K2 hK2
    refine hK2 _ _ ?_
    have rC := hI.sC (hall 2 (by decide))
    have rD := hI.sE (hall 3 (by decide))
    have pC : a'.eval (.tmp 4) = .pointer (some ⟨w.heap.size + 1, 0, none⟩) := hI.fix 4 (Reg.notD rfl)
    have pD : a'.eval (.tmp 5) = .pointer (some ⟨w.heap.size + 2, 0, none⟩) := hI.fix 5 (Reg.notD rfl)
    have pe : a'.eval (.tmp 6) = .bool false := hI.pure 4 6 _ rfl (hall 4 (by decide))
    have tch := hI.tch
    have hdf : a'.defers = [] := hI.df
    have hT := run_loadVar_mid (P := Try.prog) w' (w.heap.size + 1) 0 _ l1 dT rC HD.out.1 HD.out.2.1 (by rw [hl1i.out.1]; exact size79)
    have hS := run_loadVar_mid (P := Try.prog) w' (w.heap.size + 2) 0 _ _ dS rD HD.out.2.2.1 HD.out.2.2.2 size46
    have hres := results_cct (Q := Try.prog) (fn := Try.f55) (tmps := a'.tmps) (t := 4) (t' := 5) (t'' := 6) (W := w') (by rfl) pC hT pD hS
    rw [show a'.tmps.getD 6 undef = .bool false from pe] at hres
    go_wp2
    refine bodyPost_ret (v := .tuple #[.agg l1.toArray, (⟨xh, xa, xt, xd, xp, true⟩ : Stp).val, .bool false]) hres hdf ⟨rfl, HRW.out.block (tch.block g HRW.out.lt (by omega)), ?_⟩
    have := HTW.out.trans' tch (fun k hk h => absurd hk (by omega))
    exact ⟨this.os, this.tape, this.output, this.size, fun k hk hn => this.block k hk (by simpa using hn)⟩

set_option maxHeartbeats 8000000 in
theorem rtake_give_false {w : World} {g n cap : Nat} {f f' : Nat → Int} {xh xa xt xd xp : Int} {s0 s1 s2 s3 s4 s5 hand a b c hh r0 r1 r2 r3 val : Int} {ok : Bool} {mk ta fr gi : Int} (hr : IsRow w g n cap f) (hs : 1 ≤ s5 ∧ s5 ≤ 64) (h0 : 0 ≤ r0 ∧ r0 ≤ 18446744073709551615) (hmk : mrk s5 r0 = mk) (hta : mk + s5 = ta) (hfr : fre r0 = fr) (hgi : giv r0 = gi) {nx : Int} (hnx : u64 (r0 + 1) = nx) (hx : stepOf n f ⟨hand, 5, 0, r0, nx, true⟩ = ⟨xh, xa, xt, xd, xp, false⟩) (hf' : wordsOf n f ⟨hand, 5, 0, r0, nx, true⟩ = f') :
    Calls Try.prog 55 #[.agg (tk ⟨s0, s1, s2, s3, s4, s5⟩ hand ⟨1, a, b, c, hh⟩ 2 ⟨r0, r1, r2, r3, 0, 0, 0, 0⟩ ⟨ok, val⟩).toArray, .slice (some ⟨g, 0, none⟩) n cap] w fun e w' =>
      e = .returned (.tuple #[.agg (tk ⟨s0, s1, s2, s3, s4, s5⟩ hand ⟨1, a, b, c, hh⟩ 0 ⟨r0, r1, r2, r3, 0, 0, 0, 0⟩ ⟨ok, val⟩).toArray, (⟨xh, xa, xt, xd, xp, false⟩ : Stp).val, .bool false]) ∧ IsRow w' g n cap f' ∧ w.grownBy w' (some g) := by
  have DO := hide (fun (w' : World) (hr' : IsRow w' g n cap f) => ref_do (s := ⟨hand, 5, 0, r0, nx, true⟩) hr' (by rw [← hnx]; exact ⟨u64_lo _, u64_hi _⟩) ⟨by show (1 : Int) ≤ 5; decide, by show (5 : Int) ≤ 5; decide⟩)
  have HX := hide hx
  have HF := hide hf'
  have lg := hr.lt
  have hmb := mrk_bounds r0 hs.1 hs.2
  have hmo : 0 ≤ r0 % s5 ∧ r0 % s5 < 64 := by unfold mrk at hmb; omega
  have b0 : IntKind.u64.wrap s5 = s5 := by rw [IntKind.wrap_u64]; omega
  have b1 : r0.tmod s5 = r0 % s5 := Int.tmod_eq_emod_of_nonneg h0.1
  have b00 : ¬ s5 = 0 := by omega
  have b2 : wrap64 (r0 % s5) = r0 % s5 := by unfold wrap64; omega
  have b2' : IntKind.i64.wrap (r0 % s5) = r0 % s5 := by rw [IntKind.wrap_i64]; omega
  have b3 : wrap64 (2 + r0 % s5) = mk := by rw [← hmk]; unfold mrk wrap64; omega
  have b4 : wrap64 (mk + s5) = ta := by rw [hmk] at hmb; unfold wrap64; omega
  have b5 : IntKind.u64.wrap (2 * r0) = fr := by rw [IntKind.wrap_u64]; exact hfr
  have hgi' : u64 (fr + 1) = gi := by rw [← hfr, ← hgi]; rfl
  have b6 : IntKind.u64.wrap (fr + 1) = gi := by rw [IntKind.wrap_u64]; exact hgi'
  have HFR := hide hfr
  have HGI := hide hgi'
  obtain ⟨l0, hl0⟩ : ∃ l, tk ⟨s0, s1, s2, s3, s4, s5⟩ hand ⟨1, a, b, c, hh⟩ 2 ⟨r0, r1, r2, r3, 0, 0, 0, 0⟩ ⟨ok, val⟩ = l := ⟨_, rfl⟩
  have hl0' : l0.length = 28 := by rw [← hl0]; rfl
  have hset : (l0.set 12 (.int .i64 0)) = tk ⟨s0, s1, s2, s3, s4, s5⟩ hand ⟨1, a, b, c, hh⟩ 0 ⟨r0, r1, r2, r3, 0, 0, 0, 0⟩ ⟨ok, val⟩ := by rw [← hl0]; rfl
  obtain ⟨l1, hl1⟩ : ∃ l, tk ⟨s0, s1, s2, s3, s4, s5⟩ hand ⟨1, a, b, c, hh⟩ 0 ⟨r0, r1, r2, r3, 0, 0, 0, 0⟩ ⟨ok, val⟩ = l := ⟨_, rfl⟩
  rw [hl0, hl1]
  rw [hl1] at hset
  have hl1i := hide (show IsTk l1 from by rw [← hl1]; exact tk_is _ _ _ _ _ _)
  obtain ⟨W3, hW3⟩ : ∃ W3, ((w.alloc (.cells l0.toArray 64)).alloc (.cells tk0.toArray 64)).alloc (.cells [Value.int .i64 0, .int .i64 0, .int .i64 0, .int .u64 0, .int .u64 0, .bool false].toArray 77) = W3 := ⟨_, rfl⟩
  have sz3 : W3.heap.size = w.heap.size + 3 := by rw [← hW3]; simp
  have R0 : W3.rowIs w.heap.size 64 28 (lrow l0) := by rw [← hW3]; exact ((rowL_alloc w l0 _ hl0').alloc _).alloc _
  have R1 : W3.rowIs (w.heap.size + 1) 64 28 (lrow tk0) := by
    rw [← hW3]
    have := (rowL_alloc (w.alloc (.cells l0.toArray 64)) tk0 64 (n := 28) rfl).alloc (.cells [Value.int .i64 0, .int .i64 0, .int .i64 0, .int .u64 0, .int .u64 0, .bool false].toArray 77)
    rwa [World.size_alloc] at this
  have R2 : W3.rowIs (w.heap.size + 2) 77 6 (lrow [Value.int .i64 0, .int .i64 0, .int .i64 0, .int .u64 0, .int .u64 0, .bool false]) := by
    rw [← hW3]
    have := rowL_alloc ((w.alloc (.cells l0.toArray 64)).alloc (.cells tk0.toArray 64)) [Value.int .i64 0, .int .i64 0, .int .i64 0, .int .u64 0, .int .u64 0, .bool false] 77 (n := 6) rfl
    rwa [World.size_alloc, World.size_alloc] at this
  have G3 : w.grownBy W3 (some g) := by rw [← hW3]; exact grown_alloc (grown_alloc (grown_alloc (grown_refl _ _) _) _) _
  have HR3 := hide (show IsRow W3 g n cap f from hr.grown (grown_none (by rw [← hW3]; exact grown_alloc (grown_alloc (grown_alloc (grown_refl _ _) _) _) _) none) (by simp))
  have cell : ∀ i v, l0[i]? = some v → W3.cell? ⟨w.heap.size, i, none⟩ = some v := fun i v hv => by rw [R0.cell (i := i) (by have := (List.getElem?_eq_some_iff.1 hv).1; omega), lrow_of hv]
  have g5 : l0[5]? = some (.int .i64 s5) := by rw [← hl0]; rfl
  have g6 : l0[6]? = some (.int .i64 hand) := by rw [← hl0]; rfl
  have g7 : l0[7]? = some (.int .i64 1) := by rw [← hl0]; rfl
  have g11 : l0[11]? = some (.int .u64 hh) := by rw [← hl0]; rfl
  have g12 : l0[12]? = some (.int .i64 2) := by rw [← hl0]; rfl
  have g13 : l0[13]? = some (.int .u64 r0) := by rw [← hl0]; rfl
  have g14 : l0[14]? = some (.int .u64 r1) := by rw [← hl0]; rfl
  have g15 : l0[15]? = some (.int .u64 r2) := by rw [← hl0]; rfl
  have g16 : l0[16]? = some (.int .u64 r3) := by rw [← hl0]; rfl
  have g22 : l0[22]? = some (.bool ok) := by rw [← hl0]; rfl
  have g23 : l0[23]? = some (.int .u64 val) := by rw [← hl0]; rfl
  have c5 := cell 5 _ g5
  have c6 := cell 6 _ g6
  have c7 := cell 7 _ g7
  have c11 := cell 11 _ g11
  have c12 := cell 12 _ g12
  have c13 := cell 13 _ g13
  have c14 := cell 14 _ g14
  have c15 := cell 15 _ g15
  have c16 := cell 16 _ g16
  have c22 := cell 22 _ g22
  have c23 := cell 23 _ g23
  have G5 := hide g5
  have G6 := hide g6
  have G7 := hide g7
  have G11 := hide g11
  have G12 := hide g12
  have G13 := hide g13
  have G14 := hide g14
  have G15 := hide g15
  have G16 := hide g16
  have G22 := hide g22
  have G23 := hide g23
  obtain ⟨dT, hdT1, hdT2⟩ := row79
  obtain ⟨dS, hdS1, hdS2⟩ := row46
  have HD := hide (And.intro hdT1 (And.intro hdT2 (And.intro hdS1 hdS2)))
  have HR0 := hide R0
  have HR1 := hide R1
  have HR2 := hide R2
  have HG3 := hide G3
  have HSET := hide hset
  have HL0 := hide hl0'
  have b7 : IntKind.u64.wrap (r0 + 1) = nx := by rw [IntKind.wrap_u64]; exact hnx
  clear hx hf' hr hs h0 hmk hta hfr hgi hgi' hmb hmo R0 R1 R2 G3 cell hset hl0' hl0 hl1 hdT1 hdT2 hdS1 hdS2 hnx g5 g6 g7 g11 g12 g13 g14 g15 g16 g22 g23
  simp only [tk0] at hW3
  go_enter Try.func55, Try.ntmps55
  go_wp2_with (first | (go_at_call 66; refine (DO.out _ HR3.out).mono ?_; rintro e w1 ⟨rfl, hr1, hg1⟩; rw [HX.out]; rw [HF.out] at hr1; simp only [Stp.val]; have sz1 := hg1.size; have HR4 := hide (HR0.out.of_block (hg1.block w.heap.size (by omega) (by simp; omega))); have HR5 := hide (HR1.out.of_block (hg1.block (w.heap.size + 1) (by omega) (by simp; omega))); have HR6 := hide (HR2.out.of_block (hg1.block (w.heap.size + 2) (by omega) (by simp; omega))); have HR1' := hide hr1; have HG1 := hide hg1; have e5 : w1.cell? ⟨w.heap.size, 5, none⟩ = some (.int .i64 s5) := (by rw [HR4.out.cell (i := 5) (by omega), lrow_of G5.out]); have f5 := HR4.out.frozen 5; have e6 : w1.cell? ⟨w.heap.size, 6, none⟩ = some (.int .i64 hand) := (by rw [HR4.out.cell (i := 6) (by omega), lrow_of G6.out]); have f6 := HR4.out.frozen 6; have e7 : w1.cell? ⟨w.heap.size, 7, none⟩ = some (.int .i64 1) := (by rw [HR4.out.cell (i := 7) (by omega), lrow_of G7.out]); have f7 := HR4.out.frozen 7; have e11 : w1.cell? ⟨w.heap.size, 11, none⟩ = some (.int .u64 hh) := (by rw [HR4.out.cell (i := 11) (by omega), lrow_of G11.out]); have f11 := HR4.out.frozen 11; have e12 : w1.cell? ⟨w.heap.size, 12, none⟩ = some (.int .i64 2) := (by rw [HR4.out.cell (i := 12) (by omega), lrow_of G12.out]); have f12 := HR4.out.frozen 12; have e13 : w1.cell? ⟨w.heap.size, 13, none⟩ = some (.int .u64 r0) := (by rw [HR4.out.cell (i := 13) (by omega), lrow_of G13.out]); have f13 := HR4.out.frozen 13; have e14 : w1.cell? ⟨w.heap.size, 14, none⟩ = some (.int .u64 r1) := (by rw [HR4.out.cell (i := 14) (by omega), lrow_of G14.out]); have f14 := HR4.out.frozen 14; have e15 : w1.cell? ⟨w.heap.size, 15, none⟩ = some (.int .u64 r2) := (by rw [HR4.out.cell (i := 15) (by omega), lrow_of G15.out]); have f15 := HR4.out.frozen 15; have e16 : w1.cell? ⟨w.heap.size, 16, none⟩ = some (.int .u64 r3) := (by rw [HR4.out.cell (i := 16) (by omega), lrow_of G16.out]); have f16 := HR4.out.frozen 16; have e22 : w1.cell? ⟨w.heap.size, 22, none⟩ = some (.bool ok) := (by rw [HR4.out.cell (i := 22) (by omega), lrow_of G22.out]); have f22 := HR4.out.frozen 22; have e23 : w1.cell? ⟨w.heap.size, 23, none⟩ = some (.int .u64 val) := (by rw [HR4.out.cell (i := 23) (by omega), lrow_of G23.out]); have f23 := HR4.out.frozen 23; have l1w : w.heap.size < w1.heap.size := (by omega); clear hr1 hg1 c5 c6 c7 c11 c12 c13 c14 c15 c16 c22 c23))
  obtain ⟨w2, hw2⟩ : ∃ w2, (w1.setCell ⟨w.heap.size, 12, none⟩ (.int .i64 0)) = w2 := ⟨_, rfl⟩
  have sz2 : w2.heap.size = w1.heap.size := by rw [← hw2]; simp
  have tt2 : Touch w1 w2 (fun k => k = w.heap.size) := by rw [← hw2]; exact (Touch.setCell (S := fun k => k = w.heap.size) (Touch.refl w1 _) ⟨w.heap.size, 12, none⟩ (.inl rfl) _)
  have rA : (w2.alloc (.cells [Value.int .i64 xh, .int .i64 xa, .int .i64 xt, .int .u64 xd, .int .u64 xp, .bool false].toArray 77)).rangeAt w.heap.size 0 l1 := by
    have := rowIs.range (rowIs.setL HR4.out (i := 12) (by simp [HL0.out]) (.int .i64 0)) (by simp [HL0.out])
    rw [HSET.out, hw2] at this
    exact World.rangeAt_alloc this _
  have rB : (w2.alloc (.cells [Value.int .i64 xh, .int .i64 xa, .int .i64 xt, .int .u64 xd, .int .u64 xp, .bool false].toArray 77)).rangeAt w1.heap.size 0 [Value.int .i64 xh, .int .i64 xa, .int .i64 xt, .int .u64 xd, .int .u64 xp, .bool false] := by
    have := rowIs.range (rowL_alloc w2 [Value.int .i64 xh, .int .i64 xa, .int .i64 xt, .int .u64 xd, .int .u64 xp, .bool false] 77 (n := 6) rfl) rfl
    rwa [sz2] at this
  have tC : (w2.alloc (.cells [Value.int .i64 xh, .int .i64 xa, .int .i64 xt, .int .u64 xd, .int .u64 xp, .bool false].toArray 77)).there (w.heap.size + 1) 0 28 := rowIs.there ((HR5.out.of_block (tt2.block _ (by omega) (by omega))).alloc _) (by omega)
  have tD : (w2.alloc (.cells [Value.int .i64 xh, .int .i64 xa, .int .i64 xt, .int .u64 xd, .int .u64 xp, .bool false].toArray 77)).there (w.heap.size + 2) 0 6 := rowIs.there ((HR6.out.of_block (tt2.block _ (by omega) (by omega))).alloc _) (by omega)
  have rW : IsRow (w2.alloc (.cells [Value.int .i64 xh, .int .i64 xa, .int .i64 xt, .int .u64 xd, .int .u64 xp, .bool false].toArray 77)) g n cap f' := (HR1'.out.block (tt2.block g (by omega) (by omega))).alloc _
  have TW : Touch w (w2.alloc (.cells [Value.int .i64 xh, .int .i64 xa, .int .i64 xt, .int .u64 xd, .int .u64 xp, .bool false].toArray 77)) (fun k => k = g) := (((Touch.of_grown HG3.out).mono (S' := fun k => k = g) (fun k _ h => by simpa using h)).trans' (Touch.of_grown HG1.out) (fun k _ h => by simpa using h)).trans' (tt2.alloc _) (fun k hk h => absurd hk (by omega))
  have szA : (w2.alloc (.cells [Value.int .i64 xh, .int .i64 xa, .int .i64 xt, .int .u64 xd, .int .u64 xp, .bool false].toArray 77)).heap.size = w1.heap.size + 1 := by simp [sz2]
  rw [hw2]
  have HTW := hide TW
  have HRW := hide rW
  clear TW rW hw2
  obtain ⟨WA, hWA⟩ : ∃ W, (w2.alloc (.cells [Value.int .i64 xh, .int .i64 xa, .int .i64 xt, .int .u64 xd, .int .u64 xp, .bool false].toArray 77)) = W := ⟨_, rfl⟩
  rw [hWA] at rA rB tC tD szA HTW HRW
  have goA : (w2.alloc (.cells #[Value.int .i64 xh, .int .i64 xa, .int .i64 xt, .int .u64 xd, .int .u64 xp, .bool false] 77)) = WA := hWA
  simp only [goA]
  clear goA hWA
  refine RetN.region (ks := [(0, 93), (1, 94), (4, 6)]) (vals := fun i => match i with
      | 0 => .agg l1.toArray
      | 1 => .agg #[Value.int .i64 xh, .int .i64 xa, .int .i64 xt, .int .u64 xd, .int .u64 xp, .bool false]
      | 4 => .bool false
      | _ => undef) (C := w.heap.size + 1) (E := w.heap.size + 2) (iC := 2) (iE := 3) (lt := l1) (ls := [Value.int .i64 xh, .int .i64 xa, .int .i64 xt, .int .u64 xd, .int .u64 xp, .bool false]) (by kernel_rfl) ?g ?b rfl (by omega) (by decide) ?dd hl1i.out.2 (by simp [Value.oneCell']) (by rw [hl1i.out.1]; exact tC) tD ?kinds ?fin
  case g =>
    intro i o ho
    have hi : i < 5 := by have := (Array.getElem?_eq_some_iff.1 ho).1; simpa using this
    match i, hi with
    | 0, _ | 1, _ | 2, _ | 3, _ | 4, _ => injection ho with ho; subst ho; rfl
  case b =>
    intro i o ho
    have hi : i < 5 := by have := (Array.getElem?_eq_some_iff.1 ho).1; simpa using this
    match i, hi with
    | 0, _ | 1, _ | 2, _ | 3, _ | 4, _ => injection ho with ho; subst ho; simp [Region.binds]
  case dd =>
    intro k hk
    have hk' : k < 153 := by
      simp [RetN.D] at hk
      omega
    simpa using hk'
  case kinds =>
    intro i o ho
    have hi : i < 5 := by have := (Array.getElem?_eq_some_iff.1 ho).1; simpa using this
    match i, hi with
    | 0, _ => injection ho with ho; subst ho; exact .inl ⟨93, _, rfl, rfl, fun L a w' hI hd => ex_load_row rfl (hI.fix 2 (Reg.notD rfl)) (rangeAt_block rA (hI.tch.block _ (by omega) (by omega))) HD.out.1 HD.out.2.1 (by rw [hl1i.out.1]; exact size79)⟩
    | 1, _ => injection ho with ho; subst ho; exact .inl ⟨94, _, rfl, rfl, fun L a w' hI hd => ex_load_row rfl (hI.fix 16 (Reg.notD rfl)) (rangeAt_block rB (hI.tch.block _ (by omega) (by omega))) HD.out.2.2.1 HD.out.2.2.2 size46⟩
    | 2, _ => injection ho with ho; subst ho; exact .inr (.inl ⟨rfl, rfl, _, _, _, rfl, (by rw [hl1i.out.1]; exact size79), fun L a w' hI hd => ⟨hI.fix 4 (Reg.notD rfl), (hI.pure 0 _ _ rfl (hd ⟨0, .data⟩ (by simp) rfl))⟩⟩)
    | 3, _ => injection ho with ho; subst ho; exact .inr (.inr ⟨rfl, rfl, _, _, _, rfl, size46, fun L a w' hI hd => ⟨hI.fix 5 (Reg.notD rfl), (hI.pure 1 _ _ rfl (hd ⟨1, .data⟩ (by simp) rfl))⟩⟩)
    | 4, _ => injection ho with ho; subst ho; exact .inl ⟨6, _, rfl, rfl, fun L a w' hI hd => ex_assign rfl rfl⟩
  case fin =>
    intro L a' w' hI hall
    rename_i K2 hK2
    refine hK2 _ _ ?_
    have rC := hI.sC (hall 2 (by decide))
    have rD := hI.sE (hall 3 (by decide))
    have pC : a'.eval (.tmp 4) = .pointer (some ⟨w.heap.size + 1, 0, none⟩) := hI.fix 4 (Reg.notD rfl)
    have pD : a'.eval (.tmp 5) = .pointer (some ⟨w.heap.size + 2, 0, none⟩) := hI.fix 5 (Reg.notD rfl)
    have pe : a'.eval (.tmp 6) = .bool false := hI.pure 4 6 _ rfl (hall 4 (by decide))
    have tch := hI.tch
    have hdf : a'.defers = [] := hI.df
    have hT := run_loadVar_mid (P := Try.prog) w' (w.heap.size + 1) 0 _ l1 dT rC HD.out.1 HD.out.2.1 (by rw [hl1i.out.1]; exact size79)
    have hS := run_loadVar_mid (P := Try.prog) w' (w.heap.size + 2) 0 _ _ dS rD HD.out.2.2.1 HD.out.2.2.2 size46
    have hres := results_cct (Q := Try.prog) (fn := Try.f55) (tmps := a'.tmps) (t := 4) (t' := 5) (t'' := 6) (W := w') (by rfl) pC hT pD hS
    rw [show a'.tmps.getD 6 undef = .bool false from pe] at hres
    go_wp2
    refine bodyPost_ret (v := .tuple #[.agg l1.toArray, (⟨xh, xa, xt, xd, xp, false⟩ : Stp).val, .bool false]) hres hdf ⟨rfl, HRW.out.block (tch.block g HRW.out.lt (by omega)), ?_⟩
    have := HTW.out.trans' tch (fun k hk h => absurd hk (by omega))
    exact ⟨this.os, this.tape, this.output, this.size, fun k hk hn => this.block k hk (by simpa using hn)⟩

set_option maxHeartbeats 8000000 in
theorem rtake_fetch_true {w : World} {g n cap : Nat} {f f' : Nat → Int} {xh xa xt xd xp : Int} {s0 s1 s2 s3 s4 s5 hand a b c hh r0 r1 r2 r3 val : Int} {ok : Bool} {mk ta fr gi : Int} (hr : IsRow w g n cap f) (hs : 1 ≤ s5 ∧ s5 ≤ 64) (h0 : 0 ≤ r0 ∧ r0 ≤ 18446744073709551615) (hmk : mrk s5 r0 = mk) (hta : mk + s5 = ta) (hfr : fre r0 = fr) (hgi : giv r0 = gi) {nx : Int} (hnx : u64 (r0 + 1) = nx) (hx : stepOf n f ⟨hand, 5, 1, r0, nx, true⟩ = ⟨xh, xa, xt, xd, xp, true⟩) (hf' : wordsOf n f ⟨hand, 5, 1, r0, nx, true⟩ = f') :
    Calls Try.prog 55 #[.agg (tk ⟨s0, s1, s2, s3, s4, s5⟩ hand ⟨2, a, b, c, hh⟩ 2 ⟨r0, r1, r2, r3, 0, 0, 0, 0⟩ ⟨ok, val⟩).toArray, .slice (some ⟨g, 0, none⟩) n cap] w fun e w' =>
      e = .returned (.tuple #[.agg (tk ⟨s0, s1, s2, s3, s4, s5⟩ hand ⟨2, a, b, c, hh⟩ 3 ⟨r0, r1, r2, r3, 0, 0, 0, 0⟩ ⟨ok, val⟩).toArray, (⟨xh, xa, xt, xd, xp, true⟩ : Stp).val, .bool false]) ∧ IsRow w' g n cap f' ∧ w.grownBy w' (some g) := by
  have DO := hide (fun (w' : World) (hr' : IsRow w' g n cap f) => ref_do (s := ⟨hand, 5, 1, r0, nx, true⟩) hr' (by rw [← hnx]; exact ⟨u64_lo _, u64_hi _⟩) ⟨by show (1 : Int) ≤ 5; decide, by show (5 : Int) ≤ 5; decide⟩)
  have HX := hide hx
  have HF := hide hf'
  have lg := hr.lt
  have hmb := mrk_bounds r0 hs.1 hs.2
  have hmo : 0 ≤ r0 % s5 ∧ r0 % s5 < 64 := by unfold mrk at hmb; omega
  have b0 : IntKind.u64.wrap s5 = s5 := by rw [IntKind.wrap_u64]; omega
  have b1 : r0.tmod s5 = r0 % s5 := Int.tmod_eq_emod_of_nonneg h0.1
  have b00 : ¬ s5 = 0 := by omega
  have b2 : wrap64 (r0 % s5) = r0 % s5 := by unfold wrap64; omega
  have b2' : IntKind.i64.wrap (r0 % s5) = r0 % s5 := by rw [IntKind.wrap_i64]; omega
  have b3 : wrap64 (2 + r0 % s5) = mk := by rw [← hmk]; unfold mrk wrap64; omega
  have b4 : wrap64 (mk + s5) = ta := by rw [hmk] at hmb; unfold wrap64; omega
  have b5 : IntKind.u64.wrap (2 * r0) = fr := by rw [IntKind.wrap_u64]; exact hfr
  have hgi' : u64 (fr + 1) = gi := by rw [← hfr, ← hgi]; rfl
  have b6 : IntKind.u64.wrap (fr + 1) = gi := by rw [IntKind.wrap_u64]; exact hgi'
  have HFR := hide hfr
  have HGI := hide hgi'
  obtain ⟨l0, hl0⟩ : ∃ l, tk ⟨s0, s1, s2, s3, s4, s5⟩ hand ⟨2, a, b, c, hh⟩ 2 ⟨r0, r1, r2, r3, 0, 0, 0, 0⟩ ⟨ok, val⟩ = l := ⟨_, rfl⟩
  have hl0' : l0.length = 28 := by rw [← hl0]; rfl
  have hset : ((l0.set 12 (.int .i64 0)).set 12 (.int .i64 3)) = tk ⟨s0, s1, s2, s3, s4, s5⟩ hand ⟨2, a, b, c, hh⟩ 3 ⟨r0, r1, r2, r3, 0, 0, 0, 0⟩ ⟨ok, val⟩ := by rw [← hl0]; rfl
  obtain ⟨l1, hl1⟩ : ∃ l, tk ⟨s0, s1, s2, s3, s4, s5⟩ hand ⟨2, a, b, c, hh⟩ 3 ⟨r0, r1, r2, r3, 0, 0, 0, 0⟩ ⟨ok, val⟩ = l := ⟨_, rfl⟩
  rw [hl0, hl1]
  rw [hl1] at hset
  have hl1i := hide (show IsTk l1 from by rw [← hl1]; exact tk_is _ _ _ _ _ _)
  obtain ⟨W3, hW3⟩ : ∃ W3, ((w.alloc (.cells l0.toArray 64)).alloc (.cells tk0.toArray 64)).alloc (.cells [Value.int .i64 0, .int .i64 0, .int .i64 0, .int .u64 0, .int .u64 0, .bool false].toArray 77) = W3 := ⟨_, rfl⟩
  have sz3 : W3.heap.size = w.heap.size + 3 := by rw [← hW3]; simp
  have R0 : W3.rowIs w.heap.size 64 28 (lrow l0) := by rw [← hW3]; exact ((rowL_alloc w l0 _ hl0').alloc _).alloc _
  have R1 : W3.rowIs (w.heap.size + 1) 64 28 (lrow tk0) := by
    rw [← hW3]
    have := (rowL_alloc (w.alloc (.cells l0.toArray 64)) tk0 64 (n := 28) rfl).alloc (.cells [Value.int .i64 0, .int .i64 0, .int .i64 0, .int .u64 0, .int .u64 0, .bool false].toArray 77)
    rwa [World.size_alloc] at this
  have R2 : W3.rowIs (w.heap.size + 2) 77 6 (lrow [Value.int .i64 0, .int .i64 0, .int .i64 0, .int .u64 0, .int .u64 0, .bool false]) := by
    rw [← hW3]
    have := rowL_alloc ((w.alloc (.cells l0.toArray 64)).alloc (.cells tk0.toArray 64)) [Value.int .i64 0, .int .i64 0, .int .i64 0, .int .u64 0, .int .u64 0, .bool false] 77 (n := 6) rfl
    rwa [World.size_alloc, World.size_alloc] at this
  have G3 : w.grownBy W3 (some g) := by rw [← hW3]; exact grown_alloc (grown_alloc (grown_alloc (grown_refl _ _) _) _) _
  have HR3 := hide (show IsRow W3 g n cap f from hr.grown (grown_none (by rw [← hW3]; exact grown_alloc (grown_alloc (grown_alloc (grown_refl _ _) _) _) _) none) (by simp))
  have cell : ∀ i v, l0[i]? = some v → W3.cell? ⟨w.heap.size, i, none⟩ = some v := fun i v hv => by rw [R0.cell (i := i) (by have := (List.getElem?_eq_some_iff.1 hv).1; omega), lrow_of hv]
  have g5 : l0[5]? = some (.int .i64 s5) := by rw [← hl0]; rfl
  have g6 : l0[6]? = some (.int .i64 hand) := by rw [← hl0]; rfl
  have g7 : l0[7]? = some (.int .i64 2) := by rw [← hl0]; rfl
  have g11 : l0[11]? = some (.int .u64 hh) := by rw [← hl0]; rfl
  have g12 : l0[12]? = some (.int .i64 2) := by rw [← hl0]; rfl
  have g13 : l0[13]? = some (.int .u64 r0) := by rw [← hl0]; rfl
  have g14 : l0[14]? = some (.int .u64 r1) := by rw [← hl0]; rfl
  have g15 : l0[15]? = some (.int .u64 r2) := by rw [← hl0]; rfl
  have g16 : l0[16]? = some (.int .u64 r3) := by rw [← hl0]; rfl
  have g22 : l0[22]? = some (.bool ok) := by rw [← hl0]; rfl
  have g23 : l0[23]? = some (.int .u64 val) := by rw [← hl0]; rfl
  have c5 := cell 5 _ g5
  have c6 := cell 6 _ g6
  have c7 := cell 7 _ g7
  have c11 := cell 11 _ g11
  have c12 := cell 12 _ g12
  have c13 := cell 13 _ g13
  have c14 := cell 14 _ g14
  have c15 := cell 15 _ g15
  have c16 := cell 16 _ g16
  have c22 := cell 22 _ g22
  have c23 := cell 23 _ g23
  have G5 := hide g5
  have G6 := hide g6
  have G7 := hide g7
  have G11 := hide g11
  have G12 := hide g12
  have G13 := hide g13
  have G14 := hide g14
  have G15 := hide g15
  have G16 := hide g16
  have G22 := hide g22
  have G23 := hide g23
  obtain ⟨dT, hdT1, hdT2⟩ := row79
  obtain ⟨dS, hdS1, hdS2⟩ := row46
  have HD := hide (And.intro hdT1 (And.intro hdT2 (And.intro hdS1 hdS2)))
  have HR0 := hide R0
  have HR1 := hide R1
  have HR2 := hide R2
  have HG3 := hide G3
  have HSET := hide hset
  have HL0 := hide hl0'
  have b7 : IntKind.u64.wrap (r0 + 1) = nx := by rw [IntKind.wrap_u64]; exact hnx
  clear hx hf' hr hs h0 hmk hta hfr hgi hgi' hmb hmo R0 R1 R2 G3 cell hset hl0' hl0 hl1 hdT1 hdT2 hdS1 hdS2 hnx g5 g6 g7 g11 g12 g13 g14 g15 g16 g22 g23
  simp only [tk0] at hW3
  go_enter Try.func55, Try.ntmps55
  go_wp2_with (first | (go_at_call 66; refine (DO.out _ HR3.out).mono ?_; rintro e w1 ⟨rfl, hr1, hg1⟩; rw [HX.out]; rw [HF.out] at hr1; simp only [Stp.val]; have sz1 := hg1.size; have HR4 := hide (HR0.out.of_block (hg1.block w.heap.size (by omega) (by simp; omega))); have HR5 := hide (HR1.out.of_block (hg1.block (w.heap.size + 1) (by omega) (by simp; omega))); have HR6 := hide (HR2.out.of_block (hg1.block (w.heap.size + 2) (by omega) (by simp; omega))); have HR1' := hide hr1; have HG1 := hide hg1; have e5 : w1.cell? ⟨w.heap.size, 5, none⟩ = some (.int .i64 s5) := (by rw [HR4.out.cell (i := 5) (by omega), lrow_of G5.out]); have f5 := HR4.out.frozen 5; have e6 : w1.cell? ⟨w.heap.size, 6, none⟩ = some (.int .i64 hand) := (by rw [HR4.out.cell (i := 6) (by omega), lrow_of G6.out]); have f6 := HR4.out.frozen 6; have e7 : w1.cell? ⟨w.heap.size, 7, none⟩ = some (.int .i64 2) := (by rw [HR4.out.cell (i := 7) (by omega), lrow_of G7.out]); have f7 := HR4.out.frozen 7; have e11 : w1.cell? ⟨w.heap.size, 11, none⟩ = some (.int .u64 hh) := (by rw [HR4.out.cell (i := 11) (by omega), lrow_of G11.out]); have f11 := HR4.out.frozen 11; have e12 : w1.cell? ⟨w.heap.size, 12, none⟩ = some (.int .i64 2) := (by rw [HR4.out.cell (i := 12) (by omega), lrow_of G12.out]); have f12 := HR4.out.frozen 12; have e13 : w1.cell? ⟨w.heap.size, 13, none⟩ = some (.int .u64 r0) := (by rw [HR4.out.cell (i := 13) (by omega), lrow_of G13.out]); have f13 := HR4.out.frozen 13; have e14 : w1.cell? ⟨w.heap.size, 14, none⟩ = some (.int .u64 r1) := (by rw [HR4.out.cell (i := 14) (by omega), lrow_of G14.out]); have f14 := HR4.out.frozen 14; have e15 : w1.cell? ⟨w.heap.size, 15, none⟩ = some (.int .u64 r2) := (by rw [HR4.out.cell (i := 15) (by omega), lrow_of G15.out]); have f15 := HR4.out.frozen 15; have e16 : w1.cell? ⟨w.heap.size, 16, none⟩ = some (.int .u64 r3) := (by rw [HR4.out.cell (i := 16) (by omega), lrow_of G16.out]); have f16 := HR4.out.frozen 16; have e22 : w1.cell? ⟨w.heap.size, 22, none⟩ = some (.bool ok) := (by rw [HR4.out.cell (i := 22) (by omega), lrow_of G22.out]); have f22 := HR4.out.frozen 22; have e23 : w1.cell? ⟨w.heap.size, 23, none⟩ = some (.int .u64 val) := (by rw [HR4.out.cell (i := 23) (by omega), lrow_of G23.out]); have f23 := HR4.out.frozen 23; have l1w : w.heap.size < w1.heap.size := (by omega); clear hr1 hg1 c5 c6 c7 c11 c12 c13 c14 c15 c16 c22 c23))
  obtain ⟨w2, hw2⟩ : ∃ w2, ((w1.setCell ⟨w.heap.size, 12, none⟩ (.int .i64 0)).setCell ⟨w.heap.size, 12, none⟩ (.int .i64 3)) = w2 := ⟨_, rfl⟩
  have sz2 : w2.heap.size = w1.heap.size := by rw [← hw2]; simp
  have tt2 : Touch w1 w2 (fun k => k = w.heap.size) := by rw [← hw2]; exact (Touch.setCell (S := fun k => k = w.heap.size) (Touch.setCell (S := fun k => k = w.heap.size) (Touch.refl w1 _) ⟨w.heap.size, 12, none⟩ (.inl rfl) _) ⟨w.heap.size, 12, none⟩ (.inl rfl) _)
  have rA : (w2.alloc (.cells [Value.int .i64 xh, .int .i64 xa, .int .i64 xt, .int .u64 xd, .int .u64 xp, .bool true].toArray 77)).rangeAt w.heap.size 0 l1 := by
    have := rowIs.range (rowIs.setL (rowIs.setL HR4.out (i := 12) (by simp [HL0.out]) (.int .i64 0)) (i := 12) (by simp [HL0.out]) (.int .i64 3)) (by simp [HL0.out])
    rw [HSET.out, hw2] at this
    exact World.rangeAt_alloc this _
  have rB : (w2.alloc (.cells [Value.int .i64 xh, .int .i64 xa, .int .i64 xt, .int .u64 xd, .int .u64 xp, .bool true].toArray 77)).rangeAt w1.heap.size 0 [Value.int .i64 xh, .int .i64 xa, .int .i64 xt, .int .u64 xd, .int .u64 xp, .bool true] := by
    have := rowIs.range (rowL_alloc w2 [Value.int .i64 xh, .int .i64 xa, .int .i64 xt, .int .u64 xd, .int .u64 xp, .bool true] 77 (n := 6) rfl) rfl
    rwa [sz2] at this
  have tC : (w2.alloc (.cells [Value.int .i64 xh, .int .i64 xa, .int .i64 xt, .int .u64 xd, .int .u64 xp, .bool true].toArray 77)).there (w.heap.size + 1) 0 28 := rowIs.there ((HR5.out.of_block (tt2.block _ (by omega) (by omega))).alloc _) (by omega)
  have tD : (w2.alloc (.cells [Value.int .i64 xh, .int .i64 xa, .int .i64 xt, .int .u64 xd, .int .u64 xp, .bool true].toArray 77)).there (w.heap.size + 2) 0 6 := rowIs.there ((HR6.out.of_block (tt2.block _ (by omega) (by omega))).alloc _) (by omega)
  have rW : IsRow (w2.alloc (.cells [Value.int .i64 xh, .int .i64 xa, .int .i64 xt, .int .u64 xd, .int .u64 xp, .bool true].toArray 77)) g n cap f' := (HR1'.out.block (tt2.block g (by omega) (by omega))).alloc _
  have TW : Touch w (w2.alloc (.cells [Value.int .i64 xh, .int .i64 xa, .int .i64 xt, .int .u64 xd, .int .u64 xp, .bool true].toArray 77)) (fun k => k = g) := (((Touch.of_grown HG3.out).mono (S' := fun k => k = g) (fun k _ h => by simpa using h)).trans' (Touch.of_grown HG1.out) (fun k _ h => by simpa using h)).trans' (tt2.alloc _) (fun k hk h => absurd hk (by omega))
  have szA : (w2.alloc (.cells [Value.int .i64 xh, .int .i64 xa, .int .i64 xt, .int .u64 xd, .int .u64 xp, .bool true].toArray 77)).heap.size = w1.heap.size + 1 := by simp [sz2]
  rw [hw2]
  have HTW := hide TW
  have HRW := hide rW
  clear TW rW hw2
  obtain ⟨WA, hWA⟩ : ∃ W, (w2.alloc (.cells [Value.int .i64 xh, .int .i64 xa, .int .i64 xt, .int .u64 xd, .int .u64 xp, .bool true].toArray 77)) = W := ⟨_, rfl⟩
  rw [hWA] at rA rB tC tD szA HTW HRW
  have goA : (w2.alloc (.cells #[Value.int .i64 xh, .int .i64 xa, .int .i64 xt, .int .u64 xd, .int .u64 xp, .bool true] 77)) = WA := hWA
  simp only [goA]
  clear goA hWA
  refine RetN.region (ks := [(0, 93), (1, 94), (4, 6)]) (vals := fun i => match i with
      | 0 => .agg l1.toArray
      | 1 => .agg #[Value.int .i64 xh, .int .i64 xa, .int .i64 xt, .int .u64 xd, .int .u64 xp, .bool true]
      | 4 => .bool false
      | _ => undef) (C := w.heap.size + 1) (E := w.heap.size + 2) (iC := 2) (iE := 3) (lt := l1) (ls := [Value.int .i64 xh, .int .i64 xa, .int .i64 xt, .int .u64 xd, .int .u64 xp, .bool true]) (by kernel_rfl) ?g ?b rfl (by omega) (by decide) ?dd hl1i.out.2 (by simp [Value.oneCell']) (by rw [hl1i.out.1]; exact tC) tD ?kinds ?fin
  case g =>
    intro i o ho
    have hi : i < 5 := by have := (Array.getElem?_eq_some_iff.1 ho).1; simpa using this
    match i, hi with
    | 0, _ | 1, _ | 2, _ | 3, _ | 4, _ => injection ho with ho; subst ho; rfl
  case b =>
    intro i o ho
    have hi : i < 5 := by have := (Array.getElem?_eq_some_iff.1 ho).1; simpa using this
    match i, hi with
    | 0, _ | 1, _ | 2, _ | 3, _ | 4, _ => injection ho with ho; subst ho; simp [Region.binds]
  case dd =>
    intro k hk
    have hk' : k < 153 := by
      simp [RetN.D] at hk
      omega
    simpa using hk'
  case kinds =>
    intro i o ho
    have hi : i < 5 := by have := (Array.getElem?_eq_some_iff.1 ho).1; simpa using this
    match i, hi with
    | 0, _ => injection ho with ho; subst ho; exact .inl ⟨93, _, rfl, rfl, fun L a w' hI hd => ex_load_row rfl (hI.fix 2 (Reg.notD rfl)) (rangeAt_block rA (hI.tch.block _ (by omega) (by omega))) HD.out.1 HD.out.2.1 (by rw [hl1i.out.1]; exact size79)⟩
    | 1, _ => injection ho with ho; subst ho; exact .inl ⟨94, _, rfl, rfl, fun L a w' hI hd => ex_load_row rfl (hI.fix 16 (Reg.notD rfl)) (rangeAt_block rB (hI.tch.block _ (by omega) (by omega))) HD.out.2.2.1 HD.out.2.2.2 size46⟩
    | 2, _ => injection ho with ho; subst ho; exact .inr (.inl ⟨rfl, rfl, _, _, _, rfl, (by rw [hl1i.out.1]; exact size79), fun L a w' hI hd => ⟨hI.fix 4 (Reg.notD rfl), (hI.pure 0 _ _ rfl (hd ⟨0, .data⟩ (by simp) rfl))⟩⟩)
    | 3, _ => injection ho with ho; subst ho; exact .inr (.inr ⟨rfl, rfl, _, _, _, rfl, size46, fun L a w' hI hd => ⟨hI.fix 5 (Reg.notD rfl), (hI.pure 1 _ _ rfl (hd ⟨1, .data⟩ (by simp) rfl))⟩⟩)
    | 4, _ => injection ho with ho; subst ho; exact .inl ⟨6, _, rfl, rfl, fun L a w' hI hd => ex_assign rfl rfl⟩
  case fin =>
    intro L a' w' hI hall
    rename_i K2 hK2
    refine hK2 _ _ ?_
    have rC := hI.sC (hall 2 (by decide))
    have rD := hI.sE (hall 3 (by decide))
    have pC : a'.eval (.tmp 4) = .pointer (some ⟨w.heap.size + 1, 0, none⟩) := hI.fix 4 (Reg.notD rfl)
    have pD : a'.eval (.tmp 5) = .pointer (some ⟨w.heap.size + 2, 0, none⟩) := hI.fix 5 (Reg.notD rfl)
    have pe : a'.eval (.tmp 6) = .bool false := hI.pure 4 6 _ rfl (hall 4 (by decide))
    have tch := hI.tch
    have hdf : a'.defers = [] := hI.df
    have hT := run_loadVar_mid (P := Try.prog) w' (w.heap.size + 1) 0 _ l1 dT rC HD.out.1 HD.out.2.1 (by rw [hl1i.out.1]; exact size79)
    have hS := run_loadVar_mid (P := Try.prog) w' (w.heap.size + 2) 0 _ _ dS rD HD.out.2.2.1 HD.out.2.2.2 size46
    have hres := results_cct (Q := Try.prog) (fn := Try.f55) (tmps := a'.tmps) (t := 4) (t' := 5) (t'' := 6) (W := w') (by rfl) pC hT pD hS
    rw [show a'.tmps.getD 6 undef = .bool false from pe] at hres
    go_wp2
    refine bodyPost_ret (v := .tuple #[.agg l1.toArray, (⟨xh, xa, xt, xd, xp, true⟩ : Stp).val, .bool false]) hres hdf ⟨rfl, HRW.out.block (tch.block g HRW.out.lt (by omega)), ?_⟩
    have := HTW.out.trans' tch (fun k hk h => absurd hk (by omega))
    exact ⟨this.os, this.tape, this.output, this.size, fun k hk hn => this.block k hk (by simpa using hn)⟩

set_option maxHeartbeats 8000000 in
theorem rtake_fetch_false {w : World} {g n cap : Nat} {f f' : Nat → Int} {xh xa xt xd xp : Int} {s0 s1 s2 s3 s4 s5 hand a b c hh r0 r1 r2 r3 val : Int} {ok : Bool} {mk ta fr gi : Int} (hr : IsRow w g n cap f) (hs : 1 ≤ s5 ∧ s5 ≤ 64) (h0 : 0 ≤ r0 ∧ r0 ≤ 18446744073709551615) (hmk : mrk s5 r0 = mk) (hta : mk + s5 = ta) (hfr : fre r0 = fr) (hgi : giv r0 = gi) {nx : Int} (hnx : u64 (r0 + 1) = nx) (hx : stepOf n f ⟨hand, 5, 1, r0, nx, true⟩ = ⟨xh, xa, xt, xd, xp, false⟩) (hf' : wordsOf n f ⟨hand, 5, 1, r0, nx, true⟩ = f') :
    Calls Try.prog 55 #[.agg (tk ⟨s0, s1, s2, s3, s4, s5⟩ hand ⟨2, a, b, c, hh⟩ 2 ⟨r0, r1, r2, r3, 0, 0, 0, 0⟩ ⟨ok, val⟩).toArray, .slice (some ⟨g, 0, none⟩) n cap] w fun e w' =>
      e = .returned (.tuple #[.agg (tk ⟨s0, s1, s2, s3, s4, s5⟩ hand ⟨2, a, b, c, hh⟩ 0 ⟨r0, r1, r2, r3, 0, 0, 0, 0⟩ ⟨ok, val⟩).toArray, (⟨xh, xa, xt, xd, xp, false⟩ : Stp).val, .bool false]) ∧ IsRow w' g n cap f' ∧ w.grownBy w' (some g) := by
  have DO := hide (fun (w' : World) (hr' : IsRow w' g n cap f) => ref_do (s := ⟨hand, 5, 1, r0, nx, true⟩) hr' (by rw [← hnx]; exact ⟨u64_lo _, u64_hi _⟩) ⟨by show (1 : Int) ≤ 5; decide, by show (5 : Int) ≤ 5; decide⟩)
  have HX := hide hx
  have HF := hide hf'
  have lg := hr.lt
  have hmb := mrk_bounds r0 hs.1 hs.2
  have hmo : 0 ≤ r0 % s5 ∧ r0 % s5 < 64 := by unfold mrk at hmb; omega
  have b0 : IntKind.u64.wrap s5 = s5 := by rw [IntKind.wrap_u64]; omega
  have b1 : r0.tmod s5 = r0 % s5 := Int.tmod_eq_emod_of_nonneg h0.1
  have b00 : ¬ s5 = 0 := by omega
  have b2 : wrap64 (r0 % s5) = r0 % s5 := by unfold wrap64; omega
  have b2' : IntKind.i64.wrap (r0 % s5) = r0 % s5 := by rw [IntKind.wrap_i64]; omega
  have b3 : wrap64 (2 + r0 % s5) = mk := by rw [← hmk]; unfold mrk wrap64; omega
  have b4 : wrap64 (mk + s5) = ta := by rw [hmk] at hmb; unfold wrap64; omega
  have b5 : IntKind.u64.wrap (2 * r0) = fr := by rw [IntKind.wrap_u64]; exact hfr
  have hgi' : u64 (fr + 1) = gi := by rw [← hfr, ← hgi]; rfl
  have b6 : IntKind.u64.wrap (fr + 1) = gi := by rw [IntKind.wrap_u64]; exact hgi'
  have HFR := hide hfr
  have HGI := hide hgi'
  obtain ⟨l0, hl0⟩ : ∃ l, tk ⟨s0, s1, s2, s3, s4, s5⟩ hand ⟨2, a, b, c, hh⟩ 2 ⟨r0, r1, r2, r3, 0, 0, 0, 0⟩ ⟨ok, val⟩ = l := ⟨_, rfl⟩
  have hl0' : l0.length = 28 := by rw [← hl0]; rfl
  have hset : (l0.set 12 (.int .i64 0)) = tk ⟨s0, s1, s2, s3, s4, s5⟩ hand ⟨2, a, b, c, hh⟩ 0 ⟨r0, r1, r2, r3, 0, 0, 0, 0⟩ ⟨ok, val⟩ := by rw [← hl0]; rfl
  obtain ⟨l1, hl1⟩ : ∃ l, tk ⟨s0, s1, s2, s3, s4, s5⟩ hand ⟨2, a, b, c, hh⟩ 0 ⟨r0, r1, r2, r3, 0, 0, 0, 0⟩ ⟨ok, val⟩ = l := ⟨_, rfl⟩
  rw [hl0, hl1]
  rw [hl1] at hset
  have hl1i := hide (show IsTk l1 from by rw [← hl1]; exact tk_is _ _ _ _ _ _)
  obtain ⟨W3, hW3⟩ : ∃ W3, ((w.alloc (.cells l0.toArray 64)).alloc (.cells tk0.toArray 64)).alloc (.cells [Value.int .i64 0, .int .i64 0, .int .i64 0, .int .u64 0, .int .u64 0, .bool false].toArray 77) = W3 := ⟨_, rfl⟩
  have sz3 : W3.heap.size = w.heap.size + 3 := by rw [← hW3]; simp
  have R0 : W3.rowIs w.heap.size 64 28 (lrow l0) := by rw [← hW3]; exact ((rowL_alloc w l0 _ hl0').alloc _).alloc _
  have R1 : W3.rowIs (w.heap.size + 1) 64 28 (lrow tk0) := by
    rw [← hW3]
    have := (rowL_alloc (w.alloc (.cells l0.toArray 64)) tk0 64 (n := 28) rfl).alloc (.cells [Value.int .i64 0, .int .i64 0, .int .i64 0, .int .u64 0, .int .u64 0, .bool false].toArray 77)
    rwa [World.size_alloc] at this
  have R2 : W3.rowIs (w.heap.size + 2) 77 6 (lrow [Value.int .i64 0, .int .i64 0, .int .i64 0, .int .u64 0, .int .u64 0, .bool false]) := by
    rw [← hW3]
    have := rowL_alloc ((w.alloc (.cells l0.toArray 64)).alloc (.cells tk0.toArray 64)) [Value.int .i64 0, .int .i64 0, .int .i64 0, .int .u64 0, .int .u64 0, .bool false] 77 (n := 6) rfl
    rwa [World.size_alloc, World.size_alloc] at this
  have G3 : w.grownBy W3 (some g) := by rw [← hW3]; exact grown_alloc (grown_alloc (grown_alloc (grown_refl _ _) _) _) _
  have HR3 := hide (show IsRow W3 g n cap f from hr.grown (grown_none (by rw [← hW3]; exact grown_alloc (grown_alloc (grown_alloc (grown_refl _ _) _) _) _) none) (by simp))
  have cell : ∀ i v, l0[i]? = some v → W3.cell? ⟨w.heap.size, i, none⟩ = some v := fun i v hv => by rw [R0.cell (i := i) (by have := (List.getElem?_eq_some_iff.1 hv).1; omega), lrow_of hv]
  have g5 : l0[5]? = some (.int .i64 s5) := by rw [← hl0]; rfl
  have g6 : l0[6]? = some (.int .i64 hand) := by rw [← hl0]; rfl
  have g7 : l0[7]? = some (.int .i64 2) := by rw [← hl0]; rfl
  have g11 : l0[11]? = some (.int .u64 hh) := by rw [← hl0]; rfl
  have g12 : l0[12]? = some (.int .i64 2) := by rw [← hl0]; rfl
  have g13 : l0[13]? = some (.int .u64 r0) := by rw [← hl0]; rfl
  have g14 : l0[14]? = some (.int .u64 r1) := by rw [← hl0]; rfl
  have g15 : l0[15]? = some (.int .u64 r2) := by rw [← hl0]; rfl
  have g16 : l0[16]? = some (.int .u64 r3) := by rw [← hl0]; rfl
  have g22 : l0[22]? = some (.bool ok) := by rw [← hl0]; rfl
  have g23 : l0[23]? = some (.int .u64 val) := by rw [← hl0]; rfl
  have c5 := cell 5 _ g5
  have c6 := cell 6 _ g6
  have c7 := cell 7 _ g7
  have c11 := cell 11 _ g11
  have c12 := cell 12 _ g12
  have c13 := cell 13 _ g13
  have c14 := cell 14 _ g14
  have c15 := cell 15 _ g15
  have c16 := cell 16 _ g16
  have c22 := cell 22 _ g22
  have c23 := cell 23 _ g23
  have G5 := hide g5
  have G6 := hide g6
  have G7 := hide g7
  have G11 := hide g11
  have G12 := hide g12
  have G13 := hide g13
  have G14 := hide g14
  have G15 := hide g15
  have G16 := hide g16
  have G22 := hide g22
  have G23 := hide g23
  obtain ⟨dT, hdT1, hdT2⟩ := row79
  obtain ⟨dS, hdS1, hdS2⟩ := row46
  have HD := hide (And.intro hdT1 (And.intro hdT2 (And.intro hdS1 hdS2)))
  have HR0 := hide R0
  have HR1 := hide R1
  have HR2 := hide R2
  have HG3 := hide G3
  have HSET := hide hset
  have HL0 := hide hl0'
  have b7 : IntKind.u64.wrap (r0 + 1) = nx := by rw [IntKind.wrap_u64]; exact hnx
  clear hx hf' hr hs h0 hmk hta hfr hgi hgi' hmb hmo R0 R1 R2 G3 cell hset hl0' hl0 hl1 hdT1 hdT2 hdS1 hdS2 hnx g5 g6 g7 g11 g12 g13 g14 g15 g16 g22 g23
  simp only [tk0] at hW3
  go_enter Try.func55, Try.ntmps55
  go_wp2_with (first | (go_at_call 66; refine (DO.out _ HR3.out).mono ?_; rintro e w1 ⟨rfl, hr1, hg1⟩; rw [HX.out]; rw [HF.out] at hr1; simp only [Stp.val]; have sz1 := hg1.size; have HR4 := hide (HR0.out.of_block (hg1.block w.heap.size (by omega) (by simp; omega))); have HR5 := hide (HR1.out.of_block (hg1.block (w.heap.size + 1) (by omega) (by simp; omega))); have HR6 := hide (HR2.out.of_block (hg1.block (w.heap.size + 2) (by omega) (by simp; omega))); have HR1' := hide hr1; have HG1 := hide hg1; have e5 : w1.cell? ⟨w.heap.size, 5, none⟩ = some (.int .i64 s5) := (by rw [HR4.out.cell (i := 5) (by omega), lrow_of G5.out]); have f5 := HR4.out.frozen 5; have e6 : w1.cell? ⟨w.heap.size, 6, none⟩ = some (.int .i64 hand) := (by rw [HR4.out.cell (i := 6) (by omega), lrow_of G6.out]); have f6 := HR4.out.frozen 6; have e7 : w1.cell? ⟨w.heap.size, 7, none⟩ = some (.int .i64 2) := (by rw [HR4.out.cell (i := 7) (by omega), lrow_of G7.out]); have f7 := HR4.out.frozen 7; have e11 : w1.cell? ⟨w.heap.size, 11, none⟩ = some (.int .u64 hh) := (by rw [HR4.out.cell (i := 11) (by omega), lrow_of G11.out]); have f11 := HR4.out.frozen 11; have e12 : w1.cell? ⟨w.heap.size, 12, none⟩ = some (.int .i64 2) := (by rw [HR4.out.cell (i := 12) (by omega), lrow_of G12.out]); have f12 := HR4.out.frozen 12; have e13 : w1.cell? ⟨w.heap.size, 13, none⟩ = some (.int .u64 r0) := (by rw [HR4.out.cell (i := 13) (by omega), lrow_of G13.out]); have f13 := HR4.out.frozen 13; have e14 : w1.cell? ⟨w.heap.size, 14, none⟩ = some (.int .u64 r1) := (by rw [HR4.out.cell (i := 14) (by omega), lrow_of G14.out]); have f14 := HR4.out.frozen 14; have e15 : w1.cell? ⟨w.heap.size, 15, none⟩ = some (.int .u64 r2) := (by rw [HR4.out.cell (i := 15) (by omega), lrow_of G15.out]); have f15 := HR4.out.frozen 15; have e16 : w1.cell? ⟨w.heap.size, 16, none⟩ = some (.int .u64 r3) := (by rw [HR4.out.cell (i := 16) (by omega), lrow_of G16.out]); have f16 := HR4.out.frozen 16; have e22 : w1.cell? ⟨w.heap.size, 22, none⟩ = some (.bool ok) := (by rw [HR4.out.cell (i := 22) (by omega), lrow_of G22.out]); have f22 := HR4.out.frozen 22; have e23 : w1.cell? ⟨w.heap.size, 23, none⟩ = some (.int .u64 val) := (by rw [HR4.out.cell (i := 23) (by omega), lrow_of G23.out]); have f23 := HR4.out.frozen 23; have l1w : w.heap.size < w1.heap.size := (by omega); clear hr1 hg1 c5 c6 c7 c11 c12 c13 c14 c15 c16 c22 c23))
  obtain ⟨w2, hw2⟩ : ∃ w2, (w1.setCell ⟨w.heap.size, 12, none⟩ (.int .i64 0)) = w2 := ⟨_, rfl⟩
  have sz2 : w2.heap.size = w1.heap.size := by rw [← hw2]; simp
  have tt2 : Touch w1 w2 (fun k => k = w.heap.size) := by rw [← hw2]; exact (Touch.setCell (S := fun k => k = w.heap.size) (Touch.refl w1 _) ⟨w.heap.size, 12, none⟩ (.inl rfl) _)
  have rA : (w2.alloc (.cells [Value.int .i64 xh, .int .i64 xa, .int .i64 xt, .int .u64 xd, .int .u64 xp, .bool false].toArray 77)).rangeAt w.heap.size 0 l1 := by
    have := rowIs.range (rowIs.setL HR4.out (i := 12) (by simp [HL0.out]) (.int .i64 0)) (by simp [HL0.out])
    rw [HSET.out, hw2] at this
    exact World.rangeAt_alloc this _
  have rB : (w2.alloc (.cells [Value.int .i64 xh, .int .i64 xa, .int .i64 xt, .int .u64 xd, .int .u64 xp, .bool false].toArray 77)).rangeAt w1.heap.size 0 [Value.int .i64 xh, .int .i64 xa, .int .i64 xt, .int .u64 xd, .int .u64 xp, .bool false] := by
    have := rowIs.range (rowL_alloc w2 [Value.int .i64 xh, .int .i64 xa, .int .i64 xt, .int .u64 xd, .int .u64 xp, .bool false] 77 (n := 6) rfl) rfl
    rwa [sz2] at this
  have tC : (w2.alloc (.cells [Value.int .i64 xh, .int .i64 xa, .int .i64 xt, .int .u64 xd, .int .u64 xp, .bool false].toArray 77)).there (w.heap.size + 1) 0 28 := rowIs.there ((HR5.out.of_block (tt2.block _ (by omega) (by omega))).alloc _) (by omega)
  have tD : (w2.alloc (.cells [Value.int .i64 xh, .int .i64 xa, .int .i64 xt, .int .u64 xd, .int .u64 xp, .bool false].toArray 77)).there (w.heap.size + 2) 0 6 := rowIs.there ((HR6.out.of_block (tt2.block _ (by omega) (by omega))).alloc _) (by omega)
  have rW : IsRow (w2.alloc (.cells [Value.int .i64 xh, .int .i64 xa, .int .i64 xt, .int .u64 xd, .int .u64 xp, .bool false].toArray 77)) g n cap f' := (HR1'.out.block (tt2.block g (by omega) (by omega))).alloc _
  have TW : Touch w (w2.alloc (.cells [Value.int .i64 xh, .int .i64 xa, .int .i64 xt, .int .u64 xd, .int .u64 xp, .bool false].toArray 77)) (fun k => k = g) := (((Touch.of_grown HG3.out).mono (S' := fun k => k = g) (fun k _ h => by simpa using h)).trans' (Touch.of_grown HG1.out) (fun k _ h => by simpa using h)).trans' (tt2.alloc _) (fun k hk h => absurd hk (by omega))
  have szA : (w2.alloc (.cells [Value.int .i64 xh, .int .i64 xa, .int .i64 xt, .int .u64 xd, .int .u64 xp, .bool false].toArray 77)).heap.size = w1.heap.size + 1 := by simp [sz2]
  rw [hw2]
  have HTW := hide TW
  have HRW := hide rW
  clear TW rW hw2
  obtain ⟨WA, hWA⟩ : ∃ W, (w2.alloc (.cells [Value.int .i64 xh, .int .i64 xa, .int .i64 xt, .int .u64 xd, .int .u64 xp, .bool false].toArray 77)) = W := ⟨_, rfl⟩
  rw [hWA] at rA rB tC tD szA HTW HRW
  have goA : (w2.alloc (.cells #[Value.int .i64 xh, .int .i64 xa, .int .i64 xt, .int .u64 xd, .int .u64 xp, .bool false] 77)) = WA := hWA
  simp only [goA]
  clear goA hWA
  refine RetN.region (ks := [(0, 93), (1, 94), (4, 6)]) (vals := fun i => match i with
      | 0 => .agg l1.toArray
      | 1 => .agg #[Value.int .i64 xh, .int .i64 xa, .int .i64 xt, .int .u64 xd, .int .u64 xp, .bool false]
      | 4 => .bool false
      | _ => undef) (C := w.heap.size + 1) (E := w.heap.size + 2) (iC := 2) (iE := 3) (lt := l1) (ls := [Value.int .i64 xh, .int .i64 xa, .int .i64 xt, .int .u64 xd, .int .u64 xp, .bool false]) (by kernel_rfl) ?g ?b rfl (by omega) (by decide) ?dd hl1i.out.2 (by simp [Value.oneCell']) (by rw [hl1i.out.1]; exact tC) tD ?kinds ?fin
  case g =>
    intro i o ho
    have hi : i < 5 := by have := (Array.getElem?_eq_some_iff.1 ho).1; simpa using this
    match i, hi with
    | 0, _ | 1, _ | 2, _ | 3, _ | 4, _ => injection ho with ho; subst ho; rfl
  case b =>
    intro i o ho
    have hi : i < 5 := by have := (Array.getElem?_eq_some_iff.1 ho).1; simpa using this
    match i, hi with
    | 0, _ | 1, _ | 2, _ | 3, _ | 4, _ => injection ho with ho; subst ho; simp [Region.binds]
  case dd =>
    intro k hk
    have hk' : k < 153 := by
      simp [RetN.D] at hk
      omega
    simpa using hk'
  case kinds =>
    intro i o ho
    have hi : i < 5 := by have := (Array.getElem?_eq_some_iff.1 ho).1; simpa using this
    match i, hi with
    | 0, _ => injection ho with ho; subst ho; exact .inl ⟨93, _, rfl, rfl, fun L a w' hI hd => ex_load_row rfl (hI.fix 2 (Reg.notD rfl)) (rangeAt_block rA (hI.tch.block _ (by omega) (by omega))) HD.out.1 HD.out.2.1 (by rw [hl1i.out.1]; exact size79)⟩
    | 1, _ => injection ho with ho; subst ho; exact .inl ⟨94, _, rfl, rfl, fun L a w' hI hd => ex_load_row rfl (hI.fix 16 (Reg.notD rfl)) (rangeAt_block rB (hI.tch.block _ (by omega) (by omega))) HD.out.2.2.1 HD.out.2.2.2 size46⟩
    | 2, _ => injection ho with ho; subst ho; exact .inr (.inl ⟨rfl, rfl, _, _, _, rfl, (by rw [hl1i.out.1]; exact size79), fun L a w' hI hd => ⟨hI.fix 4 (Reg.notD rfl), (hI.pure 0 _ _ rfl (hd ⟨0, .data⟩ (by simp) rfl))⟩⟩)
    | 3, _ => injection ho with ho; subst ho; exact .inr (.inr ⟨rfl, rfl, _, _, _, rfl, size46, fun L a w' hI hd => ⟨hI.fix 5 (Reg.notD rfl), (hI.pure 1 _ _ rfl (hd ⟨1, .data⟩ (by simp) rfl))⟩⟩)
    | 4, _ => injection ho with ho; subst ho; exact .inl ⟨6, _, rfl, rfl, fun L a w' hI hd => ex_assign rfl rfl⟩
  case fin =>
    intro L a' w' hI hall
    rename_i K2 hK2
    refine hK2 _ _ ?_
    have rC := hI.sC (hall 2 (by decide))
    have rD := hI.sE (hall 3 (by decide))
    have pC : a'.eval (.tmp 4) = .pointer (some ⟨w.heap.size + 1, 0, none⟩) := hI.fix 4 (Reg.notD rfl)
    have pD : a'.eval (.tmp 5) = .pointer (some ⟨w.heap.size + 2, 0, none⟩) := hI.fix 5 (Reg.notD rfl)
    have pe : a'.eval (.tmp 6) = .bool false := hI.pure 4 6 _ rfl (hall 4 (by decide))
    have tch := hI.tch
    have hdf : a'.defers = [] := hI.df
    have hT := run_loadVar_mid (P := Try.prog) w' (w.heap.size + 1) 0 _ l1 dT rC HD.out.1 HD.out.2.1 (by rw [hl1i.out.1]; exact size79)
    have hS := run_loadVar_mid (P := Try.prog) w' (w.heap.size + 2) 0 _ _ dS rD HD.out.2.2.1 HD.out.2.2.2 size46
    have hres := results_cct (Q := Try.prog) (fn := Try.f55) (tmps := a'.tmps) (t := 4) (t' := 5) (t'' := 6) (W := w') (by rfl) pC hT pD hS
    rw [show a'.tmps.getD 6 undef = .bool false from pe] at hres
    go_wp2
    refine bodyPost_ret (v := .tuple #[.agg l1.toArray, (⟨xh, xa, xt, xd, xp, false⟩ : Stp).val, .bool false]) hres hdf ⟨rfl, HRW.out.block (tch.block g HRW.out.lt (by omega)), ?_⟩
    have := HTW.out.trans' tch (fun k hk h => absurd hk (by omega))
    exact ⟨this.os, this.tape, this.output, this.size, fun k hk hn => this.block k hk (by simpa using hn)⟩

set_option maxHeartbeats 8000000 in
theorem rtouch_fetch {w : World} {g n cap : Nat} {f f' : Nat → Int} {x : Stp} {s0 s1 s2 s3 s4 s5 hand a b c hh r0 r1 r2 r3 val : Int} {ok : Bool} {mk ta fr gi : Int} (hr : IsRow w g n cap f) (hs : 1 ≤ s5 ∧ s5 ≤ 64) (h0 : 0 ≤ r0 ∧ r0 ≤ 18446744073709551615) (hmk : mrk s5 r0 = mk) (hta : mk + s5 = ta) (hfr : fre r0 = fr) (hgi : giv r0 = gi)  (hx : stepOf n f ⟨hand, 1, ta, 0, 0, true⟩ = x) (hf' : wordsOf n f ⟨hand, 1, ta, 0, 0, true⟩ = f') :
    Calls Try.prog 55 #[.agg (tk ⟨s0, s1, s2, s3, s4, s5⟩ hand ⟨2, a, b, c, hh⟩ 3 ⟨r0, r1, r2, r3, 0, 0, 0, 0⟩ ⟨ok, val⟩).toArray, .slice (some ⟨g, 0, none⟩) n cap] w fun e w' =>
      e = .returned (.tuple #[.agg (tk ⟨s0, s1, s2, s3, s4, s5⟩ hand ⟨2, a, b, c, hh⟩ 4 ⟨r0, x.had, r2, r3, 0, 0, 0, 0⟩ ⟨ok, val⟩).toArray, x.val, .bool false]) ∧ IsRow w' g n cap f' ∧ w.grownBy w' (some g) := by
  have DO := hide (fun (w' : World) (hr' : IsRow w' g n cap f) => ref_do (s := ⟨hand, 1, ta, 0, 0, true⟩) hr' ⟨Int.le_refl 0, by show (0 : Int) ≤ 18446744073709551615; decide⟩ ⟨by show (1 : Int) ≤ 1; decide, by show (1 : Int) ≤ 5; decide⟩)
  have HX := hide hx
  have HF := hide hf'
  have lg := hr.lt
  have hmb := mrk_bounds r0 hs.1 hs.2
  have hmo : 0 ≤ r0 % s5 ∧ r0 % s5 < 64 := by unfold mrk at hmb; omega
  have b0 : IntKind.u64.wrap s5 = s5 := by rw [IntKind.wrap_u64]; omega
  have b1 : r0.tmod s5 = r0 % s5 := Int.tmod_eq_emod_of_nonneg h0.1
  have b00 : ¬ s5 = 0 := by omega
  have b2 : wrap64 (r0 % s5) = r0 % s5 := by unfold wrap64; omega
  have b2' : IntKind.i64.wrap (r0 % s5) = r0 % s5 := by rw [IntKind.wrap_i64]; omega
  have b3 : wrap64 (2 + r0 % s5) = mk := by rw [← hmk]; unfold mrk wrap64; omega
  have b4 : wrap64 (mk + s5) = ta := by rw [hmk] at hmb; unfold wrap64; omega
  have b5 : IntKind.u64.wrap (2 * r0) = fr := by rw [IntKind.wrap_u64]; exact hfr
  have hgi' : u64 (fr + 1) = gi := by rw [← hfr, ← hgi]; rfl
  have b6 : IntKind.u64.wrap (fr + 1) = gi := by rw [IntKind.wrap_u64]; exact hgi'
  have HFR := hide hfr
  have HGI := hide hgi'
  obtain ⟨l0, hl0⟩ : ∃ l, tk ⟨s0, s1, s2, s3, s4, s5⟩ hand ⟨2, a, b, c, hh⟩ 3 ⟨r0, r1, r2, r3, 0, 0, 0, 0⟩ ⟨ok, val⟩ = l := ⟨_, rfl⟩
  have hl0' : l0.length = 28 := by rw [← hl0]; rfl
  have hset : ((l0.set 12 (.int .i64 4)).set 14 (.int .u64 x.had)) = tk ⟨s0, s1, s2, s3, s4, s5⟩ hand ⟨2, a, b, c, hh⟩ 4 ⟨r0, x.had, r2, r3, 0, 0, 0, 0⟩ ⟨ok, val⟩ := by rw [← hl0]; rfl
  obtain ⟨l1, hl1⟩ : ∃ l, tk ⟨s0, s1, s2, s3, s4, s5⟩ hand ⟨2, a, b, c, hh⟩ 4 ⟨r0, x.had, r2, r3, 0, 0, 0, 0⟩ ⟨ok, val⟩ = l := ⟨_, rfl⟩
  rw [hl0, hl1]
  rw [hl1] at hset
  have hl1i := hide (show IsTk l1 from by rw [← hl1]; exact tk_is _ _ _ _ _ _)
  obtain ⟨W3, hW3⟩ : ∃ W3, ((w.alloc (.cells l0.toArray 64)).alloc (.cells tk0.toArray 64)).alloc (.cells [Value.int .i64 0, .int .i64 0, .int .i64 0, .int .u64 0, .int .u64 0, .bool false].toArray 77) = W3 := ⟨_, rfl⟩
  have sz3 : W3.heap.size = w.heap.size + 3 := by rw [← hW3]; simp
  have R0 : W3.rowIs w.heap.size 64 28 (lrow l0) := by rw [← hW3]; exact ((rowL_alloc w l0 _ hl0').alloc _).alloc _
  have R1 : W3.rowIs (w.heap.size + 1) 64 28 (lrow tk0) := by
    rw [← hW3]
    have := (rowL_alloc (w.alloc (.cells l0.toArray 64)) tk0 64 (n := 28) rfl).alloc (.cells [Value.int .i64 0, .int .i64 0, .int .i64 0, .int .u64 0, .int .u64 0, .bool false].toArray 77)
    rwa [World.size_alloc] at this
  have R2 : W3.rowIs (w.heap.size + 2) 77 6 (lrow [Value.int .i64 0, .int .i64 0, .int .i64 0, .int .u64 0, .int .u64 0, .bool false]) := by
    rw [← hW3]
    have := rowL_alloc ((w.alloc (.cells l0.toArray 64)).alloc (.cells tk0.toArray 64)) [Value.int .i64 0, .int .i64 0, .int .i64 0, .int .u64 0, .int .u64 0, .bool false] 77 (n := 6) rfl
    rwa [World.size_alloc, World.size_alloc] at this
  have G3 : w.grownBy W3 (some g) := by rw [← hW3]; exact grown_alloc (grown_alloc (grown_alloc (grown_refl _ _) _) _) _
  have HR3 := hide (show IsRow W3 g n cap f from hr.grown (grown_none (by rw [← hW3]; exact grown_alloc (grown_alloc (grown_alloc (grown_refl _ _) _) _) _) none) (by simp))
  have cell : ∀ i v, l0[i]? = some v → W3.cell? ⟨w.heap.size, i, none⟩ = some v := fun i v hv => by rw [R0.cell (i := i) (by have := (List.getElem?_eq_some_iff.1 hv).1; omega), lrow_of hv]
  have g5 : l0[5]? = some (.int .i64 s5) := by rw [← hl0]; rfl
  have g6 : l0[6]? = some (.int .i64 hand) := by rw [← hl0]; rfl
  have g7 : l0[7]? = some (.int .i64 2) := by rw [← hl0]; rfl
  have g11 : l0[11]? = some (.int .u64 hh) := by rw [← hl0]; rfl
  have g12 : l0[12]? = some (.int .i64 3) := by rw [← hl0]; rfl
  have g13 : l0[13]? = some (.int .u64 r0) := by rw [← hl0]; rfl
  have g14 : l0[14]? = some (.int .u64 r1) := by rw [← hl0]; rfl
  have g15 : l0[15]? = some (.int .u64 r2) := by rw [← hl0]; rfl
  have g16 : l0[16]? = some (.int .u64 r3) := by rw [← hl0]; rfl
  have g22 : l0[22]? = some (.bool ok) := by rw [← hl0]; rfl
  have g23 : l0[23]? = some (.int .u64 val) := by rw [← hl0]; rfl
  have c5 := cell 5 _ g5
  have c6 := cell 6 _ g6
  have c7 := cell 7 _ g7
  have c11 := cell 11 _ g11
  have c12 := cell 12 _ g12
  have c13 := cell 13 _ g13
  have c14 := cell 14 _ g14
  have c15 := cell 15 _ g15
  have c16 := cell 16 _ g16
  have c22 := cell 22 _ g22
  have c23 := cell 23 _ g23
  have G5 := hide g5
  have G6 := hide g6
  have G7 := hide g7
  have G11 := hide g11
  have G12 := hide g12
  have G13 := hide g13
  have G14 := hide g14
  have G15 := hide g15
  have G16 := hide g16
  have G22 := hide g22
  have G23 := hide g23
  obtain ⟨dT, hdT1, hdT2⟩ := row79
  obtain ⟨dS, hdS1, hdS2⟩ := row46
  have HD := hide (And.intro hdT1 (And.intro hdT2 (And.intro hdS1 hdS2)))
  have HR0 := hide R0
  have HR1 := hide R1
  have HR2 := hide R2
  have HG3 := hide G3
  have HSET := hide hset
  have HL0 := hide hl0'
  clear hx hf' hr hs h0 hmk hta hfr hgi hgi' hmb hmo R0 R1 R2 G3 cell hset hl0' hl0 hl1 hdT1 hdT2 hdS1 hdS2  g5 g6 g7 g11 g12 g13 g14 g15 g16 g22 g23
  simp only [tk0] at hW3
  have fz12 := HR0.out.frozen 12
  obtain ⟨la, hla⟩ : ∃ l, (l0.set 12 (.int .i64 4)) = l := ⟨_, rfl⟩
  have HLA := hide (show la.length = 28 from by rw [← hla]; simpa using HL0.out)
  have GA5 := hide (show la[5]? = some (.int .i64 s5) from by rw [← hla]; simp [G5.out])
  have GA6 := hide (show la[6]? = some (.int .i64 hand) from by rw [← hla]; simp [G6.out])
  have GA7 := hide (show la[7]? = some (.int .i64 2) from by rw [← hla]; simp [G7.out])
  have GA11 := hide (show la[11]? = some (.int .u64 hh) from by rw [← hla]; simp [G11.out])
  have GA12 := hide (show la[12]? = some (.int .i64 4) from by rw [← hla]; simp [HL0.out])
  have GA13 := hide (show la[13]? = some (.int .u64 r0) from by rw [← hla]; simp [G13.out])
  have GA14 := hide (show la[14]? = some (.int .u64 r1) from by rw [← hla]; simp [G14.out])
  have GA15 := hide (show la[15]? = some (.int .u64 r2) from by rw [← hla]; simp [G15.out])
  have GA16 := hide (show la[16]? = some (.int .u64 r3) from by rw [← hla]; simp [G16.out])
  have GA22 := hide (show la[22]? = some (.bool ok) from by rw [← hla]; simp [G22.out])
  have GA23 := hide (show la[23]? = some (.int .u64 val) from by rw [← hla]; simp [G23.out])
  obtain ⟨w2, hw2⟩ : ∃ w2, (W3.setCell ⟨w.heap.size, 12, none⟩ (.int .i64 4)) = w2 := ⟨_, rfl⟩
  have sz2 : w2.heap.size = W3.heap.size := by rw [← hw2]; simp
  have tt2 : Touch W3 w2 (fun k => k = w.heap.size) := by rw [← hw2]; exact (Touch.setCell (S := fun k => k = w.heap.size) (Touch.refl W3 _) ⟨w.heap.size, 12, none⟩ (.inl rfl) _)
  have HA0 := hide (show w2.rowIs w.heap.size 64 28 (lrow la) from by rw [← hw2, ← hla]; exact (rowIs.setL HR0.out (i := 12) (by simp [HL0.out]) (.int .i64 4)))
  have HA1 := hide (HR1.out.of_block (tt2.block _ (by omega) (by omega)))
  have HA2 := hide (HR2.out.of_block (tt2.block _ (by omega) (by omega)))
  have HA3 := hide (HR3.out.block (tt2.block g (by omega) (by omega)))
  have HGA := hide (show w.grownBy w2 (some g) from by rw [← hw2]; exact (grown_setCell HG3.out _ (.inr (Nat.le_refl _)) _))
  have p5 : w2.cell? ⟨w.heap.size, 5, none⟩ = some (.int .i64 s5) := by rw [HA0.out.cell (i := 5) (by omega), lrow_of GA5.out]
  have p6 : w2.cell? ⟨w.heap.size, 6, none⟩ = some (.int .i64 hand) := by rw [HA0.out.cell (i := 6) (by omega), lrow_of GA6.out]
  have p7 : w2.cell? ⟨w.heap.size, 7, none⟩ = some (.int .i64 2) := by rw [HA0.out.cell (i := 7) (by omega), lrow_of GA7.out]
  have p11 : w2.cell? ⟨w.heap.size, 11, none⟩ = some (.int .u64 hh) := by rw [HA0.out.cell (i := 11) (by omega), lrow_of GA11.out]
  have p12 : w2.cell? ⟨w.heap.size, 12, none⟩ = some (.int .i64 4) := by rw [HA0.out.cell (i := 12) (by omega), lrow_of GA12.out]
  have p13 : w2.cell? ⟨w.heap.size, 13, none⟩ = some (.int .u64 r0) := by rw [HA0.out.cell (i := 13) (by omega), lrow_of GA13.out]
  have p14 : w2.cell? ⟨w.heap.size, 14, none⟩ = some (.int .u64 r1) := by rw [HA0.out.cell (i := 14) (by omega), lrow_of GA14.out]
  have p15 : w2.cell? ⟨w.heap.size, 15, none⟩ = some (.int .u64 r2) := by rw [HA0.out.cell (i := 15) (by omega), lrow_of GA15.out]
  have p16 : w2.cell? ⟨w.heap.size, 16, none⟩ = some (.int .u64 r3) := by rw [HA0.out.cell (i := 16) (by omega), lrow_of GA16.out]
  have p22 : w2.cell? ⟨w.heap.size, 22, none⟩ = some (.bool ok) := by rw [HA0.out.cell (i := 22) (by omega), lrow_of GA22.out]
  have p23 : w2.cell? ⟨w.heap.size, 23, none⟩ = some (.int .u64 val) := by rw [HA0.out.cell (i := 23) (by omega), lrow_of GA23.out]
  have HSA := hide hla
  clear tt2 hla
  have HSB := hide (show (la.set 14 (.int .u64 x.had)) = l1 from by rw [← HSA.out]; exact HSET.out)
  go_enter Try.func55, Try.ntmps55
  go_wp2_with (first | (go_at_call 66; refine (DO.out _ HA3.out).mono ?_; rintro e w1 ⟨rfl, hr1, hg1⟩; rw [HX.out]; rw [HF.out] at hr1; simp only [Stp.val]; have sz1 := hg1.size; have HR4 := hide (HA0.out.of_block (hg1.block w.heap.size (by omega) (by simp; omega))); have HR5 := hide (HA1.out.of_block (hg1.block (w.heap.size + 1) (by omega) (by simp; omega))); have HR6 := hide (HA2.out.of_block (hg1.block (w.heap.size + 2) (by omega) (by simp; omega))); have HR1' := hide hr1; have HG1 := hide hg1; have e5 : w1.cell? ⟨w.heap.size, 5, none⟩ = some (.int .i64 s5) := (by rw [HR4.out.cell (i := 5) (by omega), lrow_of GA5.out]); have f5 := HR4.out.frozen 5; have e6 : w1.cell? ⟨w.heap.size, 6, none⟩ = some (.int .i64 hand) := (by rw [HR4.out.cell (i := 6) (by omega), lrow_of GA6.out]); have f6 := HR4.out.frozen 6; have e7 : w1.cell? ⟨w.heap.size, 7, none⟩ = some (.int .i64 2) := (by rw [HR4.out.cell (i := 7) (by omega), lrow_of GA7.out]); have f7 := HR4.out.frozen 7; have e11 : w1.cell? ⟨w.heap.size, 11, none⟩ = some (.int .u64 hh) := (by rw [HR4.out.cell (i := 11) (by omega), lrow_of GA11.out]); have f11 := HR4.out.frozen 11; have e12 : w1.cell? ⟨w.heap.size, 12, none⟩ = some (.int .i64 4) := (by rw [HR4.out.cell (i := 12) (by omega), lrow_of GA12.out]); have f12 := HR4.out.frozen 12; have e13 : w1.cell? ⟨w.heap.size, 13, none⟩ = some (.int .u64 r0) := (by rw [HR4.out.cell (i := 13) (by omega), lrow_of GA13.out]); have f13 := HR4.out.frozen 13; have e14 : w1.cell? ⟨w.heap.size, 14, none⟩ = some (.int .u64 r1) := (by rw [HR4.out.cell (i := 14) (by omega), lrow_of GA14.out]); have f14 := HR4.out.frozen 14; have e15 : w1.cell? ⟨w.heap.size, 15, none⟩ = some (.int .u64 r2) := (by rw [HR4.out.cell (i := 15) (by omega), lrow_of GA15.out]); have f15 := HR4.out.frozen 15; have e16 : w1.cell? ⟨w.heap.size, 16, none⟩ = some (.int .u64 r3) := (by rw [HR4.out.cell (i := 16) (by omega), lrow_of GA16.out]); have f16 := HR4.out.frozen 16; have e22 : w1.cell? ⟨w.heap.size, 22, none⟩ = some (.bool ok) := (by rw [HR4.out.cell (i := 22) (by omega), lrow_of GA22.out]); have f22 := HR4.out.frozen 22; have e23 : w1.cell? ⟨w.heap.size, 23, none⟩ = some (.int .u64 val) := (by rw [HR4.out.cell (i := 23) (by omega), lrow_of GA23.out]); have f23 := HR4.out.frozen 23; have l1w : w.heap.size < w1.heap.size := (by omega); clear hr1 hg1 hw2 hW3 p5 p6 p7 p11 p12 p13 p14 p15 p16 p22 p23 c5 c6 c7 c11 c12 c13 c14 c15 c16 c22 c23))
  obtain ⟨w4, hw4⟩ : ∃ w4, (w1.setCell ⟨w.heap.size, 14, none⟩ (.int .u64 x.had)) = w4 := ⟨_, rfl⟩
  have sz4 : w4.heap.size = w1.heap.size := by rw [← hw4]; simp
  have tt4 : Touch w1 w4 (fun k => k = w.heap.size) := by rw [← hw4]; exact (Touch.setCell (S := fun k => k = w.heap.size) (Touch.refl w1 _) ⟨w.heap.size, 14, none⟩ (.inl rfl) _)
  have rA : (w4.alloc (.cells [Value.int .i64 x.hand, .int .i64 x.act, .int .i64 x.at_, .int .u64 x.had, .int .u64 x.put, .bool x.ok].toArray 77)).rangeAt w.heap.size 0 l1 := by
    have := rowIs.range (rowIs.setL HR4.out (i := 14) (by simp [HLA.out]) (.int .u64 x.had)) (by simp [HLA.out])
    rw [HSB.out, hw4] at this
    exact World.rangeAt_alloc this _
  have rB : (w4.alloc (.cells [Value.int .i64 x.hand, .int .i64 x.act, .int .i64 x.at_, .int .u64 x.had, .int .u64 x.put, .bool x.ok].toArray 77)).rangeAt w1.heap.size 0 [Value.int .i64 x.hand, .int .i64 x.act, .int .i64 x.at_, .int .u64 x.had, .int .u64 x.put, .bool x.ok] := by
    have := rowIs.range (rowL_alloc w4 [Value.int .i64 x.hand, .int .i64 x.act, .int .i64 x.at_, .int .u64 x.had, .int .u64 x.put, .bool x.ok] 77 (n := 6) rfl) rfl
    rwa [sz4] at this
  have tC : (w4.alloc (.cells [Value.int .i64 x.hand, .int .i64 x.act, .int .i64 x.at_, .int .u64 x.had, .int .u64 x.put, .bool x.ok].toArray 77)).there (w.heap.size + 1) 0 28 := rowIs.there ((HR5.out.of_block (tt4.block _ (by omega) (by omega))).alloc _) (by omega)
  have tD : (w4.alloc (.cells [Value.int .i64 x.hand, .int .i64 x.act, .int .i64 x.at_, .int .u64 x.had, .int .u64 x.put, .bool x.ok].toArray 77)).there (w.heap.size + 2) 0 6 := rowIs.there ((HR6.out.of_block (tt4.block _ (by omega) (by omega))).alloc _) (by omega)
  have rW : IsRow (w4.alloc (.cells [Value.int .i64 x.hand, .int .i64 x.act, .int .i64 x.at_, .int .u64 x.had, .int .u64 x.put, .bool x.ok].toArray 77)) g n cap f' := (HR1'.out.block (tt4.block g (by omega) (by omega))).alloc _
  have TW : Touch w (w4.alloc (.cells [Value.int .i64 x.hand, .int .i64 x.act, .int .i64 x.at_, .int .u64 x.had, .int .u64 x.put, .bool x.ok].toArray 77)) (fun k => k = g) := (((Touch.of_grown HGA.out).mono (S' := fun k => k = g) (fun k _ h => by simpa using h)).trans' (Touch.of_grown HG1.out) (fun k _ h => by simpa using h)).trans' (tt4.alloc _) (fun k hk h => absurd hk (by omega))
  have szA : (w4.alloc (.cells [Value.int .i64 x.hand, .int .i64 x.act, .int .i64 x.at_, .int .u64 x.had, .int .u64 x.put, .bool x.ok].toArray 77)).heap.size = w1.heap.size + 1 := by simp [sz4]
  rw [hw4]
  have HTW := hide TW
  have HRW := hide rW
  clear TW rW hw4
  obtain ⟨WA, hWA⟩ : ∃ W, (w4.alloc (.cells [Value.int .i64 x.hand, .int .i64 x.act, .int .i64 x.at_, .int .u64 x.had, .int .u64 x.put, .bool x.ok].toArray 77)) = W := ⟨_, rfl⟩
  rw [hWA] at rA rB tC tD szA HTW HRW
  have goA : (w4.alloc (.cells #[Value.int .i64 x.hand, .int .i64 x.act, .int .i64 x.at_, .int .u64 x.had, .int .u64 x.put, .bool x.ok] 77)) = WA := hWA
  simp only [goA]
  clear goA hWA
  refine RetN.region (ks := [(0, 120), (1, 121), (4, 6)]) (vals := fun i => match i with
      | 0 => .agg l1.toArray
      | 1 => .agg #[Value.int .i64 x.hand, .int .i64 x.act, .int .i64 x.at_, .int .u64 x.had, .int .u64 x.put, .bool x.ok]
      | 4 => .bool false
      | _ => undef) (C := w.heap.size + 1) (E := w.heap.size + 2) (iC := 2) (iE := 3) (lt := l1) (ls := [Value.int .i64 x.hand, .int .i64 x.act, .int .i64 x.at_, .int .u64 x.had, .int .u64 x.put, .bool x.ok]) (by kernel_rfl) ?g ?b rfl (by omega) (by decide) ?dd hl1i.out.2 (by simp [Value.oneCell']) (by rw [hl1i.out.1]; exact tC) tD ?kinds ?fin
  case g =>
    intro i o ho
    have hi : i < 5 := by have := (Array.getElem?_eq_some_iff.1 ho).1; simpa using this
    match i, hi with
    | 0, _ | 1, _ | 2, _ | 3, _ | 4, _ => injection ho with ho; subst ho; rfl
  case b =>
    intro i o ho
    have hi : i < 5 := by have := (Array.getElem?_eq_some_iff.1 ho).1; simpa using this
    match i, hi with
    | 0, _ | 1, _ | 2, _ | 3, _ | 4, _ => injection ho with ho; subst ho; simp [Region.binds]
  case dd =>
    intro k hk
    have hk' : k < 153 := by
      simp [RetN.D] at hk
      omega
    simpa using hk'
  case kinds =>
    intro i o ho
    have hi : i < 5 := by have := (Array.getElem?_eq_some_iff.1 ho).1; simpa using this
    match i, hi with
    | 0, _ => injection ho with ho; subst ho; exact .inl ⟨120, _, rfl, rfl, fun L a w' hI hd => ex_load_row rfl (hI.fix 2 (Reg.notD rfl)) (rangeAt_block rA (hI.tch.block _ (by omega) (by omega))) HD.out.1 HD.out.2.1 (by rw [hl1i.out.1]; exact size79)⟩
    | 1, _ => injection ho with ho; subst ho; exact .inl ⟨121, _, rfl, rfl, fun L a w' hI hd => ex_load_row rfl (hI.fix 17 (Reg.notD rfl)) (rangeAt_block rB (hI.tch.block _ (by omega) (by omega))) HD.out.2.2.1 HD.out.2.2.2 size46⟩
    | 2, _ => injection ho with ho; subst ho; exact .inr (.inl ⟨rfl, rfl, _, _, _, rfl, (by rw [hl1i.out.1]; exact size79), fun L a w' hI hd => ⟨hI.fix 4 (Reg.notD rfl), (hI.pure 0 _ _ rfl (hd ⟨0, .data⟩ (by simp) rfl))⟩⟩)
    | 3, _ => injection ho with ho; subst ho; exact .inr (.inr ⟨rfl, rfl, _, _, _, rfl, size46, fun L a w' hI hd => ⟨hI.fix 5 (Reg.notD rfl), (hI.pure 1 _ _ rfl (hd ⟨1, .data⟩ (by simp) rfl))⟩⟩)
    | 4, _ => injection ho with ho; subst ho; exact .inl ⟨6, _, rfl, rfl, fun L a w' hI hd => ex_assign rfl rfl⟩
  case fin =>
    intro L a' w' hI hall
    rename_i K2 hK2
    refine hK2 _ _ ?_
    have rC := hI.sC (hall 2 (by decide))
    have rD := hI.sE (hall 3 (by decide))
    have pC : a'.eval (.tmp 4) = .pointer (some ⟨w.heap.size + 1, 0, none⟩) := hI.fix 4 (Reg.notD rfl)
    have pD : a'.eval (.tmp 5) = .pointer (some ⟨w.heap.size + 2, 0, none⟩) := hI.fix 5 (Reg.notD rfl)
    have pe : a'.eval (.tmp 6) = .bool false := hI.pure 4 6 _ rfl (hall 4 (by decide))
    have tch := hI.tch
    have hdf : a'.defers = [] := hI.df
    have hT := run_loadVar_mid (P := Try.prog) w' (w.heap.size + 1) 0 _ l1 dT rC HD.out.1 HD.out.2.1 (by rw [hl1i.out.1]; exact size79)
    have hS := run_loadVar_mid (P := Try.prog) w' (w.heap.size + 2) 0 _ _ dS rD HD.out.2.2.1 HD.out.2.2.2 size46
    have hres := results_cct (Q := Try.prog) (fn := Try.f55) (tmps := a'.tmps) (t := 4) (t' := 5) (t'' := 6) (W := w') (by rfl) pC hT pD hS
    rw [show a'.tmps.getD 6 undef = .bool false from pe] at hres
    go_wp2
    refine bodyPost_ret (v := .tuple #[.agg l1.toArray, x.val, .bool false]) hres hdf ⟨rfl, HRW.out.block (tch.block g HRW.out.lt (by omega)), ?_⟩
    have := HTW.out.trans' tch (fun k hk h => absurd hk (by omega))
    exact ⟨this.os, this.tape, this.output, this.size, fun k hk hn => this.block k hk (by simpa using hn)⟩

end Belt
end Go.Proofs.Ytehbkkmhnfgcmaa
