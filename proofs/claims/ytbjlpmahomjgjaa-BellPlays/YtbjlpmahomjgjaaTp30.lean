/-
  Lemmas: BellRC.
-/
import Derived.Test.YtbjlpmahomjgjaaTp21
import Derived.Test.YtbjlpmahomjgjaaTp19
import Derived.Test.YtbjlpmahomjgjaaTp20
import Derived.Test.YtbjlpmahomjgjaaTp28
/-
  The bell's reference: Step: wait.
-/
namespace Go.Proofs.Ytbjlpmahomjgjaa
open Go.RowKit
set_option linter.unusedVariables false
set_option linter.unusedSimpArgs false
set_option linter.unnecessarySimpa false
set_option maxRecDepth 20000
namespace Bell

set_option maxHeartbeats 8000000 in
theorem rwait {w : World} {g n cap : Nat} {f f' : Nat → Int} {x : Stp} {s0 s1 s2 s3 s4 s5 hand a b c hh r0 r1 r2 r3 val : Int} {ok : Bool} (hr : IsRow w g n cap f)  (hx : stepOf n f ⟨hand, 1, 1, 0, 0, true⟩ = x) (hf' : wordsOf n f ⟨hand, 1, 1, 0, 0, true⟩ = f') :
    Calls Try.prog 57 #[.agg (tk ⟨s0, s1, s2, s3, s4, s5⟩ hand ⟨1, a, b, c, hh⟩ 4 ⟨r0, r1, r2, r3, 0, 0, 0, 0⟩ ⟨ok, val⟩).toArray, .slice (some ⟨g, 0, none⟩) n cap] w fun e w' =>
      e = .returned (.tuple #[.agg (tk ⟨s0, s1, s2, s3, s4, s5⟩ hand ⟨1, a, b, c, hh⟩ 4 ⟨r0, r1, r2, r3, 0, 0, 0, 0⟩ ⟨false, r0⟩).toArray, x.val, .bool (!(x.had == r0))]) ∧ IsRow w' g n cap f' ∧ w.grownBy w' (some g) := by
  have DO := hide (fun (w' : World) (hr' : IsRow w' g n cap f) => ref_do (s := ⟨hand, 1, 1, 0, 0, true⟩) hr' ⟨Int.le_refl 0, by show (0 : Int) ≤ 18446744073709551615; decide⟩ ⟨by show (1 : Int) ≤ 1; decide, by show (1 : Int) ≤ 5; decide⟩)
  have HX := hide hx
  have HF := hide hf'
  have lg := hr.lt
  obtain ⟨l0, hl0⟩ : ∃ l, tk ⟨s0, s1, s2, s3, s4, s5⟩ hand ⟨1, a, b, c, hh⟩ 4 ⟨r0, r1, r2, r3, 0, 0, 0, 0⟩ ⟨ok, val⟩ = l := ⟨_, rfl⟩
  have hl0' : l0.length = 28 := by rw [← hl0]; rfl
  have hset : ((l0.set 22 (.bool false)).set 23 (.int .u64 r0)) = tk ⟨s0, s1, s2, s3, s4, s5⟩ hand ⟨1, a, b, c, hh⟩ 4 ⟨r0, r1, r2, r3, 0, 0, 0, 0⟩ ⟨false, r0⟩ := by rw [← hl0]; rfl
  obtain ⟨l1, hl1⟩ : ∃ l, tk ⟨s0, s1, s2, s3, s4, s5⟩ hand ⟨1, a, b, c, hh⟩ 4 ⟨r0, r1, r2, r3, 0, 0, 0, 0⟩ ⟨false, r0⟩ = l := ⟨_, rfl⟩
  rw [hl0, hl1]
  rw [hl1] at hset
  have hl1i := hide (show IsTk l1 from by rw [← hl1]; exact tk_is _ _ _ _ _ _)
  obtain ⟨W3, hW3⟩ : ∃ W3, ((w.alloc (.cells l0.toArray 91)).alloc (.cells tk0.toArray 91)).alloc (.cells [Value.int .i64 0, .int .i64 0, .int .i64 0, .int .u64 0, .int .u64 0, .bool false].toArray 63) = W3 := ⟨_, rfl⟩
  have sz3 : W3.heap.size = w.heap.size + 3 := by rw [← hW3]; simp
  have R0 : W3.rowIs w.heap.size 91 28 (lrow l0) := by rw [← hW3]; exact ((rowL_alloc w l0 _ hl0').alloc _).alloc _
  have R1 : W3.rowIs (w.heap.size + 1) 91 28 (lrow tk0) := by
    rw [← hW3]
    have := (rowL_alloc (w.alloc (.cells l0.toArray 91)) tk0 91 (n := 28) rfl).alloc (.cells [Value.int .i64 0, .int .i64 0, .int .i64 0, .int .u64 0, .int .u64 0, .bool false].toArray 63)
    rwa [World.size_alloc] at this
  have R2 : W3.rowIs (w.heap.size + 2) 63 6 (lrow [Value.int .i64 0, .int .i64 0, .int .i64 0, .int .u64 0, .int .u64 0, .bool false]) := by
    rw [← hW3]
    have := rowL_alloc ((w.alloc (.cells l0.toArray 91)).alloc (.cells tk0.toArray 91)) [Value.int .i64 0, .int .i64 0, .int .i64 0, .int .u64 0, .int .u64 0, .bool false] 63 (n := 6) rfl
    rwa [World.size_alloc, World.size_alloc] at this
  have G3 : w.grownBy W3 (some g) := by rw [← hW3]; exact grown_alloc (grown_alloc (grown_alloc (grown_refl _ _) _) _) _
  have HR3 := hide (show IsRow W3 g n cap f from hr.grown (grown_none (by rw [← hW3]; exact grown_alloc (grown_alloc (grown_alloc (grown_refl _ _) _) _) _) none) (by simp))
  have cell : ∀ i v, l0[i]? = some v → W3.cell? ⟨w.heap.size, i, none⟩ = some v := fun i v hv => by rw [R0.cell (i := i) (by have := (List.getElem?_eq_some_iff.1 hv).1; omega), lrow_of hv]
  have g6 : l0[6]? = some (.int .i64 hand) := by rw [← hl0]; rfl
  have g12 : l0[12]? = some (.int .i64 4) := by rw [← hl0]; rfl
  have g13 : l0[13]? = some (.int .u64 r0) := by rw [← hl0]; rfl
  have g22 : l0[22]? = some (.bool ok) := by rw [← hl0]; rfl
  have g23 : l0[23]? = some (.int .u64 val) := by rw [← hl0]; rfl
  have c6 := cell 6 _ g6
  have c12 := cell 12 _ g12
  have c13 := cell 13 _ g13
  have c22 := cell 22 _ g22
  have c23 := cell 23 _ g23
  have G6 := hide g6
  have G12 := hide g12
  have G13 := hide g13
  have G22 := hide g22
  have G23 := hide g23
  obtain ⟨dT, hdT1, hdT2⟩ := row79
  obtain ⟨dS, hdS1, hdS2⟩ := row46
  have HD := hide (And.intro hdT1 (And.intro hdT2 (And.intro hdS1 hdS2)))
  have HR0 := hide R0
  have HR1 := hide R1
  have HR2 := hide R2
  have HG3 := hide G3
  have HSET := hide hset
  have HL0 := hide hl0'
  clear hx hf' hr R0 R1 R2 G3 cell hset hl0' hl0 hl1 hdT1 hdT2 hdS1 hdS2  g6 g12 g13 g22 g23
  simp only [tk0] at hW3
  go_enter Try.func57, Try.ntmps57
  go_wp2_with (first | (go_at_call 75; refine (DO.out _ HR3.out).mono ?_; rintro e w1 ⟨rfl, hr1, hg1⟩; rw [HX.out]; rw [HF.out] at hr1; simp only [Stp.val]; have sz1 := hg1.size; have HR4 := hide (HR0.out.of_block (hg1.block w.heap.size (by omega) (by simp; omega))); have HR5 := hide (HR1.out.of_block (hg1.block (w.heap.size + 1) (by omega) (by simp; omega))); have HR6 := hide (HR2.out.of_block (hg1.block (w.heap.size + 2) (by omega) (by simp; omega))); have HR1' := hide hr1; have HG1 := hide hg1; have e6 : w1.cell? ⟨w.heap.size, 6, none⟩ = some (.int .i64 hand) := (by rw [HR4.out.cell (i := 6) (by omega), lrow_of G6.out]); have f6 := HR4.out.frozen 6; have e12 : w1.cell? ⟨w.heap.size, 12, none⟩ = some (.int .i64 4) := (by rw [HR4.out.cell (i := 12) (by omega), lrow_of G12.out]); have f12 := HR4.out.frozen 12; have e13 : w1.cell? ⟨w.heap.size, 13, none⟩ = some (.int .u64 r0) := (by rw [HR4.out.cell (i := 13) (by omega), lrow_of G13.out]); have f13 := HR4.out.frozen 13; have e22 : w1.cell? ⟨w.heap.size, 22, none⟩ = some (.bool ok) := (by rw [HR4.out.cell (i := 22) (by omega), lrow_of G22.out]); have f22 := HR4.out.frozen 22; have e23 : w1.cell? ⟨w.heap.size, 23, none⟩ = some (.int .u64 val) := (by rw [HR4.out.cell (i := 23) (by omega), lrow_of G23.out]); have f23 := HR4.out.frozen 23; have l1w : w.heap.size < w1.heap.size := (by omega); clear hr1 hg1 c6 c12 c13 c22 c23))
  obtain ⟨w2, hw2⟩ : ∃ w2, ((w1.setCell ⟨w.heap.size, 22, none⟩ (.bool false)).setCell ⟨w.heap.size, 23, none⟩ (.int .u64 r0)) = w2 := ⟨_, rfl⟩
  have sz2 : w2.heap.size = w1.heap.size := by rw [← hw2]; simp
  have tt2 : Touch w1 w2 (fun k => k = w.heap.size) := by rw [← hw2]; exact (Touch.setCell (S := fun k => k = w.heap.size) (Touch.setCell (S := fun k => k = w.heap.size) (Touch.refl w1 _) ⟨w.heap.size, 22, none⟩ (.inl rfl) _) ⟨w.heap.size, 23, none⟩ (.inl rfl) _)
  have rA : (w2.alloc (.cells [Value.int .i64 x.hand, .int .i64 x.act, .int .i64 x.at_, .int .u64 x.had, .int .u64 x.put, .bool x.ok].toArray 63)).rangeAt w.heap.size 0 l1 := by
    have := rowIs.range (rowIs.setL (rowIs.setL HR4.out (i := 22) (by simp [HL0.out]) (.bool false)) (i := 23) (by simp [HL0.out]) (.int .u64 r0)) (by simp [HL0.out])
    rw [HSET.out, hw2] at this
    exact World.rangeAt_alloc this _
  have rB : (w2.alloc (.cells [Value.int .i64 x.hand, .int .i64 x.act, .int .i64 x.at_, .int .u64 x.had, .int .u64 x.put, .bool x.ok].toArray 63)).rangeAt w1.heap.size 0 [Value.int .i64 x.hand, .int .i64 x.act, .int .i64 x.at_, .int .u64 x.had, .int .u64 x.put, .bool x.ok] := by
    have := rowIs.range (rowL_alloc w2 [Value.int .i64 x.hand, .int .i64 x.act, .int .i64 x.at_, .int .u64 x.had, .int .u64 x.put, .bool x.ok] 63 (n := 6) rfl) rfl
    rwa [sz2] at this
  have tC : (w2.alloc (.cells [Value.int .i64 x.hand, .int .i64 x.act, .int .i64 x.at_, .int .u64 x.had, .int .u64 x.put, .bool x.ok].toArray 63)).there (w.heap.size + 1) 0 28 := rowIs.there ((HR5.out.of_block (tt2.block _ (by omega) (by omega))).alloc _) (by omega)
  have tD : (w2.alloc (.cells [Value.int .i64 x.hand, .int .i64 x.act, .int .i64 x.at_, .int .u64 x.had, .int .u64 x.put, .bool x.ok].toArray 63)).there (w.heap.size + 2) 0 6 := rowIs.there ((HR6.out.of_block (tt2.block _ (by omega) (by omega))).alloc _) (by omega)
  have rW : IsRow (w2.alloc (.cells [Value.int .i64 x.hand, .int .i64 x.act, .int .i64 x.at_, .int .u64 x.had, .int .u64 x.put, .bool x.ok].toArray 63)) g n cap f' := (HR1'.out.block (tt2.block g (by omega) (by omega))).alloc _
  have TW : Touch w (w2.alloc (.cells [Value.int .i64 x.hand, .int .i64 x.act, .int .i64 x.at_, .int .u64 x.had, .int .u64 x.put, .bool x.ok].toArray 63)) (fun k => k = g) := (((Touch.of_grown HG3.out).mono (S' := fun k => k = g) (fun k _ h => by simpa using h)).trans' (Touch.of_grown HG1.out) (fun k _ h => by simpa using h)).trans' (tt2.alloc _) (fun k hk h => absurd hk (by omega))
  have szA : (w2.alloc (.cells [Value.int .i64 x.hand, .int .i64 x.act, .int .i64 x.at_, .int .u64 x.had, .int .u64 x.put, .bool x.ok].toArray 63)).heap.size = w1.heap.size + 1 := by simp [sz2]
  rw [hw2]
  have HTW := hide TW
  have HRW := hide rW
  clear TW rW hw2
  obtain ⟨WA, hWA⟩ : ∃ W, (w2.alloc (.cells [Value.int .i64 x.hand, .int .i64 x.act, .int .i64 x.at_, .int .u64 x.had, .int .u64 x.put, .bool x.ok].toArray 63)) = W := ⟨_, rfl⟩
  rw [hWA] at rA rB tC tD szA HTW HRW
  have goA : (w2.alloc (.cells #[Value.int .i64 x.hand, .int .i64 x.act, .int .i64 x.at_, .int .u64 x.had, .int .u64 x.put, .bool x.ok] 63)) = WA := hWA
  simp only [goA]
  clear goA hWA
  have q13 : l1[13]? = some (.int .u64 r0) := by rw [← HSET.out]; first | (simp [HL0.out, G13.out]; done) | (rw [List.getElem?_set_ne (by decide), List.getElem?_set_ne (by decide)]; exact G13.out)
  refine RetN.region (ks := [(0, 76), (1, 77), (2, 78), (3, 79), (4, 80), (5, 81), (6, 82), (7, 83), (10, 6)]) (vals := fun i => match i with
      | 0 => .agg l1.toArray
      | 1 => .agg #[Value.int .i64 x.hand, .int .i64 x.act, .int .i64 x.at_, .int .u64 x.had, .int .u64 x.put, .bool x.ok]
      | 2 => .pointer (some ⟨w1.heap.size, 3, none⟩)
      | 3 => .int .u64 x.had
      | 4 => .pointer (some ⟨w.heap.size, 13, none⟩)
      | 5 => .pointer (some ⟨w.heap.size, 13, none⟩)
      | 6 => .int .u64 r0
      | 7 => .bool (!(x.had == r0))
      | 10 => .bool (!(x.had == r0))
      | _ => undef) (C := w.heap.size + 1) (E := w.heap.size + 2) (iC := 8) (iE := 9) (lt := l1) (ls := [Value.int .i64 x.hand, .int .i64 x.act, .int .i64 x.at_, .int .u64 x.had, .int .u64 x.put, .bool x.ok]) (by kernel_rfl) ?g ?b rfl (by omega) (by decide) ?dd hl1i.out.2 (by simp [Value.oneCell']) (by rw [hl1i.out.1]; exact tC) tD ?kinds ?fin
  case g =>
    intro i o ho
    have hi : i < 11 := by have := (Array.getElem?_eq_some_iff.1 ho).1; simpa using this
    match i, hi with
    | 0, _ | 1, _ | 2, _ | 3, _ | 4, _ | 5, _ | 6, _ | 7, _ | 8, _ | 9, _ | 10, _ => injection ho with ho; subst ho; rfl
  case b =>
    intro i o ho
    have hi : i < 11 := by have := (Array.getElem?_eq_some_iff.1 ho).1; simpa using this
    match i, hi with
    | 0, _ | 1, _ | 2, _ | 3, _ | 4, _ | 5, _ | 6, _ | 7, _ | 8, _ | 9, _ | 10, _ => injection ho with ho; subst ho; simp [Region.binds]
  case dd =>
    intro k hk
    have hk' : k < 84 := by
      simp [RetN.D] at hk
      omega
    simpa using hk'
  case kinds =>
    intro i o ho
    have hi : i < 11 := by have := (Array.getElem?_eq_some_iff.1 ho).1; simpa using this
    match i, hi with
    | 0, _ => injection ho with ho; subst ho; exact .inl ⟨76, _, rfl, rfl, fun L a w' hI hd => ex_load_row rfl (hI.fix 2 (Reg.notD rfl)) (rangeAt_block rA (hI.tch.block _ (by omega) (by omega))) HD.out.1 HD.out.2.1 (by rw [hl1i.out.1]; exact size79)⟩
    | 1, _ => injection ho with ho; subst ho; exact .inl ⟨77, _, rfl, rfl, fun L a w' hI hd => ex_load_row rfl (hI.fix 9 (Reg.notD rfl)) (rangeAt_block rB (hI.tch.block _ (by omega) (by omega))) HD.out.2.2.1 HD.out.2.2.2 size46⟩
    | 2, _ => injection ho with ho; subst ho; exact .inl ⟨78, _, rfl, rfl, fun L a w' hI hd => ex_fieldo rfl (hI.fix 9 (Reg.notD rfl)) (fieldS3 w' _)⟩
    | 3, _ => injection ho with ho; subst ho; exact .inl ⟨79, _, rfl, rfl, fun L a w' hI hd => ex_load rfl (hI.pure 2 _ _ rfl (hd ⟨2, .data⟩ (by simp) rfl)) (agg_u64 w') (by have := (rangeAt_block rB (hI.tch.block _ (by omega) (by omega))) 3 _ rfl; simpa using this)⟩
    | 4, _ => injection ho with ho; subst ho; exact .inl ⟨80, _, rfl, rfl, fun L a w' hI hd => ex_fieldo rfl (hI.fix 2 (Reg.notD rfl)) (fieldK4 w' _)⟩
    | 5, _ => injection ho with ho; subst ho; exact .inl ⟨81, _, rfl, rfl, fun L a w' hI hd => ex_r0 rfl (hI.pure 4 _ _ rfl (hd ⟨4, .data⟩ (by simp) rfl)) rfl⟩
    | 6, _ => injection ho with ho; subst ho; exact .inl ⟨82, _, rfl, rfl, fun L a w' hI hd => ex_load rfl (hI.pure 5 _ _ rfl (hd ⟨5, .data⟩ (by simp) rfl)) (agg_u64 w') (by have := (rangeAt_block rA (hI.tch.block _ (by omega) (by omega))) 13 _ q13; simpa using this)⟩
    | 7, _ => injection ho with ho; subst ho; exact .inl ⟨83, _, rfl, rfl, fun L a w' hI hd => ex_neq rfl (hI.pure 3 _ _ rfl (hd ⟨3, .data⟩ (by simp) rfl)) (hI.pure 6 _ _ rfl (hd ⟨6, .data⟩ (by simp) rfl))⟩
    | 8, _ => injection ho with ho; subst ho; exact .inr (.inl ⟨rfl, rfl, _, _, _, rfl, (by rw [hl1i.out.1]; exact size79), fun L a w' hI hd => ⟨hI.fix 4 (Reg.notD rfl), (hI.pure 0 _ _ rfl (hd ⟨0, .data⟩ (by simp) rfl))⟩⟩)
    | 9, _ => injection ho with ho; subst ho; exact .inr (.inr ⟨rfl, rfl, _, _, _, rfl, size46, fun L a w' hI hd => ⟨hI.fix 5 (Reg.notD rfl), (hI.pure 1 _ _ rfl (hd ⟨1, .data⟩ (by simp) rfl))⟩⟩)
    | 10, _ => injection ho with ho; subst ho; exact .inl ⟨6, _, rfl, rfl, fun L a w' hI hd => ex_assign rfl (hI.pure 7 _ _ rfl (hd ⟨7, .data⟩ (by simp) rfl))⟩
  case fin =>
    intro L a' w' hI hall
    rename_i K2 hK2
    refine hK2 _ _ ?_
    have rC := hI.sC (hall 8 (by decide))
    have rD := hI.sE (hall 9 (by decide))
    have pC : a'.eval (.tmp 4) = .pointer (some ⟨w.heap.size + 1, 0, none⟩) := hI.fix 4 (Reg.notD rfl)
    have pD : a'.eval (.tmp 5) = .pointer (some ⟨w.heap.size + 2, 0, none⟩) := hI.fix 5 (Reg.notD rfl)
    have pe : a'.eval (.tmp 6) = .bool (!(x.had == r0)) := hI.pure 10 6 _ rfl (hall 10 (by decide))
    have tch := hI.tch
    have hdf : a'.defers = [] := hI.df
    have hT := run_loadVar_mid (P := Try.prog) w' (w.heap.size + 1) 0 _ l1 dT rC HD.out.1 HD.out.2.1 (by rw [hl1i.out.1]; exact size79)
    have hS := run_loadVar_mid (P := Try.prog) w' (w.heap.size + 2) 0 _ _ dS rD HD.out.2.2.1 HD.out.2.2.2 size46
    have hres := results_cct (Q := Try.prog) (fn := Try.f57) (tmps := a'.tmps) (t := 4) (t' := 5) (t'' := 6) (W := w') (by rfl) pC hT pD hS
    rw [show a'.tmps.getD 6 undef = .bool (!(x.had == r0)) from pe] at hres
    go_wp2
    refine bodyPost_ret (v := .tuple #[.agg l1.toArray, x.val, .bool (!(x.had == r0))]) hres hdf ⟨rfl, HRW.out.block (tch.block g HRW.out.lt (by omega)), ?_⟩
    have := HTW.out.trans' tch (fun k hk h => absurd hk (by omega))
    exact ⟨this.os, this.tape, this.output, this.size, fun k hk hn => this.block k hk (by simpa using hn)⟩

end Bell
end Go.Proofs.Ytbjlpmahomjgjaa
