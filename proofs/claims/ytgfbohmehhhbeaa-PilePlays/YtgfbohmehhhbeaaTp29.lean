/-
  Lemmas: PileRB.
-/
import Derived.Test.YtgfbohmehhhbeaaTp05
import Derived.Test.YtgfbohmehhhbeaaTp27
import Derived.Test.YtgfbohmehhhbeaaTp28
/-
  The pile's reference: Step: take.
-/
namespace Go.Proofs.Ytgfbohmehhhbeaa
open Go.RowKit
set_option linter.unusedVariables false
set_option linter.unusedSimpArgs false
set_option linter.unnecessarySimpa false
set_option maxRecDepth 20000
namespace Pile

set_option maxHeartbeats 8000000 in
theorem rtake_push_true {w : World} {g n cap : Nat} {f f' : Nat → Int} {xh xa xt xd xp : Int} {s0 s1 s2 s3 s4 s5 hand a b c hh r0 r1 r2 r3 val : Int} {ok : Bool} (hr : IsRow w g n cap f) (hr1 : 0 ≤ r1 ∧ r1 < 4294967296) {ix bp : Int} (h0 : 0 ≤ r0 ∧ r0 ≤ 18446744073709551615) (h2 : 0 ≤ r2 ∧ r2 ≤ 18446744073709551615) (hix : r2 % 4294967296 = ix) (hbp : bump r0 ix = bp)  (hx : stepOf n f ⟨hand, 5, 1, r0, bp, true⟩ = ⟨xh, xa, xt, xd, xp, true⟩) (hf' : wordsOf n f ⟨hand, 5, 1, r0, bp, true⟩ = f') :
    Calls Try.prog 53 #[.agg (tk ⟨s0, s1, s2, s3, s4, s5⟩ hand ⟨1, a, b, c, hh⟩ 2 ⟨r0, r1, r2, r3, 0, 0, 0, 0⟩ ⟨ok, val⟩).toArray, .slice (some ⟨g, 0, none⟩) n cap] w fun e w' =>
      e = .returned (.tuple #[.agg (tk ⟨s0, s1, s2, s3, s4, s5⟩ hand ⟨1, a, b, c, hh⟩ 3 ⟨r0, r1, r2, r3, 0, 0, 0, 0⟩ ⟨ok, val⟩).toArray, (⟨xh, xa, xt, xd, xp, true⟩ : Stp).val, .bool false]) ∧ IsRow w' g n cap f' ∧ w.grownBy w' (some g) := by
  have DO := hide (fun (w' : World) (hr' : IsRow w' g n cap f) => ref_do (s := ⟨hand, 5, 1, r0, bp, true⟩) hr' (by rw [← hbp]; exact ⟨bump_lo _ _, bump_hi _ _⟩) ⟨by show (1 : Int) ≤ 5; decide, by show (5 : Int) ≤ 5; decide⟩)
  have HX := hide hx
  have HF := hide hf'
  have lg := hr.lt
  have a1 : wrap64 r1 = r1 := by unfold wrap64; omega
  have a1' : IntKind.i64.wrap r1 = r1 := by rw [IntKind.wrap_i64]; omega
  have a2 : wrap64 (2 * r1) = 2 * r1 := by unfold wrap64; omega
  have a3 : wrap64 (2 * r1 + 1) = 2 * r1 + 1 := by unfold wrap64; omega
  obtain ⟨l0, hl0⟩ : ∃ l, tk ⟨s0, s1, s2, s3, s4, s5⟩ hand ⟨1, a, b, c, hh⟩ 2 ⟨r0, r1, r2, r3, 0, 0, 0, 0⟩ ⟨ok, val⟩ = l := ⟨_, rfl⟩
  have hl0' : l0.length = 28 := by rw [← hl0]; rfl
  have hset : ((l0.set 12 (.int .i64 0)).set 12 (.int .i64 3)) = tk ⟨s0, s1, s2, s3, s4, s5⟩ hand ⟨1, a, b, c, hh⟩ 3 ⟨r0, r1, r2, r3, 0, 0, 0, 0⟩ ⟨ok, val⟩ := by rw [← hl0]; rfl
  obtain ⟨l1, hl1⟩ : ∃ l, tk ⟨s0, s1, s2, s3, s4, s5⟩ hand ⟨1, a, b, c, hh⟩ 3 ⟨r0, r1, r2, r3, 0, 0, 0, 0⟩ ⟨ok, val⟩ = l := ⟨_, rfl⟩
  rw [hl0, hl1]
  rw [hl1] at hset
  have hl1i := hide (show IsTk l1 from by rw [← hl1]; exact tk_is _ _ _ _ _ _)
  obtain ⟨W3, hW3⟩ : ∃ W3, ((w.alloc (.cells l0.toArray 53)).alloc (.cells tk0.toArray 53)).alloc (.cells [Value.int .i64 0, .int .i64 0, .int .i64 0, .int .u64 0, .int .u64 0, .bool false].toArray 71) = W3 := ⟨_, rfl⟩
  have sz3 : W3.heap.size = w.heap.size + 3 := by rw [← hW3]; simp
  have R0 : W3.rowIs w.heap.size 53 28 (lrow l0) := by rw [← hW3]; exact ((rowL_alloc w l0 _ hl0').alloc _).alloc _
  have R1 : W3.rowIs (w.heap.size + 1) 53 28 (lrow tk0) := by
    rw [← hW3]
    have := (rowL_alloc (w.alloc (.cells l0.toArray 53)) tk0 53 (n := 28) rfl).alloc (.cells [Value.int .i64 0, .int .i64 0, .int .i64 0, .int .u64 0, .int .u64 0, .bool false].toArray 71)
    rwa [World.size_alloc] at this
  have R2 : W3.rowIs (w.heap.size + 2) 71 6 (lrow [Value.int .i64 0, .int .i64 0, .int .i64 0, .int .u64 0, .int .u64 0, .bool false]) := by
    rw [← hW3]
    have := rowL_alloc ((w.alloc (.cells l0.toArray 53)).alloc (.cells tk0.toArray 53)) [Value.int .i64 0, .int .i64 0, .int .i64 0, .int .u64 0, .int .u64 0, .bool false] 71 (n := 6) rfl
    rwa [World.size_alloc, World.size_alloc] at this
  have G3 : w.grownBy W3 (some g) := by rw [← hW3]; exact grown_alloc (grown_alloc (grown_alloc (grown_refl _ _) _) _) _
  have HR3 := hide (show IsRow W3 g n cap f from hr.grown (grown_none (by rw [← hW3]; exact grown_alloc (grown_alloc (grown_alloc (grown_refl _ _) _) _) _) none) (by simp))
  have cell : ∀ i v, l0[i]? = some v → W3.cell? ⟨w.heap.size, i, none⟩ = some v := fun i v hv => by rw [R0.cell (i := i) (by have := (List.getElem?_eq_some_iff.1 hv).1; omega), lrow_of hv]
  have g6 : l0[6]? = some (.int .i64 hand) := by rw [← hl0]; rfl
  have g7 : l0[7]? = some (.int .i64 1) := by rw [← hl0]; rfl
  have g11 : l0[11]? = some (.int .u64 hh) := by rw [← hl0]; rfl
  have g12 : l0[12]? = some (.int .i64 2) := by rw [← hl0]; rfl
  have g13 : l0[13]? = some (.int .u64 r0) := by rw [← hl0]; rfl
  have g14 : l0[14]? = some (.int .u64 r1) := by rw [← hl0]; rfl
  have g15 : l0[15]? = some (.int .u64 r2) := by rw [← hl0]; rfl
  have g16 : l0[16]? = some (.int .u64 r3) := by rw [← hl0]; rfl
  have g22 : l0[22]? = some (.bool ok) := by rw [← hl0]; rfl
  have g23 : l0[23]? = some (.int .u64 val) := by rw [← hl0]; rfl
  have c6 := cell 6 _ g6
  have c7 := cell 7 _ g7
  have c11 := cell 11 _ g11
  have c12 := cell 12 _ g12
  have c13 := cell 13 _ g13
  have c14 := cell 14 _ g14
  have c15 := cell 15 _ g15
  have c16 := cell 16 _ g16
  have c22 := cell 22 _ g22
  have c23 := cell 23 _ g23
  have G6 := hide g6
  have G7 := hide g7
  have G11 := hide g11
  have G12 := hide g12
  have G13 := hide g13
  have G14 := hide g14
  have G15 := hide g15
  have G16 := hide g16
  have G22 := hide g22
  have G23 := hide g23
  obtain ⟨dT, hdT1, hdT2⟩ := row79
  obtain ⟨dS, hdS1, hdS2⟩ := row46
  have HD := hide (And.intro hdT1 (And.intro hdT2 (And.intro hdS1 hdS2)))
  have HR0 := hide R0
  have HR1 := hide R1
  have HR2 := hide R2
  have HG3 := hide G3
  have HSET := hide hset
  have HL0 := hide hl0'
  have HRB := hide h0
  have HIC := hide h2
  have HIX := hide hix
  have HBP := hide hbp
  clear hx hf' hr hr1 R0 R1 R2 G3 cell hset hl0' hl0 hl1 hdT1 hdT2 hdS1 hdS2 h0 h2 hix hbp g6 g7 g11 g12 g13 g14 g15 g16 g22 g23
  simp only [tk0] at hW3
  have STB := hide (show ∀ c w' w'', Below W3.heap.size w' w'' → W3.heap.size ≤ w'.heap.size → (fun (c : Bool) (w' : World) => w'.rowIs w.heap.size 53 28 (lrow l0) ∧ w'.rowIs (w.heap.size + 1) 53 28 (lrow tk0) ∧ w'.rowIs (w.heap.size + 2) 71 6 (lrow [Value.int .i64 0, .int .i64 0, .int .i64 0, .int .u64 0, .int .u64 0, .bool false]) ∧ IsRow w' g n cap (if c = true then f' else f) ∧ Touch W3 w' (fun k => k = g)) c w' → (fun (c : Bool) (w' : World) => w'.rowIs w.heap.size 53 28 (lrow l0) ∧ w'.rowIs (w.heap.size + 1) 53 28 (lrow tk0) ∧ w'.rowIs (w.heap.size + 2) 71 6 (lrow [Value.int .i64 0, .int .i64 0, .int .i64 0, .int .u64 0, .int .u64 0, .bool false]) ∧ IsRow w' g n cap (if c = true then f' else f) ∧ Touch W3 w' (fun k => k = g)) c w'' from fun c w' w'' hb hs ⟨p1, p2, p3, p4, p5⟩ =>
    ⟨p1.of_block (hb.block _ (by omega)), p2.of_block (hb.block _ (by omega)), p3.of_block (hb.block _ (by omega)), p4.block (hb.block g (by omega)), ⟨hb.os.trans p5.os, hb.tape.trans p5.tape, hb.output.trans p5.output, Nat.le_trans p5.size hb.size, fun k hk hn => (hb.block k hk).trans (p5.block k hk hn)⟩⟩)
  have HLG := hide (show g < W3.heap.size by omega)
  have DC := hide (show ∀ w', (fun (c : Bool) (w' : World) => w'.rowIs w.heap.size 53 28 (lrow l0) ∧ w'.rowIs (w.heap.size + 1) 53 28 (lrow tk0) ∧ w'.rowIs (w.heap.size + 2) 71 6 (lrow [Value.int .i64 0, .int .i64 0, .int .i64 0, .int .u64 0, .int .u64 0, .bool false]) ∧ IsRow w' g n cap (if c = true then f' else f) ∧ Touch W3 w' (fun k => k = g)) false w' → Calls Try.prog 68 #[.slice (some ⟨g, 0, none⟩) n cap, .int .i64 hand, .int .i64 5, .int .i64 (1), .int .u64 r0, .int .u64 bp] w' fun e w'' => e = .returned (⟨xh, xa, xt, xd, xp, true⟩ : Stp).val ∧ (fun (c : Bool) (w' : World) => w'.rowIs w.heap.size 53 28 (lrow l0) ∧ w'.rowIs (w.heap.size + 1) 53 28 (lrow tk0) ∧ w'.rowIs (w.heap.size + 2) 71 6 (lrow [Value.int .i64 0, .int .i64 0, .int .i64 0, .int .u64 0, .int .u64 0, .bool false]) ∧ IsRow w' g n cap (if c = true then f' else f) ∧ Touch W3 w' (fun k => k = g)) true w'' ∧ w'.grownBy w'' (some g) from fun w' ⟨p1, p2, p3, p4, p5⟩ => by
    have ls := p5.size
    refine (DO.out w' (by simpa using p4)).mono ?_
    rintro e w'' ⟨rfl, h1, h2⟩
    rw [HX.out]
    rw [HF.out] at h1
    exact ⟨rfl, ⟨p1.of_block (h2.block _ (by omega) (by simp; omega)), p2.of_block (h2.block _ (by omega) (by simp; omega)), p3.of_block (h2.block _ (by omega) (by simp; omega)), by simpa using h1, p5.trans' (Touch.of_grown h2) (fun k _ e => by simpa using e)⟩, h2⟩)
  go_enter Try.func53, Try.ntmps53
  go_wp2_with fail
  clear hW3 c6 c7 c11 c12 c13 c14 c15 c16 c22 c23
  refine RG.region (ks := [(0, 73), (1, 74), (2, 75), (3, 76), (4, 77), (5, 78), (6, 79), (7, 80), (8, 81), (9, 82), (10, 83), (11, 84), (12, 85), (13, 86), (14, 87), (15, 88)]) (vals := fun i => match i with
      | 0 => .slice (some ⟨g, 0, none⟩) n cap
      | 1 => .pointer (some ⟨w.heap.size, 6, none⟩)
      | 2 => .int .i64 hand
      | 3 => .int .i64 1
      | 4 => .pointer (some ⟨w.heap.size, 13, none⟩)
      | 5 => .pointer (some ⟨w.heap.size, 13, none⟩)
      | 6 => .int .u64 r0
      | 7 => .pointer (some ⟨w.heap.size, 13, none⟩)
      | 8 => .pointer (some ⟨w.heap.size, 13, none⟩)
      | 9 => .int .u64 r0
      | 10 => .pointer (some ⟨w.heap.size, 13, none⟩)
      | 11 => .pointer (some ⟨w.heap.size, 15, none⟩)
      | 12 => .int .u64 r2
      | 13 => .int .i64 ix
      | 14 => .int .u64 bp
      | 15 => .agg #[Value.int .i64 xh, .int .i64 xa, .int .i64 xt, .int .u64 xd, .int .u64 xp, .bool true]
      | _ => undef) (x := 14) (WI := fun L v w' => RG.SG (fun (c : Bool) (w' : World) => w'.rowIs w.heap.size 53 28 (lrow l0) ∧ w'.rowIs (w.heap.size + 1) 53 28 (lrow tk0) ∧ w'.rowIs (w.heap.size + 2) 71 6 (lrow [Value.int .i64 0, .int .i64 0, .int .i64 0, .int .u64 0, .int .u64 0, .bool false]) ∧ IsRow w' g n cap (if c = true then f' else f) ∧ Touch W3 w' (fun k => k = g)) ⟨xh, xa, xt, xd, xp, true⟩ W3 (L 15) (L 16) (L 17) v w') (by kernel_rfl) ?gg ?bk rfl ?dd ?xx (RG.SG.start ⟨HR0.out.drew, HR1.out.drew, HR2.out.drew, HR3.out.block rfl, (Touch.refl W3 _).drew⟩) ?does ?fin
  case gg =>
    intro i o ho
    have hi : i < 18 := by have := (Array.getElem?_eq_some_iff.1 ho).1; simpa using this
    match i, hi with
    | 0, _ | 1, _ | 2, _ | 3, _ | 4, _ | 5, _ | 6, _ | 7, _ | 8, _ | 9, _ | 10, _ | 11, _ | 12, _ | 13, _ | 14, _ | 15, _ | 16, _ | 17, _ => injection ho with ho; subst ho; rfl
  case bk =>
    intro i o ho
    have hi : i < 18 := by have := (Array.getElem?_eq_some_iff.1 ho).1; simpa using this
    match i, hi with
    | 0, _ | 1, _ | 2, _ | 3, _ | 4, _ | 5, _ | 6, _ | 7, _ | 8, _ | 9, _ | 10, _ | 11, _ | 12, _ | 13, _ | 14, _ | 15, _ | 16, _ | 17, _ => injection ho with ho; subst ho; simp [Region.binds]
  case dd =>
    intro k hk
    have hk' : k < 185 := by
      simp [RetN.D] at hk
      omega
    simpa using hk'
  case xx => simp
  case does =>
    intro i o ho
    have hi : i < 18 := by have := (Array.getElem?_eq_some_iff.1 ho).1; simpa using this
    match i, hi with
    | 0, _ => injection ho with ho; subst ho; exact RG.Does.read rfl (fun L v w' h => RG.SG.skip (by decide) (by decide) (by decide) h) (fun L a w' hI hd => ex_move rfl (hI.fix 1 (Reg.notD rfl) (by decide)))
    | 1, _ => injection ho with ho; subst ho; exact RG.Does.read rfl (fun L v w' h => RG.SG.skip (by decide) (by decide) (by decide) h) (fun L a w' hI hd => ex_fieldo rfl (hI.fix 2 (Reg.notD rfl) (by decide)) (fieldK1 w' _))
    | 2, _ => injection ho with ho; subst ho; exact RG.Does.read rfl (fun L v w' h => RG.SG.skip (by decide) (by decide) (by decide) h) (fun L a w' hI hd => ex_load rfl (hI.pure 1 _ _ rfl (hd ⟨1, .data⟩ (by simp) rfl)) (agg_i w') ((hI.world.inv.1.cell (i := 6) (by omega)).trans (congrArg some (lrow_of G6.out))))
    | 3, _ => injection ho with ho; subst ho; exact RG.Does.read rfl (fun L v w' h => RG.SG.skip (by decide) (by decide) (by decide) h) (fun L a w' hI hd => ex_move rfl (hI.fix 7 (Reg.notD rfl) (by decide)))
    | 4, _ => injection ho with ho; subst ho; exact RG.Does.read rfl (fun L v w' h => RG.SG.skip (by decide) (by decide) (by decide) h) (fun L a w' hI hd => ex_fieldo rfl (hI.fix 2 (Reg.notD rfl) (by decide)) (fieldK4 w' _))
    | 5, _ => injection ho with ho; subst ho; exact RG.Does.read rfl (fun L v w' h => RG.SG.skip (by decide) (by decide) (by decide) h) (fun L a w' hI hd => ex_r0 rfl (hI.pure 4 _ _ rfl (hd ⟨4, .data⟩ (by simp) rfl)) rfl)
    | 6, _ => injection ho with ho; subst ho; exact RG.Does.read rfl (fun L v w' h => RG.SG.skip (by decide) (by decide) (by decide) h) (fun L a w' hI hd => ex_load rfl (hI.pure 5 _ _ rfl (hd ⟨5, .data⟩ (by simp) rfl)) (agg_u64 w') ((hI.world.inv.1.cell (i := 13) (by omega)).trans (congrArg some (lrow_of G13.out))))
    | 7, _ => injection ho with ho; subst ho; exact RG.Does.read rfl (fun L v w' h => RG.SG.skip (by decide) (by decide) (by decide) h) (fun L a w' hI hd => ex_fieldo rfl (hI.fix 2 (Reg.notD rfl) (by decide)) (fieldK4 w' _))
    | 8, _ => injection ho with ho; subst ho; exact RG.Does.read rfl (fun L v w' h => RG.SG.skip (by decide) (by decide) (by decide) h) (fun L a w' hI hd => ex_r0 rfl (hI.pure 7 _ _ rfl (hd ⟨7, .data⟩ (by simp) rfl)) rfl)
    | 9, _ => injection ho with ho; subst ho; exact RG.Does.read rfl (fun L v w' h => RG.SG.skip (by decide) (by decide) (by decide) h) (fun L a w' hI hd => ex_load rfl (hI.pure 8 _ _ rfl (hd ⟨8, .data⟩ (by simp) rfl)) (agg_u64 w') ((hI.world.inv.1.cell (i := 13) (by omega)).trans (congrArg some (lrow_of G13.out))))
    | 10, _ => injection ho with ho; subst ho; exact RG.Does.read rfl (fun L v w' h => RG.SG.skip (by decide) (by decide) (by decide) h) (fun L a w' hI hd => ex_fieldo rfl (hI.fix 2 (Reg.notD rfl) (by decide)) (fieldK4 w' _))
    | 11, _ => injection ho with ho; subst ho; exact RG.Does.read rfl (fun L v w' h => RG.SG.skip (by decide) (by decide) (by decide) h) (fun L a w' hI hd => ex_r2 rfl (hI.pure 10 _ _ rfl (hd ⟨10, .data⟩ (by simp) rfl)) rfl)
    | 12, _ => injection ho with ho; subst ho; exact RG.Does.read rfl (fun L v w' h => RG.SG.skip (by decide) (by decide) (by decide) h) (fun L a w' hI hd => ex_load rfl (hI.pure 11 _ _ rfl (hd ⟨11, .data⟩ (by simp) rfl)) (agg_u64 w') ((hI.world.inv.1.cell (i := 15) (by omega)).trans (congrArg some (lrow_of G15.out))))
    | 13, _ => injection ho with ho; subst ho; exact RG.Does.ask rfl (fun L v w' h => RG.SG.skip (by decide) (by decide) (by decide) h) (fun L a w' hI hd => call1 rfl (hI.pure 12 _ _ rfl (hd ⟨12, .data⟩ (by simp) rfl)) rfl (callRIndex _ _)) (fun w => by rw [← HIX.out]; exact index_ref r2 HIC.out.1 (by have := HIC.out.2; omega) w)
    | 14, _ => injection ho with ho; subst ho; exact RG.Does.ask rfl (fun L v w' h => RG.SG.skip (by decide) (by decide) (by decide) h) (fun L a w' hI hd => call2 rfl (hI.pure 9 _ _ rfl (hd ⟨9, .data⟩ (by simp) rfl)) (hI.pure 13 _ _ rfl (hd ⟨13, .data⟩ (by simp) rfl)) rfl (callRBump _ _)) (fun w => by rw [← HBP.out]; exact bump_ref r0 ix HRB.out.1 (by have := HRB.out.2; omega) w)
    | 15, _ => injection ho with ho; subst ho; exact RG.Does.call rfl (fun L a w' hI hd => call6 rfl (hI.pure 0 _ _ rfl (hd ⟨0, .data⟩ (by simp) rfl)) (hI.pure 2 _ _ rfl (hd ⟨2, .data⟩ (by simp) rfl)) rfl (hI.pure 3 _ _ rfl (hd ⟨3, .data⟩ (by simp) rfl)) (hI.pure 6 _ _ rfl (hd ⟨6, .data⟩ (by simp) rfl)) (hI.pure 14 _ _ rfl (hd ⟨14, .data⟩ (by simp) rfl)) rfl (callRDo' _ _)) (RG.SG.calls DC.out HLG.out (by decide) (by decide))
    | 16, _ => injection ho with ho; subst ho; exact RG.Does.make (u := fun w' => .pointer (some ⟨w'.heap.size, 0, none⟩)) rfl rfl (fun ev w' => alloc46 rfl) (fun L v w' h hL => by show RG.SG _ _ _ (upd L 16 true 15) (upd L 16 true 16) (upd L 16 true 17) _ _; rw [upd_same, upd_other _ _ (show 15 ≠ 16 by decide), upd_other _ _ (show 17 ≠ 16 by decide)]; exact RG.SG.make STB.out h hL)
    | 17, _ => injection ho with ho; subst ho; exact RG.Does.put (ls := (⟨xh, xa, xt, xd, xp, true⟩ : Stp).cells) rfl rfl rfl size46 (by simp [Stp.cells, Value.oneCell']) (fun L a w' hI hL hd => ⟨(hI.pure 15 _ _ rfl (hd ⟨15, .data⟩ (by simp) rfl)), by obtain ⟨q, e1, e2, e3⟩ := RG.SG.put STB.out hI.world (hd ⟨15, .data⟩ (by simp) rfl) (hd ⟨16, .data⟩ (by simp) rfl) hL; exact ⟨q, 0, e1, e2, by show RG.SG _ _ _ (upd L 17 true 15) (upd L 17 true 16) (upd L 17 true 17) _ _; rw [upd_same, upd_other _ _ (show 15 ≠ 17 by decide), upd_other _ _ (show 16 ≠ 17 by decide)]; exact e3⟩⟩)
  case fin =>
    intro L a' w1 hI hall
    have hw := hI.world
    simp only [hall 15 (by decide), hall 16 (by decide), hall 17 (by decide)] at hw
    obtain ⟨q, hq, hq1, hq2, _, hrq⟩ := hw.own rfl
    replace hrq := hrq rfl
    obtain ⟨p1, p2, p3, p4, p5⟩ := hw.inv
    have ea := act_all a' 185 (by rw [hI.sz]; rfl) hI.df
    simp only [List.range, List.range.loop, List.map] at ea
    rw [hI.fix 0 (Reg.notD rfl) (by decide), hI.fix 1 (Reg.notD rfl) (by decide), hI.fix 2 (Reg.notD rfl) (by decide), hI.fix 3 (Reg.notD rfl) (by decide), hI.fix 4 (Reg.notD rfl) (by decide), hI.fix 5 (Reg.notD rfl) (by decide), hI.fix 6 (Reg.notD rfl) (by decide), hI.fix 7 (Reg.notD rfl) (by decide), hI.fix 8 (Reg.notD rfl) (by decide), hI.fix 9 (Reg.notD rfl) (by decide), hI.fix 10 (Reg.notD rfl) (by decide), hI.fix 11 (Reg.notD rfl) (by decide), hI.fix 12 (Reg.notD rfl) (by decide), hI.fix 13 (Reg.notD rfl) (by decide), hI.fix 15 (Reg.notD rfl) (by decide), hI.fix 16 (Reg.notD rfl) (by decide), hI.fix 17 (Reg.notD rfl) (by decide), hI.fix 18 (Reg.notD rfl) (by decide), hI.fix 19 (Reg.notD rfl) (by decide), hI.fix 20 (Reg.notD rfl) (by decide), hI.fix 21 (Reg.notD rfl) (by decide), hI.fix 22 (Reg.notD rfl) (by decide), hI.fix 23 (Reg.notD rfl) (by decide), hI.fix 24 (Reg.notD rfl) (by decide), hI.fix 25 (Reg.notD rfl) (by decide), hI.fix 26 (Reg.notD rfl) (by decide), hI.fix 27 (Reg.notD rfl) (by decide), hI.fix 28 (Reg.notD rfl) (by decide), hI.fix 29 (Reg.notD rfl) (by decide), hI.fix 30 (Reg.notD rfl) (by decide), hI.fix 31 (Reg.notD rfl) (by decide), hI.fix 32 (Reg.notD rfl) (by decide), hI.fix 33 (Reg.notD rfl) (by decide), hI.fix 34 (Reg.notD rfl) (by decide), hI.fix 35 (Reg.notD rfl) (by decide), hI.fix 36 (Reg.notD rfl) (by decide), hI.fix 37 (Reg.notD rfl) (by decide), hI.fix 38 (Reg.notD rfl) (by decide), hI.fix 39 (Reg.notD rfl) (by decide), hI.fix 40 (Reg.notD rfl) (by decide), hI.fix 41 (Reg.notD rfl) (by decide), hI.fix 42 (Reg.notD rfl) (by decide), hI.fix 43 (Reg.notD rfl) (by decide), hI.fix 44 (Reg.notD rfl) (by decide), hI.fix 45 (Reg.notD rfl) (by decide), hI.fix 46 (Reg.notD rfl) (by decide), hI.fix 47 (Reg.notD rfl) (by decide), hI.fix 48 (Reg.notD rfl) (by decide), hI.fix 49 (Reg.notD rfl) (by decide), hI.fix 50 (Reg.notD rfl) (by decide), hI.fix 51 (Reg.notD rfl) (by decide), hI.fix 52 (Reg.notD rfl) (by decide), hI.fix 53 (Reg.notD rfl) (by decide), hI.fix 54 (Reg.notD rfl) (by decide), hI.fix 55 (Reg.notD rfl) (by decide), hI.fix 56 (Reg.notD rfl) (by decide), hI.fix 57 (Reg.notD rfl) (by decide), hI.fix 58 (Reg.notD rfl) (by decide), hI.fix 59 (Reg.notD rfl) (by decide), hI.fix 60 (Reg.notD rfl) (by decide), hI.fix 61 (Reg.notD rfl) (by decide), hI.fix 62 (Reg.notD rfl) (by decide), hI.fix 63 (Reg.notD rfl) (by decide), hI.fix 64 (Reg.notD rfl) (by decide), hI.fix 65 (Reg.notD rfl) (by decide), hI.fix 66 (Reg.notD rfl) (by decide), hI.fix 67 (Reg.notD rfl) (by decide), hI.fix 68 (Reg.notD rfl) (by decide), hI.fix 69 (Reg.notD rfl) (by decide), hI.fix 70 (Reg.notD rfl) (by decide), hI.fix 71 (Reg.notD rfl) (by decide), hI.fix 72 (Reg.notD rfl) (by decide), hI.fix 89 (Reg.notD rfl) (by decide), hI.fix 90 (Reg.notD rfl) (by decide), hI.fix 91 (Reg.notD rfl) (by decide), hI.fix 92 (Reg.notD rfl) (by decide), hI.fix 93 (Reg.notD rfl) (by decide), hI.fix 94 (Reg.notD rfl) (by decide), hI.fix 95 (Reg.notD rfl) (by decide), hI.fix 96 (Reg.notD rfl) (by decide), hI.fix 97 (Reg.notD rfl) (by decide), hI.fix 98 (Reg.notD rfl) (by decide), hI.fix 99 (Reg.notD rfl) (by decide), hI.fix 100 (Reg.notD rfl) (by decide), hI.fix 101 (Reg.notD rfl) (by decide), hI.fix 102 (Reg.notD rfl) (by decide), hI.fix 103 (Reg.notD rfl) (by decide), hI.fix 104 (Reg.notD rfl) (by decide), hI.fix 105 (Reg.notD rfl) (by decide), hI.fix 106 (Reg.notD rfl) (by decide), hI.fix 107 (Reg.notD rfl) (by decide), hI.fix 108 (Reg.notD rfl) (by decide), hI.fix 109 (Reg.notD rfl) (by decide), hI.fix 110 (Reg.notD rfl) (by decide), hI.fix 111 (Reg.notD rfl) (by decide), hI.fix 112 (Reg.notD rfl) (by decide), hI.fix 113 (Reg.notD rfl) (by decide), hI.fix 114 (Reg.notD rfl) (by decide), hI.fix 115 (Reg.notD rfl) (by decide), hI.fix 116 (Reg.notD rfl) (by decide), hI.fix 117 (Reg.notD rfl) (by decide), hI.fix 118 (Reg.notD rfl) (by decide), hI.fix 119 (Reg.notD rfl) (by decide), hI.fix 120 (Reg.notD rfl) (by decide), hI.fix 121 (Reg.notD rfl) (by decide), hI.fix 122 (Reg.notD rfl) (by decide), hI.fix 123 (Reg.notD rfl) (by decide), hI.fix 124 (Reg.notD rfl) (by decide), hI.fix 125 (Reg.notD rfl) (by decide), hI.fix 126 (Reg.notD rfl) (by decide), hI.fix 127 (Reg.notD rfl) (by decide), hI.fix 128 (Reg.notD rfl) (by decide), hI.fix 129 (Reg.notD rfl) (by decide), hI.fix 130 (Reg.notD rfl) (by decide), hI.fix 131 (Reg.notD rfl) (by decide), hI.fix 132 (Reg.notD rfl) (by decide), hI.fix 133 (Reg.notD rfl) (by decide), hI.fix 134 (Reg.notD rfl) (by decide), hI.fix 135 (Reg.notD rfl) (by decide), hI.fix 136 (Reg.notD rfl) (by decide), hI.fix 137 (Reg.notD rfl) (by decide), hI.fix 138 (Reg.notD rfl) (by decide), hI.fix 139 (Reg.notD rfl) (by decide), hI.fix 140 (Reg.notD rfl) (by decide), hI.fix 141 (Reg.notD rfl) (by decide), hI.fix 142 (Reg.notD rfl) (by decide), hI.fix 143 (Reg.notD rfl) (by decide), hI.fix 144 (Reg.notD rfl) (by decide), hI.fix 145 (Reg.notD rfl) (by decide), hI.fix 146 (Reg.notD rfl) (by decide), hI.fix 147 (Reg.notD rfl) (by decide), hI.fix 148 (Reg.notD rfl) (by decide), hI.fix 149 (Reg.notD rfl) (by decide), hI.fix 150 (Reg.notD rfl) (by decide), hI.fix 151 (Reg.notD rfl) (by decide), hI.fix 152 (Reg.notD rfl) (by decide), hI.fix 153 (Reg.notD rfl) (by decide), hI.fix 154 (Reg.notD rfl) (by decide), hI.fix 155 (Reg.notD rfl) (by decide), hI.fix 156 (Reg.notD rfl) (by decide), hI.fix 157 (Reg.notD rfl) (by decide), hI.fix 158 (Reg.notD rfl) (by decide), hI.fix 159 (Reg.notD rfl) (by decide), hI.fix 160 (Reg.notD rfl) (by decide), hI.fix 161 (Reg.notD rfl) (by decide), hI.fix 162 (Reg.notD rfl) (by decide), hI.fix 163 (Reg.notD rfl) (by decide), hI.fix 164 (Reg.notD rfl) (by decide), hI.fix 165 (Reg.notD rfl) (by decide), hI.fix 166 (Reg.notD rfl) (by decide), hI.fix 167 (Reg.notD rfl) (by decide), hI.fix 168 (Reg.notD rfl) (by decide), hI.fix 169 (Reg.notD rfl) (by decide), hI.fix 170 (Reg.notD rfl) (by decide), hI.fix 171 (Reg.notD rfl) (by decide), hI.fix 172 (Reg.notD rfl) (by decide), hI.fix 173 (Reg.notD rfl) (by decide), hI.fix 174 (Reg.notD rfl) (by decide), hI.fix 175 (Reg.notD rfl) (by decide), hI.fix 176 (Reg.notD rfl) (by decide), hI.fix 177 (Reg.notD rfl) (by decide), hI.fix 178 (Reg.notD rfl) (by decide), hI.fix 179 (Reg.notD rfl) (by decide), hI.fix 180 (Reg.notD rfl) (by decide), hI.fix 181 (Reg.notD rfl) (by decide), hI.fix 182 (Reg.notD rfl) (by decide), hI.fix 183 (Reg.notD rfl) (by decide), hI.fix 184 (Reg.notD rfl) (by decide), hq] at ea
    clear hI hall
    generalize a'.eval (.tmp 73) = u73 at ea
    generalize a'.eval (.tmp 74) = u74 at ea
    generalize a'.eval (.tmp 75) = u75 at ea
    generalize a'.eval (.tmp 76) = u76 at ea
    generalize a'.eval (.tmp 77) = u77 at ea
    generalize a'.eval (.tmp 78) = u78 at ea
    generalize a'.eval (.tmp 79) = u79 at ea
    generalize a'.eval (.tmp 80) = u80 at ea
    generalize a'.eval (.tmp 81) = u81 at ea
    generalize a'.eval (.tmp 82) = u82 at ea
    generalize a'.eval (.tmp 83) = u83 at ea
    generalize a'.eval (.tmp 84) = u84 at ea
    generalize a'.eval (.tmp 85) = u85 at ea
    generalize a'.eval (.tmp 86) = u86 at ea
    generalize a'.eval (.tmp 87) = u87 at ea
    generalize a'.eval (.tmp 88) = u88 at ea
    simp only [show ∀ (ts : Array Value) (ds) (i : Nat), (Act.mk ts ds).eval (.tmp i) = ts.getD i undef from fun _ _ _ => rfl] at ea
    simp at ea
    subst ea
    have HR4 := hide p1
    have HR5 := hide p2
    have HR6 := hide p3
    have HR1' := hide (show IsRow w1 g n cap f' from by simpa using p4)
    have HT5 := hide p5
    have HQ := hide hrq
    have ls := p5.size
    have hqb : q ≠ w.heap.size := by omega
    have hqb' : w.heap.size ≠ q := by omega
    have l1w : w.heap.size < w1.heap.size := by omega
    clear hw hq hrq p1 p2 p3 p4 p5 STB DC
    have e6 : w1.cell? ⟨w.heap.size, 6, none⟩ = some (.int .i64 hand) := by rw [HR4.out.cell (i := 6) (by omega), lrow_of G6.out]
    have f6 := HR4.out.frozen 6
    have e7 : w1.cell? ⟨w.heap.size, 7, none⟩ = some (.int .i64 1) := by rw [HR4.out.cell (i := 7) (by omega), lrow_of G7.out]
    have f7 := HR4.out.frozen 7
    have e11 : w1.cell? ⟨w.heap.size, 11, none⟩ = some (.int .u64 hh) := by rw [HR4.out.cell (i := 11) (by omega), lrow_of G11.out]
    have f11 := HR4.out.frozen 11
    have e12 : w1.cell? ⟨w.heap.size, 12, none⟩ = some (.int .i64 2) := by rw [HR4.out.cell (i := 12) (by omega), lrow_of G12.out]
    have f12 := HR4.out.frozen 12
    have e13 : w1.cell? ⟨w.heap.size, 13, none⟩ = some (.int .u64 r0) := by rw [HR4.out.cell (i := 13) (by omega), lrow_of G13.out]
    have f13 := HR4.out.frozen 13
    have e14 : w1.cell? ⟨w.heap.size, 14, none⟩ = some (.int .u64 r1) := by rw [HR4.out.cell (i := 14) (by omega), lrow_of G14.out]
    have f14 := HR4.out.frozen 14
    have e15 : w1.cell? ⟨w.heap.size, 15, none⟩ = some (.int .u64 r2) := by rw [HR4.out.cell (i := 15) (by omega), lrow_of G15.out]
    have f15 := HR4.out.frozen 15
    have e16 : w1.cell? ⟨w.heap.size, 16, none⟩ = some (.int .u64 r3) := by rw [HR4.out.cell (i := 16) (by omega), lrow_of G16.out]
    have f16 := HR4.out.frozen 16
    have e22 : w1.cell? ⟨w.heap.size, 22, none⟩ = some (.bool ok) := by rw [HR4.out.cell (i := 22) (by omega), lrow_of G22.out]
    have f22 := HR4.out.frozen 22
    have e23 : w1.cell? ⟨w.heap.size, 23, none⟩ = some (.int .u64 val) := by rw [HR4.out.cell (i := 23) (by omega), lrow_of G23.out]
    have f23 := HR4.out.frozen 23
    have s0' : w1.cell? ⟨q, 0, none⟩ = some (.int .i64 xh) := by have := HQ.out 0 _ rfl; simpa using this
    have s1' : w1.cell? ⟨q, 1, none⟩ = some (.int .i64 xa) := by have := HQ.out 1 _ rfl; simpa using this
    have s2' : w1.cell? ⟨q, 2, none⟩ = some (.int .i64 xt) := by have := HQ.out 2 _ rfl; simpa using this
    have s3' : w1.cell? ⟨q, 3, none⟩ = some (.int .u64 xd) := by have := HQ.out 3 _ rfl; simpa using this
    have s4' : w1.cell? ⟨q, 4, none⟩ = some (.int .u64 xp) := by have := HQ.out 4 _ rfl; simpa using this
    have s5' : w1.cell? ⟨q, 5, none⟩ = some (.bool true) := by have := HQ.out 5 _ rfl; simpa using this
    go_wp2_with fail
    obtain ⟨WA, hWA⟩ : ∃ w2, ((w1.setCell ⟨w.heap.size, 12, none⟩ (.int .i64 0)).setCell ⟨w.heap.size, 12, none⟩ (.int .i64 3)) = w2 := ⟨_, rfl⟩
    have szA : WA.heap.size = w1.heap.size := by rw [← hWA]; simp
    have tt2 : Touch w1 WA (fun k => k = w.heap.size) := by rw [← hWA]; exact (Touch.setCell (S := fun k => k = w.heap.size) (Touch.setCell (S := fun k => k = w.heap.size) (Touch.refl w1 _) ⟨w.heap.size, 12, none⟩ (.inl rfl) _) ⟨w.heap.size, 12, none⟩ (.inl rfl) _)
    have rA : WA.rangeAt w.heap.size 0 l1 := by
      have := rowIs.range (rowIs.setL (rowIs.setL HR4.out (i := 12) (by simp [HL0.out]) (.int .i64 0)) (i := 12) (by simp [HL0.out]) (.int .i64 3)) (by simp [HL0.out])
      rw [HSET.out, hWA] at this
      exact this
    have rB : WA.rangeAt q 0 [Value.int .i64 xh, .int .i64 xa, .int .i64 xt, .int .u64 xd, .int .u64 xp, .bool true] := rangeAt_block HQ.out (tt2.block _ hq2 (by omega))
    have tC : WA.there (w.heap.size + 1) 0 28 := rowIs.there (HR5.out.of_block (tt2.block _ (by omega) (by omega))) (by omega)
    have tD : WA.there (w.heap.size + 2) 0 6 := rowIs.there (HR6.out.of_block (tt2.block _ (by omega) (by omega))) (by omega)
    have rW : IsRow WA g n cap f' := HR1'.out.block (tt2.block g (by omega) (by omega))
    have TW : Touch w WA (fun k => k = g) := (((Touch.of_grown HG3.out).mono (S' := fun k => k = g) (fun k _ h => by simpa using h)).trans' HT5.out (fun k _ h => h)).trans' tt2 (fun k hk h => absurd hk (by omega))
    rw [hWA]
    have HTW := hide TW
    have HRW := hide rW
    clear TW rW hWA
    refine RetN.region (ks := [(0, 93), (1, 94), (4, 6)]) (vals := fun i => match i with
        | 0 => .agg l1.toArray
        | 1 => .agg #[Value.int .i64 xh, .int .i64 xa, .int .i64 xt, .int .u64 xd, .int .u64 xp, .bool true]
        | 4 => .bool false
        | _ => undef) (C := w.heap.size + 1) (E := w.heap.size + 2) (iC := 2) (iE := 3) (lt := l1) (ls := [Value.int .i64 xh, .int .i64 xa, .int .i64 xt, .int .u64 xd, .int .u64 xp, .bool true]) (by kernel_rfl) ?g2 ?b2 rfl (by omega) (by decide) ?dd2 hl1i.out.2 (by simp [Value.oneCell']) (by rw [hl1i.out.1]; exact tC) tD ?kinds2 ?fin2
    case g2 =>
      intro i o ho
      have hi : i < 5 := by have := (Array.getElem?_eq_some_iff.1 ho).1; simpa using this
      match i, hi with
      | 0, _ | 1, _ | 2, _ | 3, _ | 4, _ => injection ho with ho; subst ho; rfl
    case b2 =>
      intro i o ho
      have hi : i < 5 := by have := (Array.getElem?_eq_some_iff.1 ho).1; simpa using this
      match i, hi with
      | 0, _ | 1, _ | 2, _ | 3, _ | 4, _ => injection ho with ho; subst ho; simp [Region.binds]
    case dd2 =>
      intro k hk
      have hk' : k < 185 := by
        simp [RetN.D] at hk
        omega
      simpa using hk'
    case kinds2 =>
      intro i o ho
      have hi : i < 5 := by have := (Array.getElem?_eq_some_iff.1 ho).1; simpa using this
      match i, hi with
      | 0, _ => injection ho with ho; subst ho; exact .inl ⟨93, _, rfl, rfl, fun L a w' hI hd => ex_load_row rfl (hI.fix 2 (Reg.notD rfl)) (rangeAt_block rA (hI.tch.block _ (by omega) (by omega))) HD.out.1 HD.out.2.1 (by rw [hl1i.out.1]; exact size79)⟩
      | 1, _ => injection ho with ho; subst ho; exact .inl ⟨94, _, rfl, rfl, fun L a w' hI hd => ex_load_row rfl (hI.fix 14 (Reg.notD rfl)) (rangeAt_block rB (hI.tch.block _ (by omega) (by omega))) HD.out.2.2.1 HD.out.2.2.2 size46⟩
      | 2, _ => injection ho with ho; subst ho; exact .inr (.inl ⟨rfl, rfl, _, _, _, rfl, (by rw [hl1i.out.1]; exact size79), fun L a w' hI hd => ⟨hI.fix 4 (Reg.notD rfl), (hI.pure 0 _ _ rfl (hd ⟨0, .data⟩ (by simp) rfl))⟩⟩)
      | 3, _ => injection ho with ho; subst ho; exact .inr (.inr ⟨rfl, rfl, _, _, _, rfl, size46, fun L a w' hI hd => ⟨hI.fix 5 (Reg.notD rfl), (hI.pure 1 _ _ rfl (hd ⟨1, .data⟩ (by simp) rfl))⟩⟩)
      | 4, _ => injection ho with ho; subst ho; exact .inl ⟨6, _, rfl, rfl, fun L a w' hI hd => ex_assign rfl rfl⟩
    case fin2 =>
      intro L a' w' hI hall
      rename_i K2 hK2
      refine hK2 _ _ ?_
      have rC := hI.sC (hall 2 (by decide))
      have rD := hI.sE (hall 3 (by decide))
      have pC : a'.eval (.tmp 4) = .pointer (some ⟨w.heap.size + 1, 0, none⟩) := hI.fix 4 (Reg.notD rfl)
      have pD : a'.eval (.tmp 5) = .pointer (some ⟨w.heap.size + 2, 0, none⟩) := hI.fix 5 (Reg.notD rfl)
      have pe : a'.eval (.tmp 6) = .bool false := hI.pure 4 6 _ rfl (hall 4 (by decide))
      have tch := hI.tch
      have hdf : a'.defers = [] := hI.df
      have hT := run_loadVar_mid (P := Try.prog) w' (w.heap.size + 1) 0 _ l1 dT rC HD.out.1 HD.out.2.1 (by rw [hl1i.out.1]; exact size79)
      have hS := run_loadVar_mid (P := Try.prog) w' (w.heap.size + 2) 0 _ _ dS rD HD.out.2.2.1 HD.out.2.2.2 size46
      have hres := results_cct (Q := Try.prog) (fn := Try.f53) (tmps := a'.tmps) (t := 4) (t' := 5) (t'' := 6) (W := w') (by rfl) pC hT pD hS
      rw [show a'.tmps.getD 6 undef = .bool false from pe] at hres
      go_wp2
      refine bodyPost_ret (v := .tuple #[.agg l1.toArray, (⟨xh, xa, xt, xd, xp, true⟩ : Stp).val, .bool false]) hres hdf ⟨rfl, HRW.out.block (tch.block g HRW.out.lt (by omega)), ?_⟩
      have := HTW.out.trans' tch (fun k hk h => absurd hk (by omega))
      exact ⟨this.os, this.tape, this.output, this.size, fun k hk hn => this.block k hk (by simpa using hn)⟩

set_option maxHeartbeats 8000000 in
theorem rtake_push_false {w : World} {g n cap : Nat} {f f' : Nat → Int} {xh xa xt xd xp : Int} {s0 s1 s2 s3 s4 s5 hand a b c hh r0 r1 r2 r3 val : Int} {ok : Bool} (hr : IsRow w g n cap f) (hr1 : 0 ≤ r1 ∧ r1 < 4294967296) {ix bp : Int} (h0 : 0 ≤ r0 ∧ r0 ≤ 18446744073709551615) (h2 : 0 ≤ r2 ∧ r2 ≤ 18446744073709551615) (hix : r2 % 4294967296 = ix) (hbp : bump r0 ix = bp)  (hx : stepOf n f ⟨hand, 5, 1, r0, bp, true⟩ = ⟨xh, xa, xt, xd, xp, false⟩) (hf' : wordsOf n f ⟨hand, 5, 1, r0, bp, true⟩ = f') :
    Calls Try.prog 53 #[.agg (tk ⟨s0, s1, s2, s3, s4, s5⟩ hand ⟨1, a, b, c, hh⟩ 2 ⟨r0, r1, r2, r3, 0, 0, 0, 0⟩ ⟨ok, val⟩).toArray, .slice (some ⟨g, 0, none⟩) n cap] w fun e w' =>
      e = .returned (.tuple #[.agg (tk ⟨s0, s1, s2, s3, s4, s5⟩ hand ⟨1, a, b, c, hh⟩ 0 ⟨r0, r1, r2, r3, 0, 0, 0, 0⟩ ⟨ok, val⟩).toArray, (⟨xh, xa, xt, xd, xp, false⟩ : Stp).val, .bool false]) ∧ IsRow w' g n cap f' ∧ w.grownBy w' (some g) := by
  have DO := hide (fun (w' : World) (hr' : IsRow w' g n cap f) => ref_do (s := ⟨hand, 5, 1, r0, bp, true⟩) hr' (by rw [← hbp]; exact ⟨bump_lo _ _, bump_hi _ _⟩) ⟨by show (1 : Int) ≤ 5; decide, by show (5 : Int) ≤ 5; decide⟩)
  have HX := hide hx
  have HF := hide hf'
  have lg := hr.lt
  have a1 : wrap64 r1 = r1 := by unfold wrap64; omega
  have a1' : IntKind.i64.wrap r1 = r1 := by rw [IntKind.wrap_i64]; omega
  have a2 : wrap64 (2 * r1) = 2 * r1 := by unfold wrap64; omega
  have a3 : wrap64 (2 * r1 + 1) = 2 * r1 + 1 := by unfold wrap64; omega
  obtain ⟨l0, hl0⟩ : ∃ l, tk ⟨s0, s1, s2, s3, s4, s5⟩ hand ⟨1, a, b, c, hh⟩ 2 ⟨r0, r1, r2, r3, 0, 0, 0, 0⟩ ⟨ok, val⟩ = l := ⟨_, rfl⟩
  have hl0' : l0.length = 28 := by rw [← hl0]; rfl
  have hset : (l0.set 12 (.int .i64 0)) = tk ⟨s0, s1, s2, s3, s4, s5⟩ hand ⟨1, a, b, c, hh⟩ 0 ⟨r0, r1, r2, r3, 0, 0, 0, 0⟩ ⟨ok, val⟩ := by rw [← hl0]; rfl
  obtain ⟨l1, hl1⟩ : ∃ l, tk ⟨s0, s1, s2, s3, s4, s5⟩ hand ⟨1, a, b, c, hh⟩ 0 ⟨r0, r1, r2, r3, 0, 0, 0, 0⟩ ⟨ok, val⟩ = l := ⟨_, rfl⟩
  rw [hl0, hl1]
  rw [hl1] at hset
  have hl1i := hide (show IsTk l1 from by rw [← hl1]; exact tk_is _ _ _ _ _ _)
  obtain ⟨W3, hW3⟩ : ∃ W3, ((w.alloc (.cells l0.toArray 53)).alloc (.cells tk0.toArray 53)).alloc (.cells [Value.int .i64 0, .int .i64 0, .int .i64 0, .int .u64 0, .int .u64 0, .bool false].toArray 71) = W3 := ⟨_, rfl⟩
  have sz3 : W3.heap.size = w.heap.size + 3 := by rw [← hW3]; simp
  have R0 : W3.rowIs w.heap.size 53 28 (lrow l0) := by rw [← hW3]; exact ((rowL_alloc w l0 _ hl0').alloc _).alloc _
  have R1 : W3.rowIs (w.heap.size + 1) 53 28 (lrow tk0) := by
    rw [← hW3]
    have := (rowL_alloc (w.alloc (.cells l0.toArray 53)) tk0 53 (n := 28) rfl).alloc (.cells [Value.int .i64 0, .int .i64 0, .int .i64 0, .int .u64 0, .int .u64 0, .bool false].toArray 71)
    rwa [World.size_alloc] at this
  have R2 : W3.rowIs (w.heap.size + 2) 71 6 (lrow [Value.int .i64 0, .int .i64 0, .int .i64 0, .int .u64 0, .int .u64 0, .bool false]) := by
    rw [← hW3]
    have := rowL_alloc ((w.alloc (.cells l0.toArray 53)).alloc (.cells tk0.toArray 53)) [Value.int .i64 0, .int .i64 0, .int .i64 0, .int .u64 0, .int .u64 0, .bool false] 71 (n := 6) rfl
    rwa [World.size_alloc, World.size_alloc] at this
  have G3 : w.grownBy W3 (some g) := by rw [← hW3]; exact grown_alloc (grown_alloc (grown_alloc (grown_refl _ _) _) _) _
  have HR3 := hide (show IsRow W3 g n cap f from hr.grown (grown_none (by rw [← hW3]; exact grown_alloc (grown_alloc (grown_alloc (grown_refl _ _) _) _) _) none) (by simp))
  have cell : ∀ i v, l0[i]? = some v → W3.cell? ⟨w.heap.size, i, none⟩ = some v := fun i v hv => by rw [R0.cell (i := i) (by have := (List.getElem?_eq_some_iff.1 hv).1; omega), lrow_of hv]
  have g6 : l0[6]? = some (.int .i64 hand) := by rw [← hl0]; rfl
  have g7 : l0[7]? = some (.int .i64 1) := by rw [← hl0]; rfl
  have g11 : l0[11]? = some (.int .u64 hh) := by rw [← hl0]; rfl
  have g12 : l0[12]? = some (.int .i64 2) := by rw [← hl0]; rfl
  have g13 : l0[13]? = some (.int .u64 r0) := by rw [← hl0]; rfl
  have g14 : l0[14]? = some (.int .u64 r1) := by rw [← hl0]; rfl
  have g15 : l0[15]? = some (.int .u64 r2) := by rw [← hl0]; rfl
  have g16 : l0[16]? = some (.int .u64 r3) := by rw [← hl0]; rfl
  have g22 : l0[22]? = some (.bool ok) := by rw [← hl0]; rfl
  have g23 : l0[23]? = some (.int .u64 val) := by rw [← hl0]; rfl
  have c6 := cell 6 _ g6
  have c7 := cell 7 _ g7
  have c11 := cell 11 _ g11
  have c12 := cell 12 _ g12
  have c13 := cell 13 _ g13
  have c14 := cell 14 _ g14
  have c15 := cell 15 _ g15
  have c16 := cell 16 _ g16
  have c22 := cell 22 _ g22
  have c23 := cell 23 _ g23
  have G6 := hide g6
  have G7 := hide g7
  have G11 := hide g11
  have G12 := hide g12
  have G13 := hide g13
  have G14 := hide g14
  have G15 := hide g15
  have G16 := hide g16
  have G22 := hide g22
  have G23 := hide g23
  obtain ⟨dT, hdT1, hdT2⟩ := row79
  obtain ⟨dS, hdS1, hdS2⟩ := row46
  have HD := hide (And.intro hdT1 (And.intro hdT2 (And.intro hdS1 hdS2)))
  have HR0 := hide R0
  have HR1 := hide R1
  have HR2 := hide R2
  have HG3 := hide G3
  have HSET := hide hset
  have HL0 := hide hl0'
  have HRB := hide h0
  have HIC := hide h2
  have HIX := hide hix
  have HBP := hide hbp
  clear hx hf' hr hr1 R0 R1 R2 G3 cell hset hl0' hl0 hl1 hdT1 hdT2 hdS1 hdS2 h0 h2 hix hbp g6 g7 g11 g12 g13 g14 g15 g16 g22 g23
  simp only [tk0] at hW3
  have STB := hide (show ∀ c w' w'', Below W3.heap.size w' w'' → W3.heap.size ≤ w'.heap.size → (fun (c : Bool) (w' : World) => w'.rowIs w.heap.size 53 28 (lrow l0) ∧ w'.rowIs (w.heap.size + 1) 53 28 (lrow tk0) ∧ w'.rowIs (w.heap.size + 2) 71 6 (lrow [Value.int .i64 0, .int .i64 0, .int .i64 0, .int .u64 0, .int .u64 0, .bool false]) ∧ IsRow w' g n cap (if c = true then f' else f) ∧ Touch W3 w' (fun k => k = g)) c w' → (fun (c : Bool) (w' : World) => w'.rowIs w.heap.size 53 28 (lrow l0) ∧ w'.rowIs (w.heap.size + 1) 53 28 (lrow tk0) ∧ w'.rowIs (w.heap.size + 2) 71 6 (lrow [Value.int .i64 0, .int .i64 0, .int .i64 0, .int .u64 0, .int .u64 0, .bool false]) ∧ IsRow w' g n cap (if c = true then f' else f) ∧ Touch W3 w' (fun k => k = g)) c w'' from fun c w' w'' hb hs ⟨p1, p2, p3, p4, p5⟩ =>
    ⟨p1.of_block (hb.block _ (by omega)), p2.of_block (hb.block _ (by omega)), p3.of_block (hb.block _ (by omega)), p4.block (hb.block g (by omega)), ⟨hb.os.trans p5.os, hb.tape.trans p5.tape, hb.output.trans p5.output, Nat.le_trans p5.size hb.size, fun k hk hn => (hb.block k hk).trans (p5.block k hk hn)⟩⟩)
  have HLG := hide (show g < W3.heap.size by omega)
  have DC := hide (show ∀ w', (fun (c : Bool) (w' : World) => w'.rowIs w.heap.size 53 28 (lrow l0) ∧ w'.rowIs (w.heap.size + 1) 53 28 (lrow tk0) ∧ w'.rowIs (w.heap.size + 2) 71 6 (lrow [Value.int .i64 0, .int .i64 0, .int .i64 0, .int .u64 0, .int .u64 0, .bool false]) ∧ IsRow w' g n cap (if c = true then f' else f) ∧ Touch W3 w' (fun k => k = g)) false w' → Calls Try.prog 68 #[.slice (some ⟨g, 0, none⟩) n cap, .int .i64 hand, .int .i64 5, .int .i64 (1), .int .u64 r0, .int .u64 bp] w' fun e w'' => e = .returned (⟨xh, xa, xt, xd, xp, false⟩ : Stp).val ∧ (fun (c : Bool) (w' : World) => w'.rowIs w.heap.size 53 28 (lrow l0) ∧ w'.rowIs (w.heap.size + 1) 53 28 (lrow tk0) ∧ w'.rowIs (w.heap.size + 2) 71 6 (lrow [Value.int .i64 0, .int .i64 0, .int .i64 0, .int .u64 0, .int .u64 0, .bool false]) ∧ IsRow w' g n cap (if c = true then f' else f) ∧ Touch W3 w' (fun k => k = g)) true w'' ∧ w'.grownBy w'' (some g) from fun w' ⟨p1, p2, p3, p4, p5⟩ => by
    have ls := p5.size
    refine (DO.out w' (by simpa using p4)).mono ?_
    rintro e w'' ⟨rfl, h1, h2⟩
    rw [HX.out]
    rw [HF.out] at h1
    exact ⟨rfl, ⟨p1.of_block (h2.block _ (by omega) (by simp; omega)), p2.of_block (h2.block _ (by omega) (by simp; omega)), p3.of_block (h2.block _ (by omega) (by simp; omega)), by simpa using h1, p5.trans' (Touch.of_grown h2) (fun k _ e => by simpa using e)⟩, h2⟩)
  go_enter Try.func53, Try.ntmps53
  go_wp2_with fail
  clear hW3 c6 c7 c11 c12 c13 c14 c15 c16 c22 c23
  refine RG.region (ks := [(0, 73), (1, 74), (2, 75), (3, 76), (4, 77), (5, 78), (6, 79), (7, 80), (8, 81), (9, 82), (10, 83), (11, 84), (12, 85), (13, 86), (14, 87), (15, 88)]) (vals := fun i => match i with
      | 0 => .slice (some ⟨g, 0, none⟩) n cap
      | 1 => .pointer (some ⟨w.heap.size, 6, none⟩)
      | 2 => .int .i64 hand
      | 3 => .int .i64 1
      | 4 => .pointer (some ⟨w.heap.size, 13, none⟩)
      | 5 => .pointer (some ⟨w.heap.size, 13, none⟩)
      | 6 => .int .u64 r0
      | 7 => .pointer (some ⟨w.heap.size, 13, none⟩)
      | 8 => .pointer (some ⟨w.heap.size, 13, none⟩)
      | 9 => .int .u64 r0
      | 10 => .pointer (some ⟨w.heap.size, 13, none⟩)
      | 11 => .pointer (some ⟨w.heap.size, 15, none⟩)
      | 12 => .int .u64 r2
      | 13 => .int .i64 ix
      | 14 => .int .u64 bp
      | 15 => .agg #[Value.int .i64 xh, .int .i64 xa, .int .i64 xt, .int .u64 xd, .int .u64 xp, .bool false]
      | _ => undef) (x := 14) (WI := fun L v w' => RG.SG (fun (c : Bool) (w' : World) => w'.rowIs w.heap.size 53 28 (lrow l0) ∧ w'.rowIs (w.heap.size + 1) 53 28 (lrow tk0) ∧ w'.rowIs (w.heap.size + 2) 71 6 (lrow [Value.int .i64 0, .int .i64 0, .int .i64 0, .int .u64 0, .int .u64 0, .bool false]) ∧ IsRow w' g n cap (if c = true then f' else f) ∧ Touch W3 w' (fun k => k = g)) ⟨xh, xa, xt, xd, xp, false⟩ W3 (L 15) (L 16) (L 17) v w') (by kernel_rfl) ?gg ?bk rfl ?dd ?xx (RG.SG.start ⟨HR0.out.drew, HR1.out.drew, HR2.out.drew, HR3.out.block rfl, (Touch.refl W3 _).drew⟩) ?does ?fin
  case gg =>
    intro i o ho
    have hi : i < 18 := by have := (Array.getElem?_eq_some_iff.1 ho).1; simpa using this
    match i, hi with
    | 0, _ | 1, _ | 2, _ | 3, _ | 4, _ | 5, _ | 6, _ | 7, _ | 8, _ | 9, _ | 10, _ | 11, _ | 12, _ | 13, _ | 14, _ | 15, _ | 16, _ | 17, _ => injection ho with ho; subst ho; rfl
  case bk =>
    intro i o ho
    have hi : i < 18 := by have := (Array.getElem?_eq_some_iff.1 ho).1; simpa using this
    match i, hi with
    | 0, _ | 1, _ | 2, _ | 3, _ | 4, _ | 5, _ | 6, _ | 7, _ | 8, _ | 9, _ | 10, _ | 11, _ | 12, _ | 13, _ | 14, _ | 15, _ | 16, _ | 17, _ => injection ho with ho; subst ho; simp [Region.binds]
  case dd =>
    intro k hk
    have hk' : k < 185 := by
      simp [RetN.D] at hk
      omega
    simpa using hk'
  case xx => simp
  case does =>
    intro i o ho
    have hi : i < 18 := by have := (Array.getElem?_eq_some_iff.1 ho).1; simpa using this
    match i, hi with
    | 0, _ => injection ho with ho; subst ho; exact RG.Does.read rfl (fun L v w' h => RG.SG.skip (by decide) (by decide) (by decide) h) (fun L a w' hI hd => ex_move rfl (hI.fix 1 (Reg.notD rfl) (by decide)))
    | 1, _ => injection ho with ho; subst ho; exact RG.Does.read rfl (fun L v w' h => RG.SG.skip (by decide) (by decide) (by decide) h) (fun L a w' hI hd => ex_fieldo rfl (hI.fix 2 (Reg.notD rfl) (by decide)) (fieldK1 w' _))
    | 2, _ => injection ho with ho; subst ho; exact RG.Does.read rfl (fun L v w' h => RG.SG.skip (by decide) (by decide) (by decide) h) (fun L a w' hI hd => ex_load rfl (hI.pure 1 _ _ rfl (hd ⟨1, .data⟩ (by simp) rfl)) (agg_i w') ((hI.world.inv.1.cell (i := 6) (by omega)).trans (congrArg some (lrow_of G6.out))))
    | 3, _ => injection ho with ho; subst ho; exact RG.Does.read rfl (fun L v w' h => RG.SG.skip (by decide) (by decide) (by decide) h) (fun L a w' hI hd => ex_move rfl (hI.fix 7 (Reg.notD rfl) (by decide)))
    | 4, _ => injection ho with ho; subst ho; exact RG.Does.read rfl (fun L v w' h => RG.SG.skip (by decide) (by decide) (by decide) h) (fun L a w' hI hd => ex_fieldo rfl (hI.fix 2 (Reg.notD rfl) (by decide)) (fieldK4 w' _))
    | 5, _ => injection ho with ho; subst ho; exact RG.Does.read rfl (fun L v w' h => RG.SG.skip (by decide) (by decide) (by decide) h) (fun L a w' hI hd => ex_r0 rfl (hI.pure 4 _ _ rfl (hd ⟨4, .data⟩ (by simp) rfl)) rfl)
    | 6, _ => injection ho with ho; subst ho; exact RG.Does.read rfl (fun L v w' h => RG.SG.skip (by decide) (by decide) (by decide) h) (fun L a w' hI hd => ex_load rfl (hI.pure 5 _ _ rfl (hd ⟨5, .data⟩ (by simp) rfl)) (agg_u64 w') ((hI.world.inv.1.cell (i := 13) (by omega)).trans (congrArg some (lrow_of G13.out))))
    | 7, _ => injection ho with ho; subst ho; exact RG.Does.read rfl (fun L v w' h => RG.SG.skip (by decide) (by decide) (by decide) h) (fun L a w' hI hd => ex_fieldo rfl (hI.fix 2 (Reg.notD rfl) (by decide)) (fieldK4 w' _))
    | 8, _ => injection ho with ho; subst ho; exact RG.Does.read rfl (fun L v w' h => RG.SG.skip (by decide) (by decide) (by decide) h) (fun L a w' hI hd => ex_r0 rfl (hI.pure 7 _ _ rfl (hd ⟨7, .data⟩ (by simp) rfl)) rfl)
    | 9, _ => injection ho with ho; subst ho; exact RG.Does.read rfl (fun L v w' h => RG.SG.skip (by decide) (by decide) (by decide) h) (fun L a w' hI hd => ex_load rfl (hI.pure 8 _ _ rfl (hd ⟨8, .data⟩ (by simp) rfl)) (agg_u64 w') ((hI.world.inv.1.cell (i := 13) (by omega)).trans (congrArg some (lrow_of G13.out))))
    | 10, _ => injection ho with ho; subst ho; exact RG.Does.read rfl (fun L v w' h => RG.SG.skip (by decide) (by decide) (by decide) h) (fun L a w' hI hd => ex_fieldo rfl (hI.fix 2 (Reg.notD rfl) (by decide)) (fieldK4 w' _))
    | 11, _ => injection ho with ho; subst ho; exact RG.Does.read rfl (fun L v w' h => RG.SG.skip (by decide) (by decide) (by decide) h) (fun L a w' hI hd => ex_r2 rfl (hI.pure 10 _ _ rfl (hd ⟨10, .data⟩ (by simp) rfl)) rfl)
    | 12, _ => injection ho with ho; subst ho; exact RG.Does.read rfl (fun L v w' h => RG.SG.skip (by decide) (by decide) (by decide) h) (fun L a w' hI hd => ex_load rfl (hI.pure 11 _ _ rfl (hd ⟨11, .data⟩ (by simp) rfl)) (agg_u64 w') ((hI.world.inv.1.cell (i := 15) (by omega)).trans (congrArg some (lrow_of G15.out))))
    | 13, _ => injection ho with ho; subst ho; exact RG.Does.ask rfl (fun L v w' h => RG.SG.skip (by decide) (by decide) (by decide) h) (fun L a w' hI hd => call1 rfl (hI.pure 12 _ _ rfl (hd ⟨12, .data⟩ (by simp) rfl)) rfl (callRIndex _ _)) (fun w => by rw [← HIX.out]; exact index_ref r2 HIC.out.1 (by have := HIC.out.2; omega) w)
    | 14, _ => injection ho with ho; subst ho; exact RG.Does.ask rfl (fun L v w' h => RG.SG.skip (by decide) (by decide) (by decide) h) (fun L a w' hI hd => call2 rfl (hI.pure 9 _ _ rfl (hd ⟨9, .data⟩ (by simp) rfl)) (hI.pure 13 _ _ rfl (hd ⟨13, .data⟩ (by simp) rfl)) rfl (callRBump _ _)) (fun w => by rw [← HBP.out]; exact bump_ref r0 ix HRB.out.1 (by have := HRB.out.2; omega) w)
    | 15, _ => injection ho with ho; subst ho; exact RG.Does.call rfl (fun L a w' hI hd => call6 rfl (hI.pure 0 _ _ rfl (hd ⟨0, .data⟩ (by simp) rfl)) (hI.pure 2 _ _ rfl (hd ⟨2, .data⟩ (by simp) rfl)) rfl (hI.pure 3 _ _ rfl (hd ⟨3, .data⟩ (by simp) rfl)) (hI.pure 6 _ _ rfl (hd ⟨6, .data⟩ (by simp) rfl)) (hI.pure 14 _ _ rfl (hd ⟨14, .data⟩ (by simp) rfl)) rfl (callRDo' _ _)) (RG.SG.calls DC.out HLG.out (by decide) (by decide))
    | 16, _ => injection ho with ho; subst ho; exact RG.Does.make (u := fun w' => .pointer (some ⟨w'.heap.size, 0, none⟩)) rfl rfl (fun ev w' => alloc46 rfl) (fun L v w' h hL => by show RG.SG _ _ _ (upd L 16 true 15) (upd L 16 true 16) (upd L 16 true 17) _ _; rw [upd_same, upd_other _ _ (show 15 ≠ 16 by decide), upd_other _ _ (show 17 ≠ 16 by decide)]; exact RG.SG.make STB.out h hL)
    | 17, _ => injection ho with ho; subst ho; exact RG.Does.put (ls := (⟨xh, xa, xt, xd, xp, false⟩ : Stp).cells) rfl rfl rfl size46 (by simp [Stp.cells, Value.oneCell']) (fun L a w' hI hL hd => ⟨(hI.pure 15 _ _ rfl (hd ⟨15, .data⟩ (by simp) rfl)), by obtain ⟨q, e1, e2, e3⟩ := RG.SG.put STB.out hI.world (hd ⟨15, .data⟩ (by simp) rfl) (hd ⟨16, .data⟩ (by simp) rfl) hL; exact ⟨q, 0, e1, e2, by show RG.SG _ _ _ (upd L 17 true 15) (upd L 17 true 16) (upd L 17 true 17) _ _; rw [upd_same, upd_other _ _ (show 15 ≠ 17 by decide), upd_other _ _ (show 16 ≠ 17 by decide)]; exact e3⟩⟩)
  case fin =>
    intro L a' w1 hI hall
    have hw := hI.world
    simp only [hall 15 (by decide), hall 16 (by decide), hall 17 (by decide)] at hw
    obtain ⟨q, hq, hq1, hq2, _, hrq⟩ := hw.own rfl
    replace hrq := hrq rfl
    obtain ⟨p1, p2, p3, p4, p5⟩ := hw.inv
    have ea := act_all a' 185 (by rw [hI.sz]; rfl) hI.df
    simp only [List.range, List.range.loop, List.map] at ea
    rw [hI.fix 0 (Reg.notD rfl) (by decide), hI.fix 1 (Reg.notD rfl) (by decide), hI.fix 2 (Reg.notD rfl) (by decide), hI.fix 3 (Reg.notD rfl) (by decide), hI.fix 4 (Reg.notD rfl) (by decide), hI.fix 5 (Reg.notD rfl) (by decide), hI.fix 6 (Reg.notD rfl) (by decide), hI.fix 7 (Reg.notD rfl) (by decide), hI.fix 8 (Reg.notD rfl) (by decide), hI.fix 9 (Reg.notD rfl) (by decide), hI.fix 10 (Reg.notD rfl) (by decide), hI.fix 11 (Reg.notD rfl) (by decide), hI.fix 12 (Reg.notD rfl) (by decide), hI.fix 13 (Reg.notD rfl) (by decide), hI.fix 15 (Reg.notD rfl) (by decide), hI.fix 16 (Reg.notD rfl) (by decide), hI.fix 17 (Reg.notD rfl) (by decide), hI.fix 18 (Reg.notD rfl) (by decide), hI.fix 19 (Reg.notD rfl) (by decide), hI.fix 20 (Reg.notD rfl) (by decide), hI.fix 21 (Reg.notD rfl) (by decide), hI.fix 22 (Reg.notD rfl) (by decide), hI.fix 23 (Reg.notD rfl) (by decide), hI.fix 24 (Reg.notD rfl) (by decide), hI.fix 25 (Reg.notD rfl) (by decide), hI.fix 26 (Reg.notD rfl) (by decide), hI.fix 27 (Reg.notD rfl) (by decide), hI.fix 28 (Reg.notD rfl) (by decide), hI.fix 29 (Reg.notD rfl) (by decide), hI.fix 30 (Reg.notD rfl) (by decide), hI.fix 31 (Reg.notD rfl) (by decide), hI.fix 32 (Reg.notD rfl) (by decide), hI.fix 33 (Reg.notD rfl) (by decide), hI.fix 34 (Reg.notD rfl) (by decide), hI.fix 35 (Reg.notD rfl) (by decide), hI.fix 36 (Reg.notD rfl) (by decide), hI.fix 37 (Reg.notD rfl) (by decide), hI.fix 38 (Reg.notD rfl) (by decide), hI.fix 39 (Reg.notD rfl) (by decide), hI.fix 40 (Reg.notD rfl) (by decide), hI.fix 41 (Reg.notD rfl) (by decide), hI.fix 42 (Reg.notD rfl) (by decide), hI.fix 43 (Reg.notD rfl) (by decide), hI.fix 44 (Reg.notD rfl) (by decide), hI.fix 45 (Reg.notD rfl) (by decide), hI.fix 46 (Reg.notD rfl) (by decide), hI.fix 47 (Reg.notD rfl) (by decide), hI.fix 48 (Reg.notD rfl) (by decide), hI.fix 49 (Reg.notD rfl) (by decide), hI.fix 50 (Reg.notD rfl) (by decide), hI.fix 51 (Reg.notD rfl) (by decide), hI.fix 52 (Reg.notD rfl) (by decide), hI.fix 53 (Reg.notD rfl) (by decide), hI.fix 54 (Reg.notD rfl) (by decide), hI.fix 55 (Reg.notD rfl) (by decide), hI.fix 56 (Reg.notD rfl) (by decide), hI.fix 57 (Reg.notD rfl) (by decide), hI.fix 58 (Reg.notD rfl) (by decide), hI.fix 59 (Reg.notD rfl) (by decide), hI.fix 60 (Reg.notD rfl) (by decide), hI.fix 61 (Reg.notD rfl) (by decide), hI.fix 62 (Reg.notD rfl) (by decide), hI.fix 63 (Reg.notD rfl) (by decide), hI.fix 64 (Reg.notD rfl) (by decide), hI.fix 65 (Reg.notD rfl) (by decide), hI.fix 66 (Reg.notD rfl) (by decide), hI.fix 67 (Reg.notD rfl) (by decide), hI.fix 68 (Reg.notD rfl) (by decide), hI.fix 69 (Reg.notD rfl) (by decide), hI.fix 70 (Reg.notD rfl) (by decide), hI.fix 71 (Reg.notD rfl) (by decide), hI.fix 72 (Reg.notD rfl) (by decide), hI.fix 89 (Reg.notD rfl) (by decide), hI.fix 90 (Reg.notD rfl) (by decide), hI.fix 91 (Reg.notD rfl) (by decide), hI.fix 92 (Reg.notD rfl) (by decide), hI.fix 93 (Reg.notD rfl) (by decide), hI.fix 94 (Reg.notD rfl) (by decide), hI.fix 95 (Reg.notD rfl) (by decide), hI.fix 96 (Reg.notD rfl) (by decide), hI.fix 97 (Reg.notD rfl) (by decide), hI.fix 98 (Reg.notD rfl) (by decide), hI.fix 99 (Reg.notD rfl) (by decide), hI.fix 100 (Reg.notD rfl) (by decide), hI.fix 101 (Reg.notD rfl) (by decide), hI.fix 102 (Reg.notD rfl) (by decide), hI.fix 103 (Reg.notD rfl) (by decide), hI.fix 104 (Reg.notD rfl) (by decide), hI.fix 105 (Reg.notD rfl) (by decide), hI.fix 106 (Reg.notD rfl) (by decide), hI.fix 107 (Reg.notD rfl) (by decide), hI.fix 108 (Reg.notD rfl) (by decide), hI.fix 109 (Reg.notD rfl) (by decide), hI.fix 110 (Reg.notD rfl) (by decide), hI.fix 111 (Reg.notD rfl) (by decide), hI.fix 112 (Reg.notD rfl) (by decide), hI.fix 113 (Reg.notD rfl) (by decide), hI.fix 114 (Reg.notD rfl) (by decide), hI.fix 115 (Reg.notD rfl) (by decide), hI.fix 116 (Reg.notD rfl) (by decide), hI.fix 117 (Reg.notD rfl) (by decide), hI.fix 118 (Reg.notD rfl) (by decide), hI.fix 119 (Reg.notD rfl) (by decide), hI.fix 120 (Reg.notD rfl) (by decide), hI.fix 121 (Reg.notD rfl) (by decide), hI.fix 122 (Reg.notD rfl) (by decide), hI.fix 123 (Reg.notD rfl) (by decide), hI.fix 124 (Reg.notD rfl) (by decide), hI.fix 125 (Reg.notD rfl) (by decide), hI.fix 126 (Reg.notD rfl) (by decide), hI.fix 127 (Reg.notD rfl) (by decide), hI.fix 128 (Reg.notD rfl) (by decide), hI.fix 129 (Reg.notD rfl) (by decide), hI.fix 130 (Reg.notD rfl) (by decide), hI.fix 131 (Reg.notD rfl) (by decide), hI.fix 132 (Reg.notD rfl) (by decide), hI.fix 133 (Reg.notD rfl) (by decide), hI.fix 134 (Reg.notD rfl) (by decide), hI.fix 135 (Reg.notD rfl) (by decide), hI.fix 136 (Reg.notD rfl) (by decide), hI.fix 137 (Reg.notD rfl) (by decide), hI.fix 138 (Reg.notD rfl) (by decide), hI.fix 139 (Reg.notD rfl) (by decide), hI.fix 140 (Reg.notD rfl) (by decide), hI.fix 141 (Reg.notD rfl) (by decide), hI.fix 142 (Reg.notD rfl) (by decide), hI.fix 143 (Reg.notD rfl) (by decide), hI.fix 144 (Reg.notD rfl) (by decide), hI.fix 145 (Reg.notD rfl) (by decide), hI.fix 146 (Reg.notD rfl) (by decide), hI.fix 147 (Reg.notD rfl) (by decide), hI.fix 148 (Reg.notD rfl) (by decide), hI.fix 149 (Reg.notD rfl) (by decide), hI.fix 150 (Reg.notD rfl) (by decide), hI.fix 151 (Reg.notD rfl) (by decide), hI.fix 152 (Reg.notD rfl) (by decide), hI.fix 153 (Reg.notD rfl) (by decide), hI.fix 154 (Reg.notD rfl) (by decide), hI.fix 155 (Reg.notD rfl) (by decide), hI.fix 156 (Reg.notD rfl) (by decide), hI.fix 157 (Reg.notD rfl) (by decide), hI.fix 158 (Reg.notD rfl) (by decide), hI.fix 159 (Reg.notD rfl) (by decide), hI.fix 160 (Reg.notD rfl) (by decide), hI.fix 161 (Reg.notD rfl) (by decide), hI.fix 162 (Reg.notD rfl) (by decide), hI.fix 163 (Reg.notD rfl) (by decide), hI.fix 164 (Reg.notD rfl) (by decide), hI.fix 165 (Reg.notD rfl) (by decide), hI.fix 166 (Reg.notD rfl) (by decide), hI.fix 167 (Reg.notD rfl) (by decide), hI.fix 168 (Reg.notD rfl) (by decide), hI.fix 169 (Reg.notD rfl) (by decide), hI.fix 170 (Reg.notD rfl) (by decide), hI.fix 171 (Reg.notD rfl) (by decide), hI.fix 172 (Reg.notD rfl) (by decide), hI.fix 173 (Reg.notD rfl) (by decide), hI.fix 174 (Reg.notD rfl) (by decide), hI.fix 175 (Reg.notD rfl) (by decide), hI.fix 176 (Reg.notD rfl) (by decide), hI.fix 177 (Reg.notD rfl) (by decide), hI.fix 178 (Reg.notD rfl) (by decide), hI.fix 179 (Reg.notD rfl) (by decide), hI.fix 180 (Reg.notD rfl) (by decide), hI.fix 181 (Reg.notD rfl) (by decide), hI.fix 182 (Reg.notD rfl) (by decide), hI.fix 183 (Reg.notD rfl) (by decide), hI.fix 184 (Reg.notD rfl) (by decide), hq] at ea
    clear hI hall
    generalize a'.eval (.tmp 73) = u73 at ea
    generalize a'.eval (.tmp 74) = u74 at ea
    generalize a'.eval (.tmp 75) = u75 at ea
    generalize a'.eval (.tmp 76) = u76 at ea
    generalize a'.eval (.tmp 77) = u77 at ea
    generalize a'.eval (.tmp 78) = u78 at ea
    generalize a'.eval (.tmp 79) = u79 at ea
    generalize a'.eval (.tmp 80) = u80 at ea
    generalize a'.eval (.tmp 81) = u81 at ea
    generalize a'.eval (.tmp 82) = u82 at ea
    generalize a'.eval (.tmp 83) = u83 at ea
    generalize a'.eval (.tmp 84) = u84 at ea
    generalize a'.eval (.tmp 85) = u85 at ea
    generalize a'.eval (.tmp 86) = u86 at ea
    generalize a'.eval (.tmp 87) = u87 at ea
    generalize a'.eval (.tmp 88) = u88 at ea
    simp only [show ∀ (ts : Array Value) (ds) (i : Nat), (Act.mk ts ds).eval (.tmp i) = ts.getD i undef from fun _ _ _ => rfl] at ea
    simp at ea
    subst ea
    have HR4 := hide p1
    have HR5 := hide p2
    have HR6 := hide p3
    have HR1' := hide (show IsRow w1 g n cap f' from by simpa using p4)
    have HT5 := hide p5
    have HQ := hide hrq
    have ls := p5.size
    have hqb : q ≠ w.heap.size := by omega
    have hqb' : w.heap.size ≠ q := by omega
    have l1w : w.heap.size < w1.heap.size := by omega
    clear hw hq hrq p1 p2 p3 p4 p5 STB DC
    have e6 : w1.cell? ⟨w.heap.size, 6, none⟩ = some (.int .i64 hand) := by rw [HR4.out.cell (i := 6) (by omega), lrow_of G6.out]
    have f6 := HR4.out.frozen 6
    have e7 : w1.cell? ⟨w.heap.size, 7, none⟩ = some (.int .i64 1) := by rw [HR4.out.cell (i := 7) (by omega), lrow_of G7.out]
    have f7 := HR4.out.frozen 7
    have e11 : w1.cell? ⟨w.heap.size, 11, none⟩ = some (.int .u64 hh) := by rw [HR4.out.cell (i := 11) (by omega), lrow_of G11.out]
    have f11 := HR4.out.frozen 11
    have e12 : w1.cell? ⟨w.heap.size, 12, none⟩ = some (.int .i64 2) := by rw [HR4.out.cell (i := 12) (by omega), lrow_of G12.out]
    have f12 := HR4.out.frozen 12
    have e13 : w1.cell? ⟨w.heap.size, 13, none⟩ = some (.int .u64 r0) := by rw [HR4.out.cell (i := 13) (by omega), lrow_of G13.out]
    have f13 := HR4.out.frozen 13
    have e14 : w1.cell? ⟨w.heap.size, 14, none⟩ = some (.int .u64 r1) := by rw [HR4.out.cell (i := 14) (by omega), lrow_of G14.out]
    have f14 := HR4.out.frozen 14
    have e15 : w1.cell? ⟨w.heap.size, 15, none⟩ = some (.int .u64 r2) := by rw [HR4.out.cell (i := 15) (by omega), lrow_of G15.out]
    have f15 := HR4.out.frozen 15
    have e16 : w1.cell? ⟨w.heap.size, 16, none⟩ = some (.int .u64 r3) := by rw [HR4.out.cell (i := 16) (by omega), lrow_of G16.out]
    have f16 := HR4.out.frozen 16
    have e22 : w1.cell? ⟨w.heap.size, 22, none⟩ = some (.bool ok) := by rw [HR4.out.cell (i := 22) (by omega), lrow_of G22.out]
    have f22 := HR4.out.frozen 22
    have e23 : w1.cell? ⟨w.heap.size, 23, none⟩ = some (.int .u64 val) := by rw [HR4.out.cell (i := 23) (by omega), lrow_of G23.out]
    have f23 := HR4.out.frozen 23
    have s0' : w1.cell? ⟨q, 0, none⟩ = some (.int .i64 xh) := by have := HQ.out 0 _ rfl; simpa using this
    have s1' : w1.cell? ⟨q, 1, none⟩ = some (.int .i64 xa) := by have := HQ.out 1 _ rfl; simpa using this
    have s2' : w1.cell? ⟨q, 2, none⟩ = some (.int .i64 xt) := by have := HQ.out 2 _ rfl; simpa using this
    have s3' : w1.cell? ⟨q, 3, none⟩ = some (.int .u64 xd) := by have := HQ.out 3 _ rfl; simpa using this
    have s4' : w1.cell? ⟨q, 4, none⟩ = some (.int .u64 xp) := by have := HQ.out 4 _ rfl; simpa using this
    have s5' : w1.cell? ⟨q, 5, none⟩ = some (.bool false) := by have := HQ.out 5 _ rfl; simpa using this
    go_wp2_with fail
    obtain ⟨WA, hWA⟩ : ∃ w2, (w1.setCell ⟨w.heap.size, 12, none⟩ (.int .i64 0)) = w2 := ⟨_, rfl⟩
    have szA : WA.heap.size = w1.heap.size := by rw [← hWA]; simp
    have tt2 : Touch w1 WA (fun k => k = w.heap.size) := by rw [← hWA]; exact (Touch.setCell (S := fun k => k = w.heap.size) (Touch.refl w1 _) ⟨w.heap.size, 12, none⟩ (.inl rfl) _)
    have rA : WA.rangeAt w.heap.size 0 l1 := by
      have := rowIs.range (rowIs.setL HR4.out (i := 12) (by simp [HL0.out]) (.int .i64 0)) (by simp [HL0.out])
      rw [HSET.out, hWA] at this
      exact this
    have rB : WA.rangeAt q 0 [Value.int .i64 xh, .int .i64 xa, .int .i64 xt, .int .u64 xd, .int .u64 xp, .bool false] := rangeAt_block HQ.out (tt2.block _ hq2 (by omega))
    have tC : WA.there (w.heap.size + 1) 0 28 := rowIs.there (HR5.out.of_block (tt2.block _ (by omega) (by omega))) (by omega)
    have tD : WA.there (w.heap.size + 2) 0 6 := rowIs.there (HR6.out.of_block (tt2.block _ (by omega) (by omega))) (by omega)
    have rW : IsRow WA g n cap f' := HR1'.out.block (tt2.block g (by omega) (by omega))
    have TW : Touch w WA (fun k => k = g) := (((Touch.of_grown HG3.out).mono (S' := fun k => k = g) (fun k _ h => by simpa using h)).trans' HT5.out (fun k _ h => h)).trans' tt2 (fun k hk h => absurd hk (by omega))
    rw [hWA]
    have HTW := hide TW
    have HRW := hide rW
    clear TW rW hWA
    refine RetN.region (ks := [(0, 93), (1, 94), (4, 6)]) (vals := fun i => match i with
        | 0 => .agg l1.toArray
        | 1 => .agg #[Value.int .i64 xh, .int .i64 xa, .int .i64 xt, .int .u64 xd, .int .u64 xp, .bool false]
        | 4 => .bool false
        | _ => undef) (C := w.heap.size + 1) (E := w.heap.size + 2) (iC := 2) (iE := 3) (lt := l1) (ls := [Value.int .i64 xh, .int .i64 xa, .int .i64 xt, .int .u64 xd, .int .u64 xp, .bool false]) (by kernel_rfl) ?g2 ?b2 rfl (by omega) (by decide) ?dd2 hl1i.out.2 (by simp [Value.oneCell']) (by rw [hl1i.out.1]; exact tC) tD ?kinds2 ?fin2
    case g2 =>
      intro i o ho
      have hi : i < 5 := by have := (Array.getElem?_eq_some_iff.1 ho).1; simpa using this
      match i, hi with
      | 0, _ | 1, _ | 2, _ | 3, _ | 4, _ => injection ho with ho; subst ho; rfl
    case b2 =>
      intro i o ho
      have hi : i < 5 := by have := (Array.getElem?_eq_some_iff.1 ho).1; simpa using this
      match i, hi with
      | 0, _ | 1, _ | 2, _ | 3, _ | 4, _ => injection ho with ho; subst ho; simp [Region.binds]
    case dd2 =>
      intro k hk
      have hk' : k < 185 := by
        simp [RetN.D] at hk
        omega
      simpa using hk'
    case kinds2 =>
      intro i o ho
      have hi : i < 5 := by have := (Array.getElem?_eq_some_iff.1 ho).1; simpa using this
      match i, hi with
      | 0, _ => injection ho with ho; subst ho; exact .inl ⟨93, _, rfl, rfl, fun L a w' hI hd => ex_load_row rfl (hI.fix 2 (Reg.notD rfl)) (rangeAt_block rA (hI.tch.block _ (by omega) (by omega))) HD.out.1 HD.out.2.1 (by rw [hl1i.out.1]; exact size79)⟩
      | 1, _ => injection ho with ho; subst ho; exact .inl ⟨94, _, rfl, rfl, fun L a w' hI hd => ex_load_row rfl (hI.fix 14 (Reg.notD rfl)) (rangeAt_block rB (hI.tch.block _ (by omega) (by omega))) HD.out.2.2.1 HD.out.2.2.2 size46⟩
      | 2, _ => injection ho with ho; subst ho; exact .inr (.inl ⟨rfl, rfl, _, _, _, rfl, (by rw [hl1i.out.1]; exact size79), fun L a w' hI hd => ⟨hI.fix 4 (Reg.notD rfl), (hI.pure 0 _ _ rfl (hd ⟨0, .data⟩ (by simp) rfl))⟩⟩)
      | 3, _ => injection ho with ho; subst ho; exact .inr (.inr ⟨rfl, rfl, _, _, _, rfl, size46, fun L a w' hI hd => ⟨hI.fix 5 (Reg.notD rfl), (hI.pure 1 _ _ rfl (hd ⟨1, .data⟩ (by simp) rfl))⟩⟩)
      | 4, _ => injection ho with ho; subst ho; exact .inl ⟨6, _, rfl, rfl, fun L a w' hI hd => ex_assign rfl rfl⟩
    case fin2 =>
      intro L a' w' hI hall
      rename_i K2 hK2
      refine hK2 _ _ ?_
      have rC := hI.sC (hall 2 (by decide))
      have rD := hI.sE (hall 3 (by decide))
      have pC : a'.eval (.tmp 4) = .pointer (some ⟨w.heap.size + 1, 0, none⟩) := hI.fix 4 (Reg.notD rfl)
      have pD : a'.eval (.tmp 5) = .pointer (some ⟨w.heap.size + 2, 0, none⟩) := hI.fix 5 (Reg.notD rfl)
      have pe : a'.eval (.tmp 6) = .bool false := hI.pure 4 6 _ rfl (hall 4 (by decide))
      have tch := hI.tch
      have hdf : a'.defers = [] := hI.df
      have hT := run_loadVar_mid (P := Try.prog) w' (w.heap.size + 1) 0 _ l1 dT rC HD.out.1 HD.out.2.1 (by rw [hl1i.out.1]; exact size79)
      have hS := run_loadVar_mid (P := Try.prog) w' (w.heap.size + 2) 0 _ _ dS rD HD.out.2.2.1 HD.out.2.2.2 size46
      have hres := results_cct (Q := Try.prog) (fn := Try.f53) (tmps := a'.tmps) (t := 4) (t' := 5) (t'' := 6) (W := w') (by rfl) pC hT pD hS
      rw [show a'.tmps.getD 6 undef = .bool false from pe] at hres
      go_wp2
      refine bodyPost_ret (v := .tuple #[.agg l1.toArray, (⟨xh, xa, xt, xd, xp, false⟩ : Stp).val, .bool false]) hres hdf ⟨rfl, HRW.out.block (tch.block g HRW.out.lt (by omega)), ?_⟩
      have := HTW.out.trans' tch (fun k hk h => absurd hk (by omega))
      exact ⟨this.os, this.tape, this.output, this.size, fun k hk hn => this.block k hk (by simpa using hn)⟩

set_option maxHeartbeats 8000000 in
theorem rtake_pop_true {w : World} {g n cap : Nat} {f f' : Nat → Int} {xh xa xt xd xp : Int} {s0 s1 s2 s3 s4 s5 hand a b c hh r0 r1 r2 r3 val : Int} {ok : Bool} (hr : IsRow w g n cap f) (hr1 : 0 ≤ r1 ∧ r1 < 4294967296) {ix bp : Int} (h0 : 0 ≤ r0 ∧ r0 ≤ 18446744073709551615) (h2 : 0 ≤ r2 ∧ r2 ≤ 18446744073709551615) (hix : r2 % 4294967296 = ix) (hbp : bump r0 ix = bp)  (hx : stepOf n f ⟨hand, 5, 0, r0, bp, true⟩ = ⟨xh, xa, xt, xd, xp, true⟩) (hf' : wordsOf n f ⟨hand, 5, 0, r0, bp, true⟩ = f') :
    Calls Try.prog 53 #[.agg (tk ⟨s0, s1, s2, s3, s4, s5⟩ hand ⟨2, a, b, c, hh⟩ 2 ⟨r0, r1, r2, r3, 0, 0, 0, 0⟩ ⟨ok, val⟩).toArray, .slice (some ⟨g, 0, none⟩) n cap] w fun e w' =>
      e = .returned (.tuple #[.agg (tk ⟨s0, s1, s2, s3, s4, s5⟩ hand ⟨2, a, b, c, hh⟩ 3 ⟨r0, r1, r2, r3, 0, 0, 0, 0⟩ ⟨ok, val⟩).toArray, (⟨xh, xa, xt, xd, xp, true⟩ : Stp).val, .bool false]) ∧ IsRow w' g n cap f' ∧ w.grownBy w' (some g) := by
  have DO := hide (fun (w' : World) (hr' : IsRow w' g n cap f) => ref_do (s := ⟨hand, 5, 0, r0, bp, true⟩) hr' (by rw [← hbp]; exact ⟨bump_lo _ _, bump_hi _ _⟩) ⟨by show (1 : Int) ≤ 5; decide, by show (5 : Int) ≤ 5; decide⟩)
  have HX := hide hx
  have HF := hide hf'
  have lg := hr.lt
  have a1 : wrap64 r1 = r1 := by unfold wrap64; omega
  have a1' : IntKind.i64.wrap r1 = r1 := by rw [IntKind.wrap_i64]; omega
  have a2 : wrap64 (2 * r1) = 2 * r1 := by unfold wrap64; omega
  have a3 : wrap64 (2 * r1 + 1) = 2 * r1 + 1 := by unfold wrap64; omega
  obtain ⟨l0, hl0⟩ : ∃ l, tk ⟨s0, s1, s2, s3, s4, s5⟩ hand ⟨2, a, b, c, hh⟩ 2 ⟨r0, r1, r2, r3, 0, 0, 0, 0⟩ ⟨ok, val⟩ = l := ⟨_, rfl⟩
  have hl0' : l0.length = 28 := by rw [← hl0]; rfl
  have hset : ((l0.set 12 (.int .i64 0)).set 12 (.int .i64 3)) = tk ⟨s0, s1, s2, s3, s4, s5⟩ hand ⟨2, a, b, c, hh⟩ 3 ⟨r0, r1, r2, r3, 0, 0, 0, 0⟩ ⟨ok, val⟩ := by rw [← hl0]; rfl
  obtain ⟨l1, hl1⟩ : ∃ l, tk ⟨s0, s1, s2, s3, s4, s5⟩ hand ⟨2, a, b, c, hh⟩ 3 ⟨r0, r1, r2, r3, 0, 0, 0, 0⟩ ⟨ok, val⟩ = l := ⟨_, rfl⟩
  rw [hl0, hl1]
  rw [hl1] at hset
  have hl1i := hide (show IsTk l1 from by rw [← hl1]; exact tk_is _ _ _ _ _ _)
  obtain ⟨W3, hW3⟩ : ∃ W3, ((w.alloc (.cells l0.toArray 53)).alloc (.cells tk0.toArray 53)).alloc (.cells [Value.int .i64 0, .int .i64 0, .int .i64 0, .int .u64 0, .int .u64 0, .bool false].toArray 71) = W3 := ⟨_, rfl⟩
  have sz3 : W3.heap.size = w.heap.size + 3 := by rw [← hW3]; simp
  have R0 : W3.rowIs w.heap.size 53 28 (lrow l0) := by rw [← hW3]; exact ((rowL_alloc w l0 _ hl0').alloc _).alloc _
  have R1 : W3.rowIs (w.heap.size + 1) 53 28 (lrow tk0) := by
    rw [← hW3]
    have := (rowL_alloc (w.alloc (.cells l0.toArray 53)) tk0 53 (n := 28) rfl).alloc (.cells [Value.int .i64 0, .int .i64 0, .int .i64 0, .int .u64 0, .int .u64 0, .bool false].toArray 71)
    rwa [World.size_alloc] at this
  have R2 : W3.rowIs (w.heap.size + 2) 71 6 (lrow [Value.int .i64 0, .int .i64 0, .int .i64 0, .int .u64 0, .int .u64 0, .bool false]) := by
    rw [← hW3]
    have := rowL_alloc ((w.alloc (.cells l0.toArray 53)).alloc (.cells tk0.toArray 53)) [Value.int .i64 0, .int .i64 0, .int .i64 0, .int .u64 0, .int .u64 0, .bool false] 71 (n := 6) rfl
    rwa [World.size_alloc, World.size_alloc] at this
  have G3 : w.grownBy W3 (some g) := by rw [← hW3]; exact grown_alloc (grown_alloc (grown_alloc (grown_refl _ _) _) _) _
  have HR3 := hide (show IsRow W3 g n cap f from hr.grown (grown_none (by rw [← hW3]; exact grown_alloc (grown_alloc (grown_alloc (grown_refl _ _) _) _) _) none) (by simp))
  have cell : ∀ i v, l0[i]? = some v → W3.cell? ⟨w.heap.size, i, none⟩ = some v := fun i v hv => by rw [R0.cell (i := i) (by have := (List.getElem?_eq_some_iff.1 hv).1; omega), lrow_of hv]
  have g6 : l0[6]? = some (.int .i64 hand) := by rw [← hl0]; rfl
  have g7 : l0[7]? = some (.int .i64 2) := by rw [← hl0]; rfl
  have g11 : l0[11]? = some (.int .u64 hh) := by rw [← hl0]; rfl
  have g12 : l0[12]? = some (.int .i64 2) := by rw [← hl0]; rfl
  have g13 : l0[13]? = some (.int .u64 r0) := by rw [← hl0]; rfl
  have g14 : l0[14]? = some (.int .u64 r1) := by rw [← hl0]; rfl
  have g15 : l0[15]? = some (.int .u64 r2) := by rw [← hl0]; rfl
  have g16 : l0[16]? = some (.int .u64 r3) := by rw [← hl0]; rfl
  have g22 : l0[22]? = some (.bool ok) := by rw [← hl0]; rfl
  have g23 : l0[23]? = some (.int .u64 val) := by rw [← hl0]; rfl
  have c6 := cell 6 _ g6
  have c7 := cell 7 _ g7
  have c11 := cell 11 _ g11
  have c12 := cell 12 _ g12
  have c13 := cell 13 _ g13
  have c14 := cell 14 _ g14
  have c15 := cell 15 _ g15
  have c16 := cell 16 _ g16
  have c22 := cell 22 _ g22
  have c23 := cell 23 _ g23
  have G6 := hide g6
  have G7 := hide g7
  have G11 := hide g11
  have G12 := hide g12
  have G13 := hide g13
  have G14 := hide g14
  have G15 := hide g15
  have G16 := hide g16
  have G22 := hide g22
  have G23 := hide g23
  obtain ⟨dT, hdT1, hdT2⟩ := row79
  obtain ⟨dS, hdS1, hdS2⟩ := row46
  have HD := hide (And.intro hdT1 (And.intro hdT2 (And.intro hdS1 hdS2)))
  have HR0 := hide R0
  have HR1 := hide R1
  have HR2 := hide R2
  have HG3 := hide G3
  have HSET := hide hset
  have HL0 := hide hl0'
  have HRB := hide h0
  have HIC := hide h2
  have HIX := hide hix
  have HBP := hide hbp
  clear hx hf' hr hr1 R0 R1 R2 G3 cell hset hl0' hl0 hl1 hdT1 hdT2 hdS1 hdS2 h0 h2 hix hbp g6 g7 g11 g12 g13 g14 g15 g16 g22 g23
  simp only [tk0] at hW3
  have STB := hide (show ∀ c w' w'', Below W3.heap.size w' w'' → W3.heap.size ≤ w'.heap.size → (fun (c : Bool) (w' : World) => w'.rowIs w.heap.size 53 28 (lrow l0) ∧ w'.rowIs (w.heap.size + 1) 53 28 (lrow tk0) ∧ w'.rowIs (w.heap.size + 2) 71 6 (lrow [Value.int .i64 0, .int .i64 0, .int .i64 0, .int .u64 0, .int .u64 0, .bool false]) ∧ IsRow w' g n cap (if c = true then f' else f) ∧ Touch W3 w' (fun k => k = g)) c w' → (fun (c : Bool) (w' : World) => w'.rowIs w.heap.size 53 28 (lrow l0) ∧ w'.rowIs (w.heap.size + 1) 53 28 (lrow tk0) ∧ w'.rowIs (w.heap.size + 2) 71 6 (lrow [Value.int .i64 0, .int .i64 0, .int .i64 0, .int .u64 0, .int .u64 0, .bool false]) ∧ IsRow w' g n cap (if c = true then f' else f) ∧ Touch W3 w' (fun k => k = g)) c w'' from fun c w' w'' hb hs ⟨p1, p2, p3, p4, p5⟩ =>
    ⟨p1.of_block (hb.block _ (by omega)), p2.of_block (hb.block _ (by omega)), p3.of_block (hb.block _ (by omega)), p4.block (hb.block g (by omega)), ⟨hb.os.trans p5.os, hb.tape.trans p5.tape, hb.output.trans p5.output, Nat.le_trans p5.size hb.size, fun k hk hn => (hb.block k hk).trans (p5.block k hk hn)⟩⟩)
  have HLG := hide (show g < W3.heap.size by omega)
  have DC := hide (show ∀ w', (fun (c : Bool) (w' : World) => w'.rowIs w.heap.size 53 28 (lrow l0) ∧ w'.rowIs (w.heap.size + 1) 53 28 (lrow tk0) ∧ w'.rowIs (w.heap.size + 2) 71 6 (lrow [Value.int .i64 0, .int .i64 0, .int .i64 0, .int .u64 0, .int .u64 0, .bool false]) ∧ IsRow w' g n cap (if c = true then f' else f) ∧ Touch W3 w' (fun k => k = g)) false w' → Calls Try.prog 68 #[.slice (some ⟨g, 0, none⟩) n cap, .int .i64 hand, .int .i64 5, .int .i64 (0), .int .u64 r0, .int .u64 bp] w' fun e w'' => e = .returned (⟨xh, xa, xt, xd, xp, true⟩ : Stp).val ∧ (fun (c : Bool) (w' : World) => w'.rowIs w.heap.size 53 28 (lrow l0) ∧ w'.rowIs (w.heap.size + 1) 53 28 (lrow tk0) ∧ w'.rowIs (w.heap.size + 2) 71 6 (lrow [Value.int .i64 0, .int .i64 0, .int .i64 0, .int .u64 0, .int .u64 0, .bool false]) ∧ IsRow w' g n cap (if c = true then f' else f) ∧ Touch W3 w' (fun k => k = g)) true w'' ∧ w'.grownBy w'' (some g) from fun w' ⟨p1, p2, p3, p4, p5⟩ => by
    have ls := p5.size
    refine (DO.out w' (by simpa using p4)).mono ?_
    rintro e w'' ⟨rfl, h1, h2⟩
    rw [HX.out]
    rw [HF.out] at h1
    exact ⟨rfl, ⟨p1.of_block (h2.block _ (by omega) (by simp; omega)), p2.of_block (h2.block _ (by omega) (by simp; omega)), p3.of_block (h2.block _ (by omega) (by simp; omega)), by simpa using h1, p5.trans' (Touch.of_grown h2) (fun k _ e => by simpa using e)⟩, h2⟩)
  go_enter Try.func53, Try.ntmps53
  go_wp2_with fail
  clear hW3 c6 c7 c11 c12 c13 c14 c15 c16 c22 c23
  refine RG.region (ks := [(0, 73), (1, 74), (2, 75), (3, 76), (4, 77), (5, 78), (6, 79), (7, 80), (8, 81), (9, 82), (10, 83), (11, 84), (12, 85), (13, 86), (14, 87), (15, 88)]) (vals := fun i => match i with
      | 0 => .slice (some ⟨g, 0, none⟩) n cap
      | 1 => .pointer (some ⟨w.heap.size, 6, none⟩)
      | 2 => .int .i64 hand
      | 3 => .int .i64 0
      | 4 => .pointer (some ⟨w.heap.size, 13, none⟩)
      | 5 => .pointer (some ⟨w.heap.size, 13, none⟩)
      | 6 => .int .u64 r0
      | 7 => .pointer (some ⟨w.heap.size, 13, none⟩)
      | 8 => .pointer (some ⟨w.heap.size, 13, none⟩)
      | 9 => .int .u64 r0
      | 10 => .pointer (some ⟨w.heap.size, 13, none⟩)
      | 11 => .pointer (some ⟨w.heap.size, 15, none⟩)
      | 12 => .int .u64 r2
      | 13 => .int .i64 ix
      | 14 => .int .u64 bp
      | 15 => .agg #[Value.int .i64 xh, .int .i64 xa, .int .i64 xt, .int .u64 xd, .int .u64 xp, .bool true]
      | _ => undef) (x := 14) (WI := fun L v w' => RG.SG (fun (c : Bool) (w' : World) => w'.rowIs w.heap.size 53 28 (lrow l0) ∧ w'.rowIs (w.heap.size + 1) 53 28 (lrow tk0) ∧ w'.rowIs (w.heap.size + 2) 71 6 (lrow [Value.int .i64 0, .int .i64 0, .int .i64 0, .int .u64 0, .int .u64 0, .bool false]) ∧ IsRow w' g n cap (if c = true then f' else f) ∧ Touch W3 w' (fun k => k = g)) ⟨xh, xa, xt, xd, xp, true⟩ W3 (L 15) (L 16) (L 17) v w') (by kernel_rfl) ?gg ?bk rfl ?dd ?xx (RG.SG.start ⟨HR0.out.drew, HR1.out.drew, HR2.out.drew, HR3.out.block rfl, (Touch.refl W3 _).drew⟩) ?does ?fin
  case gg =>
    intro i o ho
    have hi : i < 18 := by have := (Array.getElem?_eq_some_iff.1 ho).1; simpa using this
    match i, hi with
    | 0, _ | 1, _ | 2, _ | 3, _ | 4, _ | 5, _ | 6, _ | 7, _ | 8, _ | 9, _ | 10, _ | 11, _ | 12, _ | 13, _ | 14, _ | 15, _ | 16, _ | 17, _ => injection ho with ho; subst ho; rfl
  case bk =>
    intro i o ho
    have hi : i < 18 := by have := (Array.getElem?_eq_some_iff.1 ho).1; simpa using this
    match i, hi with
    | 0, _ | 1, _ | 2, _ | 3, _ | 4, _ | 5, _ | 6, _ | 7, _ | 8, _ | 9, _ | 10, _ | 11, _ | 12, _ | 13, _ | 14, _ | 15, _ | 16, _ | 17, _ => injection ho with ho; subst ho; simp [Region.binds]
  case dd =>
    intro k hk
    have hk' : k < 185 := by
      simp [RetN.D] at hk
      omega
    simpa using hk'
  case xx => simp
  case does =>
    intro i o ho
    have hi : i < 18 := by have := (Array.getElem?_eq_some_iff.1 ho).1; simpa using this
    match i, hi with
    | 0, _ => injection ho with ho; subst ho; exact RG.Does.read rfl (fun L v w' h => RG.SG.skip (by decide) (by decide) (by decide) h) (fun L a w' hI hd => ex_move rfl (hI.fix 1 (Reg.notD rfl) (by decide)))
    | 1, _ => injection ho with ho; subst ho; exact RG.Does.read rfl (fun L v w' h => RG.SG.skip (by decide) (by decide) (by decide) h) (fun L a w' hI hd => ex_fieldo rfl (hI.fix 2 (Reg.notD rfl) (by decide)) (fieldK1 w' _))
    | 2, _ => injection ho with ho; subst ho; exact RG.Does.read rfl (fun L v w' h => RG.SG.skip (by decide) (by decide) (by decide) h) (fun L a w' hI hd => ex_load rfl (hI.pure 1 _ _ rfl (hd ⟨1, .data⟩ (by simp) rfl)) (agg_i w') ((hI.world.inv.1.cell (i := 6) (by omega)).trans (congrArg some (lrow_of G6.out))))
    | 3, _ => injection ho with ho; subst ho; exact RG.Does.read rfl (fun L v w' h => RG.SG.skip (by decide) (by decide) (by decide) h) (fun L a w' hI hd => ex_move rfl (hI.fix 7 (Reg.notD rfl) (by decide)))
    | 4, _ => injection ho with ho; subst ho; exact RG.Does.read rfl (fun L v w' h => RG.SG.skip (by decide) (by decide) (by decide) h) (fun L a w' hI hd => ex_fieldo rfl (hI.fix 2 (Reg.notD rfl) (by decide)) (fieldK4 w' _))
    | 5, _ => injection ho with ho; subst ho; exact RG.Does.read rfl (fun L v w' h => RG.SG.skip (by decide) (by decide) (by decide) h) (fun L a w' hI hd => ex_r0 rfl (hI.pure 4 _ _ rfl (hd ⟨4, .data⟩ (by simp) rfl)) rfl)
    | 6, _ => injection ho with ho; subst ho; exact RG.Does.read rfl (fun L v w' h => RG.SG.skip (by decide) (by decide) (by decide) h) (fun L a w' hI hd => ex_load rfl (hI.pure 5 _ _ rfl (hd ⟨5, .data⟩ (by simp) rfl)) (agg_u64 w') ((hI.world.inv.1.cell (i := 13) (by omega)).trans (congrArg some (lrow_of G13.out))))
    | 7, _ => injection ho with ho; subst ho; exact RG.Does.read rfl (fun L v w' h => RG.SG.skip (by decide) (by decide) (by decide) h) (fun L a w' hI hd => ex_fieldo rfl (hI.fix 2 (Reg.notD rfl) (by decide)) (fieldK4 w' _))
    | 8, _ => injection ho with ho; subst ho; exact RG.Does.read rfl (fun L v w' h => RG.SG.skip (by decide) (by decide) (by decide) h) (fun L a w' hI hd => ex_r0 rfl (hI.pure 7 _ _ rfl (hd ⟨7, .data⟩ (by simp) rfl)) rfl)
    | 9, _ => injection ho with ho; subst ho; exact RG.Does.read rfl (fun L v w' h => RG.SG.skip (by decide) (by decide) (by decide) h) (fun L a w' hI hd => ex_load rfl (hI.pure 8 _ _ rfl (hd ⟨8, .data⟩ (by simp) rfl)) (agg_u64 w') ((hI.world.inv.1.cell (i := 13) (by omega)).trans (congrArg some (lrow_of G13.out))))
    | 10, _ => injection ho with ho; subst ho; exact RG.Does.read rfl (fun L v w' h => RG.SG.skip (by decide) (by decide) (by decide) h) (fun L a w' hI hd => ex_fieldo rfl (hI.fix 2 (Reg.notD rfl) (by decide)) (fieldK4 w' _))
    | 11, _ => injection ho with ho; subst ho; exact RG.Does.read rfl (fun L v w' h => RG.SG.skip (by decide) (by decide) (by decide) h) (fun L a w' hI hd => ex_r2 rfl (hI.pure 10 _ _ rfl (hd ⟨10, .data⟩ (by simp) rfl)) rfl)
    | 12, _ => injection ho with ho; subst ho; exact RG.Does.read rfl (fun L v w' h => RG.SG.skip (by decide) (by decide) (by decide) h) (fun L a w' hI hd => ex_load rfl (hI.pure 11 _ _ rfl (hd ⟨11, .data⟩ (by simp) rfl)) (agg_u64 w') ((hI.world.inv.1.cell (i := 15) (by omega)).trans (congrArg some (lrow_of G15.out))))
    | 13, _ => injection ho with ho; subst ho; exact RG.Does.ask rfl (fun L v w' h => RG.SG.skip (by decide) (by decide) (by decide) h) (fun L a w' hI hd => call1 rfl (hI.pure 12 _ _ rfl (hd ⟨12, .data⟩ (by simp) rfl)) rfl (callRIndex _ _)) (fun w => by rw [← HIX.out]; exact index_ref r2 HIC.out.1 (by have := HIC.out.2; omega) w)
    | 14, _ => injection ho with ho; subst ho; exact RG.Does.ask rfl (fun L v w' h => RG.SG.skip (by decide) (by decide) (by decide) h) (fun L a w' hI hd => call2 rfl (hI.pure 9 _ _ rfl (hd ⟨9, .data⟩ (by simp) rfl)) (hI.pure 13 _ _ rfl (hd ⟨13, .data⟩ (by simp) rfl)) rfl (callRBump _ _)) (fun w => by rw [← HBP.out]; exact bump_ref r0 ix HRB.out.1 (by have := HRB.out.2; omega) w)
    | 15, _ => injection ho with ho; subst ho; exact RG.Does.call rfl (fun L a w' hI hd => call6 rfl (hI.pure 0 _ _ rfl (hd ⟨0, .data⟩ (by simp) rfl)) (hI.pure 2 _ _ rfl (hd ⟨2, .data⟩ (by simp) rfl)) rfl (hI.pure 3 _ _ rfl (hd ⟨3, .data⟩ (by simp) rfl)) (hI.pure 6 _ _ rfl (hd ⟨6, .data⟩ (by simp) rfl)) (hI.pure 14 _ _ rfl (hd ⟨14, .data⟩ (by simp) rfl)) rfl (callRDo' _ _)) (RG.SG.calls DC.out HLG.out (by decide) (by decide))
    | 16, _ => injection ho with ho; subst ho; exact RG.Does.make (u := fun w' => .pointer (some ⟨w'.heap.size, 0, none⟩)) rfl rfl (fun ev w' => alloc46 rfl) (fun L v w' h hL => by show RG.SG _ _ _ (upd L 16 true 15) (upd L 16 true 16) (upd L 16 true 17) _ _; rw [upd_same, upd_other _ _ (show 15 ≠ 16 by decide), upd_other _ _ (show 17 ≠ 16 by decide)]; exact RG.SG.make STB.out h hL)
    | 17, _ => injection ho with ho; subst ho; exact RG.Does.put (ls := (⟨xh, xa, xt, xd, xp, true⟩ : Stp).cells) rfl rfl rfl size46 (by simp [Stp.cells, Value.oneCell']) (fun L a w' hI hL hd => ⟨(hI.pure 15 _ _ rfl (hd ⟨15, .data⟩ (by simp) rfl)), by obtain ⟨q, e1, e2, e3⟩ := RG.SG.put STB.out hI.world (hd ⟨15, .data⟩ (by simp) rfl) (hd ⟨16, .data⟩ (by simp) rfl) hL; exact ⟨q, 0, e1, e2, by show RG.SG _ _ _ (upd L 17 true 15) (upd L 17 true 16) (upd L 17 true 17) _ _; rw [upd_same, upd_other _ _ (show 15 ≠ 17 by decide), upd_other _ _ (show 16 ≠ 17 by decide)]; exact e3⟩⟩)
  case fin =>
    intro L a' w1 hI hall
    have hw := hI.world
    simp only [hall 15 (by decide), hall 16 (by decide), hall 17 (by decide)] at hw
    obtain ⟨q, hq, hq1, hq2, _, hrq⟩ := hw.own rfl
    replace hrq := hrq rfl
    obtain ⟨p1, p2, p3, p4, p5⟩ := hw.inv
    have ea := act_all a' 185 (by rw [hI.sz]; rfl) hI.df
    simp only [List.range, List.range.loop, List.map] at ea
    rw [hI.fix 0 (Reg.notD rfl) (by decide), hI.fix 1 (Reg.notD rfl) (by decide), hI.fix 2 (Reg.notD rfl) (by decide), hI.fix 3 (Reg.notD rfl) (by decide), hI.fix 4 (Reg.notD rfl) (by decide), hI.fix 5 (Reg.notD rfl) (by decide), hI.fix 6 (Reg.notD rfl) (by decide), hI.fix 7 (Reg.notD rfl) (by decide), hI.fix 8 (Reg.notD rfl) (by decide), hI.fix 9 (Reg.notD rfl) (by decide), hI.fix 10 (Reg.notD rfl) (by decide), hI.fix 11 (Reg.notD rfl) (by decide), hI.fix 12 (Reg.notD rfl) (by decide), hI.fix 13 (Reg.notD rfl) (by decide), hI.fix 15 (Reg.notD rfl) (by decide), hI.fix 16 (Reg.notD rfl) (by decide), hI.fix 17 (Reg.notD rfl) (by decide), hI.fix 18 (Reg.notD rfl) (by decide), hI.fix 19 (Reg.notD rfl) (by decide), hI.fix 20 (Reg.notD rfl) (by decide), hI.fix 21 (Reg.notD rfl) (by decide), hI.fix 22 (Reg.notD rfl) (by decide), hI.fix 23 (Reg.notD rfl) (by decide), hI.fix 24 (Reg.notD rfl) (by decide), hI.fix 25 (Reg.notD rfl) (by decide), hI.fix 26 (Reg.notD rfl) (by decide), hI.fix 27 (Reg.notD rfl) (by decide), hI.fix 28 (Reg.notD rfl) (by decide), hI.fix 29 (Reg.notD rfl) (by decide), hI.fix 30 (Reg.notD rfl) (by decide), hI.fix 31 (Reg.notD rfl) (by decide), hI.fix 32 (Reg.notD rfl) (by decide), hI.fix 33 (Reg.notD rfl) (by decide), hI.fix 34 (Reg.notD rfl) (by decide), hI.fix 35 (Reg.notD rfl) (by decide), hI.fix 36 (Reg.notD rfl) (by decide), hI.fix 37 (Reg.notD rfl) (by decide), hI.fix 38 (Reg.notD rfl) (by decide), hI.fix 39 (Reg.notD rfl) (by decide), hI.fix 40 (Reg.notD rfl) (by decide), hI.fix 41 (Reg.notD rfl) (by decide), hI.fix 42 (Reg.notD rfl) (by decide), hI.fix 43 (Reg.notD rfl) (by decide), hI.fix 44 (Reg.notD rfl) (by decide), hI.fix 45 (Reg.notD rfl) (by decide), hI.fix 46 (Reg.notD rfl) (by decide), hI.fix 47 (Reg.notD rfl) (by decide), hI.fix 48 (Reg.notD rfl) (by decide), hI.fix 49 (Reg.notD rfl) (by decide), hI.fix 50 (Reg.notD rfl) (by decide), hI.fix 51 (Reg.notD rfl) (by decide), hI.fix 52 (Reg.notD rfl) (by decide), hI.fix 53 (Reg.notD rfl) (by decide), hI.fix 54 (Reg.notD rfl) (by decide), hI.fix 55 (Reg.notD rfl) (by decide), hI.fix 56 (Reg.notD rfl) (by decide), hI.fix 57 (Reg.notD rfl) (by decide), hI.fix 58 (Reg.notD rfl) (by decide), hI.fix 59 (Reg.notD rfl) (by decide), hI.fix 60 (Reg.notD rfl) (by decide), hI.fix 61 (Reg.notD rfl) (by decide), hI.fix 62 (Reg.notD rfl) (by decide), hI.fix 63 (Reg.notD rfl) (by decide), hI.fix 64 (Reg.notD rfl) (by decide), hI.fix 65 (Reg.notD rfl) (by decide), hI.fix 66 (Reg.notD rfl) (by decide), hI.fix 67 (Reg.notD rfl) (by decide), hI.fix 68 (Reg.notD rfl) (by decide), hI.fix 69 (Reg.notD rfl) (by decide), hI.fix 70 (Reg.notD rfl) (by decide), hI.fix 71 (Reg.notD rfl) (by decide), hI.fix 72 (Reg.notD rfl) (by decide), hI.fix 89 (Reg.notD rfl) (by decide), hI.fix 90 (Reg.notD rfl) (by decide), hI.fix 91 (Reg.notD rfl) (by decide), hI.fix 92 (Reg.notD rfl) (by decide), hI.fix 93 (Reg.notD rfl) (by decide), hI.fix 94 (Reg.notD rfl) (by decide), hI.fix 95 (Reg.notD rfl) (by decide), hI.fix 96 (Reg.notD rfl) (by decide), hI.fix 97 (Reg.notD rfl) (by decide), hI.fix 98 (Reg.notD rfl) (by decide), hI.fix 99 (Reg.notD rfl) (by decide), hI.fix 100 (Reg.notD rfl) (by decide), hI.fix 101 (Reg.notD rfl) (by decide), hI.fix 102 (Reg.notD rfl) (by decide), hI.fix 103 (Reg.notD rfl) (by decide), hI.fix 104 (Reg.notD rfl) (by decide), hI.fix 105 (Reg.notD rfl) (by decide), hI.fix 106 (Reg.notD rfl) (by decide), hI.fix 107 (Reg.notD rfl) (by decide), hI.fix 108 (Reg.notD rfl) (by decide), hI.fix 109 (Reg.notD rfl) (by decide), hI.fix 110 (Reg.notD rfl) (by decide), hI.fix 111 (Reg.notD rfl) (by decide), hI.fix 112 (Reg.notD rfl) (by decide), hI.fix 113 (Reg.notD rfl) (by decide), hI.fix 114 (Reg.notD rfl) (by decide), hI.fix 115 (Reg.notD rfl) (by decide), hI.fix 116 (Reg.notD rfl) (by decide), hI.fix 117 (Reg.notD rfl) (by decide), hI.fix 118 (Reg.notD rfl) (by decide), hI.fix 119 (Reg.notD rfl) (by decide), hI.fix 120 (Reg.notD rfl) (by decide), hI.fix 121 (Reg.notD rfl) (by decide), hI.fix 122 (Reg.notD rfl) (by decide), hI.fix 123 (Reg.notD rfl) (by decide), hI.fix 124 (Reg.notD rfl) (by decide), hI.fix 125 (Reg.notD rfl) (by decide), hI.fix 126 (Reg.notD rfl) (by decide), hI.fix 127 (Reg.notD rfl) (by decide), hI.fix 128 (Reg.notD rfl) (by decide), hI.fix 129 (Reg.notD rfl) (by decide), hI.fix 130 (Reg.notD rfl) (by decide), hI.fix 131 (Reg.notD rfl) (by decide), hI.fix 132 (Reg.notD rfl) (by decide), hI.fix 133 (Reg.notD rfl) (by decide), hI.fix 134 (Reg.notD rfl) (by decide), hI.fix 135 (Reg.notD rfl) (by decide), hI.fix 136 (Reg.notD rfl) (by decide), hI.fix 137 (Reg.notD rfl) (by decide), hI.fix 138 (Reg.notD rfl) (by decide), hI.fix 139 (Reg.notD rfl) (by decide), hI.fix 140 (Reg.notD rfl) (by decide), hI.fix 141 (Reg.notD rfl) (by decide), hI.fix 142 (Reg.notD rfl) (by decide), hI.fix 143 (Reg.notD rfl) (by decide), hI.fix 144 (Reg.notD rfl) (by decide), hI.fix 145 (Reg.notD rfl) (by decide), hI.fix 146 (Reg.notD rfl) (by decide), hI.fix 147 (Reg.notD rfl) (by decide), hI.fix 148 (Reg.notD rfl) (by decide), hI.fix 149 (Reg.notD rfl) (by decide), hI.fix 150 (Reg.notD rfl) (by decide), hI.fix 151 (Reg.notD rfl) (by decide), hI.fix 152 (Reg.notD rfl) (by decide), hI.fix 153 (Reg.notD rfl) (by decide), hI.fix 154 (Reg.notD rfl) (by decide), hI.fix 155 (Reg.notD rfl) (by decide), hI.fix 156 (Reg.notD rfl) (by decide), hI.fix 157 (Reg.notD rfl) (by decide), hI.fix 158 (Reg.notD rfl) (by decide), hI.fix 159 (Reg.notD rfl) (by decide), hI.fix 160 (Reg.notD rfl) (by decide), hI.fix 161 (Reg.notD rfl) (by decide), hI.fix 162 (Reg.notD rfl) (by decide), hI.fix 163 (Reg.notD rfl) (by decide), hI.fix 164 (Reg.notD rfl) (by decide), hI.fix 165 (Reg.notD rfl) (by decide), hI.fix 166 (Reg.notD rfl) (by decide), hI.fix 167 (Reg.notD rfl) (by decide), hI.fix 168 (Reg.notD rfl) (by decide), hI.fix 169 (Reg.notD rfl) (by decide), hI.fix 170 (Reg.notD rfl) (by decide), hI.fix 171 (Reg.notD rfl) (by decide), hI.fix 172 (Reg.notD rfl) (by decide), hI.fix 173 (Reg.notD rfl) (by decide), hI.fix 174 (Reg.notD rfl) (by decide), hI.fix 175 (Reg.notD rfl) (by decide), hI.fix 176 (Reg.notD rfl) (by decide), hI.fix 177 (Reg.notD rfl) (by decide), hI.fix 178 (Reg.notD rfl) (by decide), hI.fix 179 (Reg.notD rfl) (by decide), hI.fix 180 (Reg.notD rfl) (by decide), hI.fix 181 (Reg.notD rfl) (by decide), hI.fix 182 (Reg.notD rfl) (by decide), hI.fix 183 (Reg.notD rfl) (by decide), hI.fix 184 (Reg.notD rfl) (by decide), hq] at ea
    clear hI hall
    generalize a'.eval (.tmp 73) = u73 at ea
    generalize a'.eval (.tmp 74) = u74 at ea
    generalize a'.eval (.tmp 75) = u75 at ea
    generalize a'.eval (.tmp 76) = u76 at ea
    generalize a'.eval (.tmp 77) = u77 at ea
    generalize a'.eval (.tmp 78) = u78 at ea
    generalize a'.eval (.tmp 79) = u79 at ea
    generalize a'.eval (.tmp 80) = u80 at ea
    generalize a'.eval (.tmp 81) = u81 at ea
    generalize a'.eval (.tmp 82) = u82 at ea
    generalize a'.eval (.tmp 83) = u83 at ea
    generalize a'.eval (.tmp 84) = u84 at ea
    generalize a'.eval (.tmp 85) = u85 at ea
    generalize a'.eval (.tmp 86) = u86 at ea
    generalize a'.eval (.tmp 87) = u87 at ea
    generalize a'.eval (.tmp 88) = u88 at ea
    simp only [show ∀ (ts : Array Value) (ds) (i : Nat), (Act.mk ts ds).eval (.tmp i) = ts.getD i undef from fun _ _ _ => rfl] at ea
    simp at ea
    subst ea
    have HR4 := hide p1
    have HR5 := hide p2
    have HR6 := hide p3
    have HR1' := hide (show IsRow w1 g n cap f' from by simpa using p4)
    have HT5 := hide p5
    have HQ := hide hrq
    have ls := p5.size
    have hqb : q ≠ w.heap.size := by omega
    have hqb' : w.heap.size ≠ q := by omega
    have l1w : w.heap.size < w1.heap.size := by omega
    clear hw hq hrq p1 p2 p3 p4 p5 STB DC
    have e6 : w1.cell? ⟨w.heap.size, 6, none⟩ = some (.int .i64 hand) := by rw [HR4.out.cell (i := 6) (by omega), lrow_of G6.out]
    have f6 := HR4.out.frozen 6
    have e7 : w1.cell? ⟨w.heap.size, 7, none⟩ = some (.int .i64 2) := by rw [HR4.out.cell (i := 7) (by omega), lrow_of G7.out]
    have f7 := HR4.out.frozen 7
    have e11 : w1.cell? ⟨w.heap.size, 11, none⟩ = some (.int .u64 hh) := by rw [HR4.out.cell (i := 11) (by omega), lrow_of G11.out]
    have f11 := HR4.out.frozen 11
    have e12 : w1.cell? ⟨w.heap.size, 12, none⟩ = some (.int .i64 2) := by rw [HR4.out.cell (i := 12) (by omega), lrow_of G12.out]
    have f12 := HR4.out.frozen 12
    have e13 : w1.cell? ⟨w.heap.size, 13, none⟩ = some (.int .u64 r0) := by rw [HR4.out.cell (i := 13) (by omega), lrow_of G13.out]
    have f13 := HR4.out.frozen 13
    have e14 : w1.cell? ⟨w.heap.size, 14, none⟩ = some (.int .u64 r1) := by rw [HR4.out.cell (i := 14) (by omega), lrow_of G14.out]
    have f14 := HR4.out.frozen 14
    have e15 : w1.cell? ⟨w.heap.size, 15, none⟩ = some (.int .u64 r2) := by rw [HR4.out.cell (i := 15) (by omega), lrow_of G15.out]
    have f15 := HR4.out.frozen 15
    have e16 : w1.cell? ⟨w.heap.size, 16, none⟩ = some (.int .u64 r3) := by rw [HR4.out.cell (i := 16) (by omega), lrow_of G16.out]
    have f16 := HR4.out.frozen 16
    have e22 : w1.cell? ⟨w.heap.size, 22, none⟩ = some (.bool ok) := by rw [HR4.out.cell (i := 22) (by omega), lrow_of G22.out]
    have f22 := HR4.out.frozen 22
    have e23 : w1.cell? ⟨w.heap.size, 23, none⟩ = some (.int .u64 val) := by rw [HR4.out.cell (i := 23) (by omega), lrow_of G23.out]
    have f23 := HR4.out.frozen 23
    have s0' : w1.cell? ⟨q, 0, none⟩ = some (.int .i64 xh) := by have := HQ.out 0 _ rfl; simpa using this
    have s1' : w1.cell? ⟨q, 1, none⟩ = some (.int .i64 xa) := by have := HQ.out 1 _ rfl; simpa using this
    have s2' : w1.cell? ⟨q, 2, none⟩ = some (.int .i64 xt) := by have := HQ.out 2 _ rfl; simpa using this
    have s3' : w1.cell? ⟨q, 3, none⟩ = some (.int .u64 xd) := by have := HQ.out 3 _ rfl; simpa using this
    have s4' : w1.cell? ⟨q, 4, none⟩ = some (.int .u64 xp) := by have := HQ.out 4 _ rfl; simpa using this
    have s5' : w1.cell? ⟨q, 5, none⟩ = some (.bool true) := by have := HQ.out 5 _ rfl; simpa using this
    go_wp2_with fail
    obtain ⟨WA, hWA⟩ : ∃ w2, ((w1.setCell ⟨w.heap.size, 12, none⟩ (.int .i64 0)).setCell ⟨w.heap.size, 12, none⟩ (.int .i64 3)) = w2 := ⟨_, rfl⟩
    have szA : WA.heap.size = w1.heap.size := by rw [← hWA]; simp
    have tt2 : Touch w1 WA (fun k => k = w.heap.size) := by rw [← hWA]; exact (Touch.setCell (S := fun k => k = w.heap.size) (Touch.setCell (S := fun k => k = w.heap.size) (Touch.refl w1 _) ⟨w.heap.size, 12, none⟩ (.inl rfl) _) ⟨w.heap.size, 12, none⟩ (.inl rfl) _)
    have rA : WA.rangeAt w.heap.size 0 l1 := by
      have := rowIs.range (rowIs.setL (rowIs.setL HR4.out (i := 12) (by simp [HL0.out]) (.int .i64 0)) (i := 12) (by simp [HL0.out]) (.int .i64 3)) (by simp [HL0.out])
      rw [HSET.out, hWA] at this
      exact this
    have rB : WA.rangeAt q 0 [Value.int .i64 xh, .int .i64 xa, .int .i64 xt, .int .u64 xd, .int .u64 xp, .bool true] := rangeAt_block HQ.out (tt2.block _ hq2 (by omega))
    have tC : WA.there (w.heap.size + 1) 0 28 := rowIs.there (HR5.out.of_block (tt2.block _ (by omega) (by omega))) (by omega)
    have tD : WA.there (w.heap.size + 2) 0 6 := rowIs.there (HR6.out.of_block (tt2.block _ (by omega) (by omega))) (by omega)
    have rW : IsRow WA g n cap f' := HR1'.out.block (tt2.block g (by omega) (by omega))
    have TW : Touch w WA (fun k => k = g) := (((Touch.of_grown HG3.out).mono (S' := fun k => k = g) (fun k _ h => by simpa using h)).trans' HT5.out (fun k _ h => h)).trans' tt2 (fun k hk h => absurd hk (by omega))
    rw [hWA]
    have HTW := hide TW
    have HRW := hide rW
    clear TW rW hWA
    refine RetN.region (ks := [(0, 93), (1, 94), (4, 6)]) (vals := fun i => match i with
        | 0 => .agg l1.toArray
        | 1 => .agg #[Value.int .i64 xh, .int .i64 xa, .int .i64 xt, .int .u64 xd, .int .u64 xp, .bool true]
        | 4 => .bool false
        | _ => undef) (C := w.heap.size + 1) (E := w.heap.size + 2) (iC := 2) (iE := 3) (lt := l1) (ls := [Value.int .i64 xh, .int .i64 xa, .int .i64 xt, .int .u64 xd, .int .u64 xp, .bool true]) (by kernel_rfl) ?g2 ?b2 rfl (by omega) (by decide) ?dd2 hl1i.out.2 (by simp [Value.oneCell']) (by rw [hl1i.out.1]; exact tC) tD ?kinds2 ?fin2
    case g2 =>
      intro i o ho
      have hi : i < 5 := by have := (Array.getElem?_eq_some_iff.1 ho).1; simpa using this
      match i, hi with
      | 0, _ | 1, _ | 2, _ | 3, _ | 4, _ => injection ho with ho; subst ho; rfl
    case b2 =>
      intro i o ho
      have hi : i < 5 := by have := (Array.getElem?_eq_some_iff.1 ho).1; simpa using this
      match i, hi with
      | 0, _ | 1, _ | 2, _ | 3, _ | 4, _ => injection ho with ho; subst ho; simp [Region.binds]
    case dd2 =>
      intro k hk
      have hk' : k < 185 := by
        simp [RetN.D] at hk
        omega
      simpa using hk'
    case kinds2 =>
      intro i o ho
      have hi : i < 5 := by have := (Array.getElem?_eq_some_iff.1 ho).1; simpa using this
      match i, hi with
      | 0, _ => injection ho with ho; subst ho; exact .inl ⟨93, _, rfl, rfl, fun L a w' hI hd => ex_load_row rfl (hI.fix 2 (Reg.notD rfl)) (rangeAt_block rA (hI.tch.block _ (by omega) (by omega))) HD.out.1 HD.out.2.1 (by rw [hl1i.out.1]; exact size79)⟩
      | 1, _ => injection ho with ho; subst ho; exact .inl ⟨94, _, rfl, rfl, fun L a w' hI hd => ex_load_row rfl (hI.fix 14 (Reg.notD rfl)) (rangeAt_block rB (hI.tch.block _ (by omega) (by omega))) HD.out.2.2.1 HD.out.2.2.2 size46⟩
      | 2, _ => injection ho with ho; subst ho; exact .inr (.inl ⟨rfl, rfl, _, _, _, rfl, (by rw [hl1i.out.1]; exact size79), fun L a w' hI hd => ⟨hI.fix 4 (Reg.notD rfl), (hI.pure 0 _ _ rfl (hd ⟨0, .data⟩ (by simp) rfl))⟩⟩)
      | 3, _ => injection ho with ho; subst ho; exact .inr (.inr ⟨rfl, rfl, _, _, _, rfl, size46, fun L a w' hI hd => ⟨hI.fix 5 (Reg.notD rfl), (hI.pure 1 _ _ rfl (hd ⟨1, .data⟩ (by simp) rfl))⟩⟩)
      | 4, _ => injection ho with ho; subst ho; exact .inl ⟨6, _, rfl, rfl, fun L a w' hI hd => ex_assign rfl rfl⟩
    case fin2 =>
      intro L a' w' hI hall
      rename_i K2 hK2
      refine hK2 _ _ ?_
      have rC := hI.sC (hall 2 (by decide))
      have rD := hI.sE (hall 3 (by decide))
      have pC : a'.eval (.tmp 4) = .pointer (some ⟨w.heap.size + 1, 0, none⟩) := hI.fix 4 (Reg.notD rfl)
      have pD : a'.eval (.tmp 5) = .pointer (some ⟨w.heap.size + 2, 0, none⟩) := hI.fix 5 (Reg.notD rfl)
      have pe : a'.eval (.tmp 6) = .bool false := hI.pure 4 6 _ rfl (hall 4 (by decide))
      have tch := hI.tch
      have hdf : a'.defers = [] := hI.df
      have hT := run_loadVar_mid (P := Try.prog) w' (w.heap.size + 1) 0 _ l1 dT rC HD.out.1 HD.out.2.1 (by rw [hl1i.out.1]; exact size79)
      have hS := run_loadVar_mid (P := Try.prog) w' (w.heap.size + 2) 0 _ _ dS rD HD.out.2.2.1 HD.out.2.2.2 size46
      have hres := results_cct (Q := Try.prog) (fn := Try.f53) (tmps := a'.tmps) (t := 4) (t' := 5) (t'' := 6) (W := w') (by rfl) pC hT pD hS
      rw [show a'.tmps.getD 6 undef = .bool false from pe] at hres
      go_wp2
      refine bodyPost_ret (v := .tuple #[.agg l1.toArray, (⟨xh, xa, xt, xd, xp, true⟩ : Stp).val, .bool false]) hres hdf ⟨rfl, HRW.out.block (tch.block g HRW.out.lt (by omega)), ?_⟩
      have := HTW.out.trans' tch (fun k hk h => absurd hk (by omega))
      exact ⟨this.os, this.tape, this.output, this.size, fun k hk hn => this.block k hk (by simpa using hn)⟩

set_option maxHeartbeats 8000000 in
theorem rtake_pop_false {w : World} {g n cap : Nat} {f f' : Nat → Int} {xh xa xt xd xp : Int} {s0 s1 s2 s3 s4 s5 hand a b c hh r0 r1 r2 r3 val : Int} {ok : Bool} (hr : IsRow w g n cap f) (hr1 : 0 ≤ r1 ∧ r1 < 4294967296) {ix bp : Int} (h0 : 0 ≤ r0 ∧ r0 ≤ 18446744073709551615) (h2 : 0 ≤ r2 ∧ r2 ≤ 18446744073709551615) (hix : r2 % 4294967296 = ix) (hbp : bump r0 ix = bp)  (hx : stepOf n f ⟨hand, 5, 0, r0, bp, true⟩ = ⟨xh, xa, xt, xd, xp, false⟩) (hf' : wordsOf n f ⟨hand, 5, 0, r0, bp, true⟩ = f') :
    Calls Try.prog 53 #[.agg (tk ⟨s0, s1, s2, s3, s4, s5⟩ hand ⟨2, a, b, c, hh⟩ 2 ⟨r0, r1, r2, r3, 0, 0, 0, 0⟩ ⟨ok, val⟩).toArray, .slice (some ⟨g, 0, none⟩) n cap] w fun e w' =>
      e = .returned (.tuple #[.agg (tk ⟨s0, s1, s2, s3, s4, s5⟩ hand ⟨2, a, b, c, hh⟩ 0 ⟨r0, r1, r2, r3, 0, 0, 0, 0⟩ ⟨ok, val⟩).toArray, (⟨xh, xa, xt, xd, xp, false⟩ : Stp).val, .bool false]) ∧ IsRow w' g n cap f' ∧ w.grownBy w' (some g) := by
  have DO := hide (fun (w' : World) (hr' : IsRow w' g n cap f) => ref_do (s := ⟨hand, 5, 0, r0, bp, true⟩) hr' (by rw [← hbp]; exact ⟨bump_lo _ _, bump_hi _ _⟩) ⟨by show (1 : Int) ≤ 5; decide, by show (5 : Int) ≤ 5; decide⟩)
  have HX := hide hx
  have HF := hide hf'
  have lg := hr.lt
  have a1 : wrap64 r1 = r1 := by unfold wrap64; omega
  have a1' : IntKind.i64.wrap r1 = r1 := by rw [IntKind.wrap_i64]; omega
  have a2 : wrap64 (2 * r1) = 2 * r1 := by unfold wrap64; omega
  have a3 : wrap64 (2 * r1 + 1) = 2 * r1 + 1 := by unfold wrap64; omega
  obtain ⟨l0, hl0⟩ : ∃ l, tk ⟨s0, s1, s2, s3, s4, s5⟩ hand ⟨2, a, b, c, hh⟩ 2 ⟨r0, r1, r2, r3, 0, 0, 0, 0⟩ ⟨ok, val⟩ = l := ⟨_, rfl⟩
  have hl0' : l0.length = 28 := by rw [← hl0]; rfl
  have hset : (l0.set 12 (.int .i64 0)) = tk ⟨s0, s1, s2, s3, s4, s5⟩ hand ⟨2, a, b, c, hh⟩ 0 ⟨r0, r1, r2, r3, 0, 0, 0, 0⟩ ⟨ok, val⟩ := by rw [← hl0]; rfl
  obtain ⟨l1, hl1⟩ : ∃ l, tk ⟨s0, s1, s2, s3, s4, s5⟩ hand ⟨2, a, b, c, hh⟩ 0 ⟨r0, r1, r2, r3, 0, 0, 0, 0⟩ ⟨ok, val⟩ = l := ⟨_, rfl⟩
  rw [hl0, hl1]
  rw [hl1] at hset
  have hl1i := hide (show IsTk l1 from by rw [← hl1]; exact tk_is _ _ _ _ _ _)
  obtain ⟨W3, hW3⟩ : ∃ W3, ((w.alloc (.cells l0.toArray 53)).alloc (.cells tk0.toArray 53)).alloc (.cells [Value.int .i64 0, .int .i64 0, .int .i64 0, .int .u64 0, .int .u64 0, .bool false].toArray 71) = W3 := ⟨_, rfl⟩
  have sz3 : W3.heap.size = w.heap.size + 3 := by rw [← hW3]; simp
  have R0 : W3.rowIs w.heap.size 53 28 (lrow l0) := by rw [← hW3]; exact ((rowL_alloc w l0 _ hl0').alloc _).alloc _
  have R1 : W3.rowIs (w.heap.size + 1) 53 28 (lrow tk0) := by
    rw [← hW3]
    have := (rowL_alloc (w.alloc (.cells l0.toArray 53)) tk0 53 (n := 28) rfl).alloc (.cells [Value.int .i64 0, .int .i64 0, .int .i64 0, .int .u64 0, .int .u64 0, .bool false].toArray 71)
    rwa [World.size_alloc] at this
  have R2 : W3.rowIs (w.heap.size + 2) 71 6 (lrow [Value.int .i64 0, .int .i64 0, .int .i64 0, .int .u64 0, .int .u64 0, .bool false]) := by
    rw [← hW3]
    have := rowL_alloc ((w.alloc (.cells l0.toArray 53)).alloc (.cells tk0.toArray 53)) [Value.int .i64 0, .int .i64 0, .int .i64 0, .int .u64 0, .int .u64 0, .bool false] 71 (n := 6) rfl
    rwa [World.size_alloc, World.size_alloc] at this
  have G3 : w.grownBy W3 (some g) := by rw [← hW3]; exact grown_alloc (grown_alloc (grown_alloc (grown_refl _ _) _) _) _
  have HR3 := hide (show IsRow W3 g n cap f from hr.grown (grown_none (by rw [← hW3]; exact grown_alloc (grown_alloc (grown_alloc (grown_refl _ _) _) _) _) none) (by simp))
  have cell : ∀ i v, l0[i]? = some v → W3.cell? ⟨w.heap.size, i, none⟩ = some v := fun i v hv => by rw [R0.cell (i := i) (by have := (List.getElem?_eq_some_iff.1 hv).1; omega), lrow_of hv]
  have g6 : l0[6]? = some (.int .i64 hand) := by rw [← hl0]; rfl
  have g7 : l0[7]? = some (.int .i64 2) := by rw [← hl0]; rfl
  have g11 : l0[11]? = some (.int .u64 hh) := by rw [← hl0]; rfl
  have g12 : l0[12]? = some (.int .i64 2) := by rw [← hl0]; rfl
  have g13 : l0[13]? = some (.int .u64 r0) := by rw [← hl0]; rfl
  have g14 : l0[14]? = some (.int .u64 r1) := by rw [← hl0]; rfl
  have g15 : l0[15]? = some (.int .u64 r2) := by rw [← hl0]; rfl
  have g16 : l0[16]? = some (.int .u64 r3) := by rw [← hl0]; rfl
  have g22 : l0[22]? = some (.bool ok) := by rw [← hl0]; rfl
  have g23 : l0[23]? = some (.int .u64 val) := by rw [← hl0]; rfl
  have c6 := cell 6 _ g6
  have c7 := cell 7 _ g7
  have c11 := cell 11 _ g11
  have c12 := cell 12 _ g12
  have c13 := cell 13 _ g13
  have c14 := cell 14 _ g14
  have c15 := cell 15 _ g15
  have c16 := cell 16 _ g16
  have c22 := cell 22 _ g22
  have c23 := cell 23 _ g23
  have G6 := hide g6
  have G7 := hide g7
  have G11 := hide g11
  have G12 := hide g12
  have G13 := hide g13
  have G14 := hide g14
  have G15 := hide g15
  have G16 := hide g16
  have G22 := hide g22
  have G23 := hide g23
  obtain ⟨dT, hdT1, hdT2⟩ := row79
  obtain ⟨dS, hdS1, hdS2⟩ := row46
  have HD := hide (And.intro hdT1 (And.intro hdT2 (And.intro hdS1 hdS2)))
  have HR0 := hide R0
  have HR1 := hide R1
  have HR2 := hide R2
  have HG3 := hide G3
  have HSET := hide hset
  have HL0 := hide hl0'
  have HRB := hide h0
  have HIC := hide h2
  have HIX := hide hix
  have HBP := hide hbp
  clear hx hf' hr hr1 R0 R1 R2 G3 cell hset hl0' hl0 hl1 hdT1 hdT2 hdS1 hdS2 h0 h2 hix hbp g6 g7 g11 g12 g13 g14 g15 g16 g22 g23
  simp only [tk0] at hW3
  have STB := hide (show ∀ c w' w'', Below W3.heap.size w' w'' → W3.heap.size ≤ w'.heap.size → (fun (c : Bool) (w' : World) => w'.rowIs w.heap.size 53 28 (lrow l0) ∧ w'.rowIs (w.heap.size + 1) 53 28 (lrow tk0) ∧ w'.rowIs (w.heap.size + 2) 71 6 (lrow [Value.int .i64 0, .int .i64 0, .int .i64 0, .int .u64 0, .int .u64 0, .bool false]) ∧ IsRow w' g n cap (if c = true then f' else f) ∧ Touch W3 w' (fun k => k = g)) c w' → (fun (c : Bool) (w' : World) => w'.rowIs w.heap.size 53 28 (lrow l0) ∧ w'.rowIs (w.heap.size + 1) 53 28 (lrow tk0) ∧ w'.rowIs (w.heap.size + 2) 71 6 (lrow [Value.int .i64 0, .int .i64 0, .int .i64 0, .int .u64 0, .int .u64 0, .bool false]) ∧ IsRow w' g n cap (if c = true then f' else f) ∧ Touch W3 w' (fun k => k = g)) c w'' from fun c w' w'' hb hs ⟨p1, p2, p3, p4, p5⟩ =>
    ⟨p1.of_block (hb.block _ (by omega)), p2.of_block (hb.block _ (by omega)), p3.of_block (hb.block _ (by omega)), p4.block (hb.block g (by omega)), ⟨hb.os.trans p5.os, hb.tape.trans p5.tape, hb.output.trans p5.output, Nat.le_trans p5.size hb.size, fun k hk hn => (hb.block k hk).trans (p5.block k hk hn)⟩⟩)
  have HLG := hide (show g < W3.heap.size by omega)
  have DC := hide (show ∀ w', (fun (c : Bool) (w' : World) => w'.rowIs w.heap.size 53 28 (lrow l0) ∧ w'.rowIs (w.heap.size + 1) 53 28 (lrow tk0) ∧ w'.rowIs (w.heap.size + 2) 71 6 (lrow [Value.int .i64 0, .int .i64 0, .int .i64 0, .int .u64 0, .int .u64 0, .bool false]) ∧ IsRow w' g n cap (if c = true then f' else f) ∧ Touch W3 w' (fun k => k = g)) false w' → Calls Try.prog 68 #[.slice (some ⟨g, 0, none⟩) n cap, .int .i64 hand, .int .i64 5, .int .i64 (0), .int .u64 r0, .int .u64 bp] w' fun e w'' => e = .returned (⟨xh, xa, xt, xd, xp, false⟩ : Stp).val ∧ (fun (c : Bool) (w' : World) => w'.rowIs w.heap.size 53 28 (lrow l0) ∧ w'.rowIs (w.heap.size + 1) 53 28 (lrow tk0) ∧ w'.rowIs (w.heap.size + 2) 71 6 (lrow [Value.int .i64 0, .int .i64 0, .int .i64 0, .int .u64 0, .int .u64 0, .bool false]) ∧ IsRow w' g n cap (if c = true then f' else f) ∧ Touch W3 w' (fun k => k = g)) true w'' ∧ w'.grownBy w'' (some g) from fun w' ⟨p1, p2, p3, p4, p5⟩ => by
    have ls := p5.size
    refine (DO.out w' (by simpa using p4)).mono ?_
    rintro e w'' ⟨rfl, h1, h2⟩
    rw [HX.out]
    rw [HF.out] at h1
    exact ⟨rfl, ⟨p1.of_block (h2.block _ (by omega) (by simp; omega)), p2.of_block (h2.block _ (by omega) (by simp; omega)), p3.of_block (h2.block _ (by omega) (by simp; omega)), by simpa using h1, p5.trans' (Touch.of_grown h2) (fun k _ e => by simpa using e)⟩, h2⟩)
  go_enter Try.func53, Try.ntmps53
  go_wp2_with fail
  clear hW3 c6 c7 c11 c12 c13 c14 c15 c16 c22 c23
  refine RG.region (ks := [(0, 73), (1, 74), (2, 75), (3, 76), (4, 77), (5, 78), (6, 79), (7, 80), (8, 81), (9, 82), (10, 83), (11, 84), (12, 85), (13, 86), (14, 87), (15, 88)]) (vals := fun i => match i with
      | 0 => .slice (some ⟨g, 0, none⟩) n cap
      | 1 => .pointer (some ⟨w.heap.size, 6, none⟩)
      | 2 => .int .i64 hand
      | 3 => .int .i64 0
      | 4 => .pointer (some ⟨w.heap.size, 13, none⟩)
      | 5 => .pointer (some ⟨w.heap.size, 13, none⟩)
      | 6 => .int .u64 r0
      | 7 => .pointer (some ⟨w.heap.size, 13, none⟩)
      | 8 => .pointer (some ⟨w.heap.size, 13, none⟩)
      | 9 => .int .u64 r0
      | 10 => .pointer (some ⟨w.heap.size, 13, none⟩)
      | 11 => .pointer (some ⟨w.heap.size, 15, none⟩)
      | 12 => .int .u64 r2
      | 13 => .int .i64 ix
      | 14 => .int .u64 bp
      | 15 => .agg #[Value.int .i64 xh, .int .i64 xa, .int .i64 xt, .int .u64 xd, .int .u64 xp, .bool false]
      | _ => undef) (x := 14) (WI := fun L v w' => RG.SG (fun (c : Bool) (w' : World) => w'.rowIs w.heap.size 53 28 (lrow l0) ∧ w'.rowIs (w.heap.size + 1) 53 28 (lrow tk0) ∧ w'.rowIs (w.heap.size + 2) 71 6 (lrow [Value.int .i64 0, .int .i64 0, .int .i64 0, .int .u64 0, .int .u64 0, .bool false]) ∧ IsRow w' g n cap (if c = true then f' else f) ∧ Touch W3 w' (fun k => k = g)) ⟨xh, xa, xt, xd, xp, false⟩ W3 (L 15) (L 16) (L 17) v w') (by kernel_rfl) ?gg ?bk rfl ?dd ?xx (RG.SG.start ⟨HR0.out.drew, HR1.out.drew, HR2.out.drew, HR3.out.block rfl, (Touch.refl W3 _).drew⟩) ?does ?fin
  case gg =>
    intro i o ho
    have hi : i < 18 := by have := (Array.getElem?_eq_some_iff.1 ho).1; simpa using this
    match i, hi with
    | 0, _ | 1, _ | 2, _ | 3, _ | 4, _ | 5, _ | 6, _ | 7, _ | 8, _ | 9, _ | 10, _ | 11, _ | 12, _ | 13, _ | 14, _ | 15, _ | 16, _ | 17, _ => injection ho with ho; subst ho; rfl
  case bk =>
    intro i o ho
    have hi : i < 18 := by have := (Array.getElem?_eq_some_iff.1 ho).1; simpa using this
    match i, hi with
    | 0, _ | 1, _ | 2, _ | 3, _ | 4, _ | 5, _ | 6, _ | 7, _ | 8, _ | 9, _ | 10, _ | 11, _ | 12, _ | 13, _ | 14, _ | 15, _ | 16, _ | 17, _ => injection ho with ho; subst ho; simp [Region.binds]
  case dd =>
    intro k hk
    have hk' : k < 185 := by
      simp [RetN.D] at hk
      omega
    simpa using hk'
  case xx => simp
  case does =>
    intro i o ho
    have hi : i < 18 := by have := (Array.getElem?_eq_some_iff.1 ho).1; simpa using this
    match i, hi with
    | 0, _ => injection ho with ho; subst ho; exact RG.Does.read rfl (fun L v w' h => RG.SG.skip (by decide) (by decide) (by decide) h) (fun L a w' hI hd => ex_move rfl (hI.fix 1 (Reg.notD rfl) (by decide)))
    | 1, _ => injection ho with ho; subst ho; exact RG.Does.read rfl (fun L v w' h => RG.SG.skip (by decide) (by decide) (by decide) h) (fun L a w' hI hd => ex_fieldo rfl (hI.fix 2 (Reg.notD rfl) (by decide)) (fieldK1 w' _))
    | 2, _ => injection ho with ho; subst ho; exact RG.Does.read rfl (fun L v w' h => RG.SG.skip (by decide) (by decide) (by decide) h) (fun L a w' hI hd => ex_load rfl (hI.pure 1 _ _ rfl (hd ⟨1, .data⟩ (by simp) rfl)) (agg_i w') ((hI.world.inv.1.cell (i := 6) (by omega)).trans (congrArg some (lrow_of G6.out))))
    | 3, _ => injection ho with ho; subst ho; exact RG.Does.read rfl (fun L v w' h => RG.SG.skip (by decide) (by decide) (by decide) h) (fun L a w' hI hd => ex_move rfl (hI.fix 7 (Reg.notD rfl) (by decide)))
    | 4, _ => injection ho with ho; subst ho; exact RG.Does.read rfl (fun L v w' h => RG.SG.skip (by decide) (by decide) (by decide) h) (fun L a w' hI hd => ex_fieldo rfl (hI.fix 2 (Reg.notD rfl) (by decide)) (fieldK4 w' _))
    | 5, _ => injection ho with ho; subst ho; exact RG.Does.read rfl (fun L v w' h => RG.SG.skip (by decide) (by decide) (by decide) h) (fun L a w' hI hd => ex_r0 rfl (hI.pure 4 _ _ rfl (hd ⟨4, .data⟩ (by simp) rfl)) rfl)
    | 6, _ => injection ho with ho; subst ho; exact RG.Does.read rfl (fun L v w' h => RG.SG.skip (by decide) (by decide) (by decide) h) (fun L a w' hI hd => ex_load rfl (hI.pure 5 _ _ rfl (hd ⟨5, .data⟩ (by simp) rfl)) (agg_u64 w') ((hI.world.inv.1.cell (i := 13) (by omega)).trans (congrArg some (lrow_of G13.out))))
    | 7, _ => injection ho with ho; subst ho; exact RG.Does.read rfl (fun L v w' h => RG.SG.skip (by decide) (by decide) (by decide) h) (fun L a w' hI hd => ex_fieldo rfl (hI.fix 2 (Reg.notD rfl) (by decide)) (fieldK4 w' _))
    | 8, _ => injection ho with ho; subst ho; exact RG.Does.read rfl (fun L v w' h => RG.SG.skip (by decide) (by decide) (by decide) h) (fun L a w' hI hd => ex_r0 rfl (hI.pure 7 _ _ rfl (hd ⟨7, .data⟩ (by simp) rfl)) rfl)
    | 9, _ => injection ho with ho; subst ho; exact RG.Does.read rfl (fun L v w' h => RG.SG.skip (by decide) (by decide) (by decide) h) (fun L a w' hI hd => ex_load rfl (hI.pure 8 _ _ rfl (hd ⟨8, .data⟩ (by simp) rfl)) (agg_u64 w') ((hI.world.inv.1.cell (i := 13) (by omega)).trans (congrArg some (lrow_of G13.out))))
    | 10, _ => injection ho with ho; subst ho; exact RG.Does.read rfl (fun L v w' h => RG.SG.skip (by decide) (by decide) (by decide) h) (fun L a w' hI hd => ex_fieldo rfl (hI.fix 2 (Reg.notD rfl) (by decide)) (fieldK4 w' _))
    | 11, _ => injection ho with ho; subst ho; exact RG.Does.read rfl (fun L v w' h => RG.SG.skip (by decide) (by decide) (by decide) h) (fun L a w' hI hd => ex_r2 rfl (hI.pure 10 _ _ rfl (hd ⟨10, .data⟩ (by simp) rfl)) rfl)
    | 12, _ => injection ho with ho; subst ho; exact RG.Does.read rfl (fun L v w' h => RG.SG.skip (by decide) (by decide) (by decide) h) (fun L a w' hI hd => ex_load rfl (hI.pure 11 _ _ rfl (hd ⟨11, .data⟩ (by simp) rfl)) (agg_u64 w') ((hI.world.inv.1.cell (i := 15) (by omega)).trans (congrArg some (lrow_of G15.out))))
    | 13, _ => injection ho with ho; subst ho; exact RG.Does.ask rfl (fun L v w' h => RG.SG.skip (by decide) (by decide) (by decide) h) (fun L a w' hI hd => call1 rfl (hI.pure 12 _ _ rfl (hd ⟨12, .data⟩ (by simp) rfl)) rfl (callRIndex _ _)) (fun w => by rw [← HIX.out]; exact index_ref r2 HIC.out.1 (by have := HIC.out.2; omega) w)
    | 14, _ => injection ho with ho; subst ho; exact RG.Does.ask rfl (fun L v w' h => RG.SG.skip (by decide) (by decide) (by decide) h) (fun L a w' hI hd => call2 rfl (hI.pure 9 _ _ rfl (hd ⟨9, .data⟩ (by simp) rfl)) (hI.pure 13 _ _ rfl (hd ⟨13, .data⟩ (by simp) rfl)) rfl (callRBump _ _)) (fun w => by rw [← HBP.out]; exact bump_ref r0 ix HRB.out.1 (by have := HRB.out.2; omega) w)
    | 15, _ => injection ho with ho; subst ho; exact RG.Does.call rfl (fun L a w' hI hd => call6 rfl (hI.pure 0 _ _ rfl (hd ⟨0, .data⟩ (by simp) rfl)) (hI.pure 2 _ _ rfl (hd ⟨2, .data⟩ (by simp) rfl)) rfl (hI.pure 3 _ _ rfl (hd ⟨3, .data⟩ (by simp) rfl)) (hI.pure 6 _ _ rfl (hd ⟨6, .data⟩ (by simp) rfl)) (hI.pure 14 _ _ rfl (hd ⟨14, .data⟩ (by simp) rfl)) rfl (callRDo' _ _)) (RG.SG.calls DC.out HLG.out (by decide) (by decide))
    | 16, _ => injection ho with ho; subst ho; exact RG.Does.make (u := fun w' => .pointer (some ⟨w'.heap.size, 0, none⟩)) rfl rfl (fun ev w' => alloc46 rfl) (fun L v w' h hL => by show RG.SG _ _ _ (upd L 16 true 15) (upd L 16 true 16) (upd L 16 true 17) _ _; rw [upd_same, upd_other _ _ (show 15 ≠ 16 by decide), upd_other _ _ (show 17 ≠ 16 by decide)]; exact RG.SG.make STB.out h hL)
    | 17, _ => injection ho with ho; subst ho; exact RG.Does.put (ls := (⟨xh, xa, xt, xd, xp, false⟩ : Stp).cells) rfl rfl rfl size46 (by simp [Stp.cells, Value.oneCell']) (fun L a w' hI hL hd => ⟨(hI.pure 15 _ _ rfl (hd ⟨15, .data⟩ (by simp) rfl)), by obtain ⟨q, e1, e2, e3⟩ := RG.SG.put STB.out hI.world (hd ⟨15, .data⟩ (by simp) rfl) (hd ⟨16, .data⟩ (by simp) rfl) hL; exact ⟨q, 0, e1, e2, by show RG.SG _ _ _ (upd L 17 true 15) (upd L 17 true 16) (upd L 17 true 17) _ _; rw [upd_same, upd_other _ _ (show 15 ≠ 17 by decide), upd_other _ _ (show 16 ≠ 17 by decide)]; exact e3⟩⟩)
  case fin =>
    intro L a' w1 hI hall
    have hw := hI.world
    simp only [hall 15 (by decide), hall 16 (by decide), hall 17 (by decide)] at hw
    obtain ⟨q, hq, hq1, hq2, _, hrq⟩ := hw.own rfl
    replace hrq := hrq rfl
    obtain ⟨p1, p2, p3, p4, p5⟩ := hw.inv
    have ea := act_all a' 185 (by rw [hI.sz]; rfl) hI.df
    simp only [List.range, List.range.loop, List.map] at ea
    rw [hI.fix 0 (Reg.notD rfl) (by decide), hI.fix 1 (Reg.notD rfl) (by decide), hI.fix 2 (Reg.notD rfl) (by decide), hI.fix 3 (Reg.notD rfl) (by decide), hI.fix 4 (Reg.notD rfl) (by decide), hI.fix 5 (Reg.notD rfl) (by decide), hI.fix 6 (Reg.notD rfl) (by decide), hI.fix 7 (Reg.notD rfl) (by decide), hI.fix 8 (Reg.notD rfl) (by decide), hI.fix 9 (Reg.notD rfl) (by decide), hI.fix 10 (Reg.notD rfl) (by decide), hI.fix 11 (Reg.notD rfl) (by decide), hI.fix 12 (Reg.notD rfl) (by decide), hI.fix 13 (Reg.notD rfl) (by decide), hI.fix 15 (Reg.notD rfl) (by decide), hI.fix 16 (Reg.notD rfl) (by decide), hI.fix 17 (Reg.notD rfl) (by decide), hI.fix 18 (Reg.notD rfl) (by decide), hI.fix 19 (Reg.notD rfl) (by decide), hI.fix 20 (Reg.notD rfl) (by decide), hI.fix 21 (Reg.notD rfl) (by decide), hI.fix 22 (Reg.notD rfl) (by decide), hI.fix 23 (Reg.notD rfl) (by decide), hI.fix 24 (Reg.notD rfl) (by decide), hI.fix 25 (Reg.notD rfl) (by decide), hI.fix 26 (Reg.notD rfl) (by decide), hI.fix 27 (Reg.notD rfl) (by decide), hI.fix 28 (Reg.notD rfl) (by decide), hI.fix 29 (Reg.notD rfl) (by decide), hI.fix 30 (Reg.notD rfl) (by decide), hI.fix 31 (Reg.notD rfl) (by decide), hI.fix 32 (Reg.notD rfl) (by decide), hI.fix 33 (Reg.notD rfl) (by decide), hI.fix 34 (Reg.notD rfl) (by decide), hI.fix 35 (Reg.notD rfl) (by decide), hI.fix 36 (Reg.notD rfl) (by decide), hI.fix 37 (Reg.notD rfl) (by decide), hI.fix 38 (Reg.notD rfl) (by decide), hI.fix 39 (Reg.notD rfl) (by decide), hI.fix 40 (Reg.notD rfl) (by decide), hI.fix 41 (Reg.notD rfl) (by decide), hI.fix 42 (Reg.notD rfl) (by decide), hI.fix 43 (Reg.notD rfl) (by decide), hI.fix 44 (Reg.notD rfl) (by decide), hI.fix 45 (Reg.notD rfl) (by decide), hI.fix 46 (Reg.notD rfl) (by decide), hI.fix 47 (Reg.notD rfl) (by decide), hI.fix 48 (Reg.notD rfl) (by decide), hI.fix 49 (Reg.notD rfl) (by decide), hI.fix 50 (Reg.notD rfl) (by decide), hI.fix 51 (Reg.notD rfl) (by decide), hI.fix 52 (Reg.notD rfl) (by decide), hI.fix 53 (Reg.notD rfl) (by decide), hI.fix 54 (Reg.notD rfl) (by decide), hI.fix 55 (Reg.notD rfl) (by decide), hI.fix 56 (Reg.notD rfl) (by decide), hI.fix 57 (Reg.notD rfl) (by decide), hI.fix 58 (Reg.notD rfl) (by decide), hI.fix 59 (Reg.notD rfl) (by decide), hI.fix 60 (Reg.notD rfl) (by decide), hI.fix 61 (Reg.notD rfl) (by decide), hI.fix 62 (Reg.notD rfl) (by decide), hI.fix 63 (Reg.notD rfl) (by decide), hI.fix 64 (Reg.notD rfl) (by decide), hI.fix 65 (Reg.notD rfl) (by decide), hI.fix 66 (Reg.notD rfl) (by decide), hI.fix 67 (Reg.notD rfl) (by decide), hI.fix 68 (Reg.notD rfl) (by decide), hI.fix 69 (Reg.notD rfl) (by decide), hI.fix 70 (Reg.notD rfl) (by decide), hI.fix 71 (Reg.notD rfl) (by decide), hI.fix 72 (Reg.notD rfl) (by decide), hI.fix 89 (Reg.notD rfl) (by decide), hI.fix 90 (Reg.notD rfl) (by decide), hI.fix 91 (Reg.notD rfl) (by decide), hI.fix 92 (Reg.notD rfl) (by decide), hI.fix 93 (Reg.notD rfl) (by decide), hI.fix 94 (Reg.notD rfl) (by decide), hI.fix 95 (Reg.notD rfl) (by decide), hI.fix 96 (Reg.notD rfl) (by decide), hI.fix 97 (Reg.notD rfl) (by decide), hI.fix 98 (Reg.notD rfl) (by decide), hI.fix 99 (Reg.notD rfl) (by decide), hI.fix 100 (Reg.notD rfl) (by decide), hI.fix 101 (Reg.notD rfl) (by decide), hI.fix 102 (Reg.notD rfl) (by decide), hI.fix 103 (Reg.notD rfl) (by decide), hI.fix 104 (Reg.notD rfl) (by decide), hI.fix 105 (Reg.notD rfl) (by decide), hI.fix 106 (Reg.notD rfl) (by decide), hI.fix 107 (Reg.notD rfl) (by decide), hI.fix 108 (Reg.notD rfl) (by decide), hI.fix 109 (Reg.notD rfl) (by decide), hI.fix 110 (Reg.notD rfl) (by decide), hI.fix 111 (Reg.notD rfl) (by decide), hI.fix 112 (Reg.notD rfl) (by decide), hI.fix 113 (Reg.notD rfl) (by decide), hI.fix 114 (Reg.notD rfl) (by decide), hI.fix 115 (Reg.notD rfl) (by decide), hI.fix 116 (Reg.notD rfl) (by decide), hI.fix 117 (Reg.notD rfl) (by decide), hI.fix 118 (Reg.notD rfl) (by decide), hI.fix 119 (Reg.notD rfl) (by decide), hI.fix 120 (Reg.notD rfl) (by decide), hI.fix 121 (Reg.notD rfl) (by decide), hI.fix 122 (Reg.notD rfl) (by decide), hI.fix 123 (Reg.notD rfl) (by decide), hI.fix 124 (Reg.notD rfl) (by decide), hI.fix 125 (Reg.notD rfl) (by decide), hI.fix 126 (Reg.notD rfl) (by decide), hI.fix 127 (Reg.notD rfl) (by decide), hI.fix 128 (Reg.notD rfl) (by decide), hI.fix 129 (Reg.notD rfl) (by decide), hI.fix 130 (Reg.notD rfl) (by decide), hI.fix 131 (Reg.notD rfl) (by decide), hI.fix 132 (Reg.notD rfl) (by decide), hI.fix 133 (Reg.notD rfl) (by decide), hI.fix 134 (Reg.notD rfl) (by decide), hI.fix 135 (Reg.notD rfl) (by decide), hI.fix 136 (Reg.notD rfl) (by decide), hI.fix 137 (Reg.notD rfl) (by decide), hI.fix 138 (Reg.notD rfl) (by decide), hI.fix 139 (Reg.notD rfl) (by decide), hI.fix 140 (Reg.notD rfl) (by decide), hI.fix 141 (Reg.notD rfl) (by decide), hI.fix 142 (Reg.notD rfl) (by decide), hI.fix 143 (Reg.notD rfl) (by decide), hI.fix 144 (Reg.notD rfl) (by decide), hI.fix 145 (Reg.notD rfl) (by decide), hI.fix 146 (Reg.notD rfl) (by decide), hI.fix 147 (Reg.notD rfl) (by decide), hI.fix 148 (Reg.notD rfl) (by decide), hI.fix 149 (Reg.notD rfl) (by decide), hI.fix 150 (Reg.notD rfl) (by decide), hI.fix 151 (Reg.notD rfl) (by decide), hI.fix 152 (Reg.notD rfl) (by decide), hI.fix 153 (Reg.notD rfl) (by decide), hI.fix 154 (Reg.notD rfl) (by decide), hI.fix 155 (Reg.notD rfl) (by decide), hI.fix 156 (Reg.notD rfl) (by decide), hI.fix 157 (Reg.notD rfl) (by decide), hI.fix 158 (Reg.notD rfl) (by decide), hI.fix 159 (Reg.notD rfl) (by decide), hI.fix 160 (Reg.notD rfl) (by decide), hI.fix 161 (Reg.notD rfl) (by decide), hI.fix 162 (Reg.notD rfl) (by decide), hI.fix 163 (Reg.notD rfl) (by decide), hI.fix 164 (Reg.notD rfl) (by decide), hI.fix 165 (Reg.notD rfl) (by decide), hI.fix 166 (Reg.notD rfl) (by decide), hI.fix 167 (Reg.notD rfl) (by decide), hI.fix 168 (Reg.notD rfl) (by decide), hI.fix 169 (Reg.notD rfl) (by decide), hI.fix 170 (Reg.notD rfl) (by decide), hI.fix 171 (Reg.notD rfl) (by decide), hI.fix 172 (Reg.notD rfl) (by decide), hI.fix 173 (Reg.notD rfl) (by decide), hI.fix 174 (Reg.notD rfl) (by decide), hI.fix 175 (Reg.notD rfl) (by decide), hI.fix 176 (Reg.notD rfl) (by decide), hI.fix 177 (Reg.notD rfl) (by decide), hI.fix 178 (Reg.notD rfl) (by decide), hI.fix 179 (Reg.notD rfl) (by decide), hI.fix 180 (Reg.notD rfl) (by decide), hI.fix 181 (Reg.notD rfl) (by decide), hI.fix 182 (Reg.notD rfl) (by decide), hI.fix 183 (Reg.notD rfl) (by decide), hI.fix 184 (Reg.notD rfl) (by decide), hq] at ea
    clear hI hall
    generalize a'.eval (.tmp 73) = u73 at ea
    generalize a'.eval (.tmp 74) = u74 at ea
    generalize a'.eval (.tmp 75) = u75 at ea
    generalize a'.eval (.tmp 76) = u76 at ea
    generalize a'.eval (.tmp 77) = u77 at ea
    generalize a'.eval (.tmp 78) = u78 at ea
    generalize a'.eval (.tmp 79) = u79 at ea
    generalize a'.eval (.tmp 80) = u80 at ea
    generalize a'.eval (.tmp 81) = u81 at ea
    generalize a'.eval (.tmp 82) = u82 at ea
    generalize a'.eval (.tmp 83) = u83 at ea
    generalize a'.eval (.tmp 84) = u84 at ea
    generalize a'.eval (.tmp 85) = u85 at ea
    generalize a'.eval (.tmp 86) = u86 at ea
    generalize a'.eval (.tmp 87) = u87 at ea
    generalize a'.eval (.tmp 88) = u88 at ea
    simp only [show ∀ (ts : Array Value) (ds) (i : Nat), (Act.mk ts ds).eval (.tmp i) = ts.getD i undef from fun _ _ _ => rfl] at ea
    simp at ea
    subst ea
    have HR4 := hide p1
    have HR5 := hide p2
    have HR6 := hide p3
    have HR1' := hide (show IsRow w1 g n cap f' from by simpa using p4)
    have HT5 := hide p5
    have HQ := hide hrq
    have ls := p5.size
    have hqb : q ≠ w.heap.size := by omega
    have hqb' : w.heap.size ≠ q := by omega
    have l1w : w.heap.size < w1.heap.size := by omega
    clear hw hq hrq p1 p2 p3 p4 p5 STB DC
    have e6 : w1.cell? ⟨w.heap.size, 6, none⟩ = some (.int .i64 hand) := by rw [HR4.out.cell (i := 6) (by omega), lrow_of G6.out]
    have f6 := HR4.out.frozen 6
    have e7 : w1.cell? ⟨w.heap.size, 7, none⟩ = some (.int .i64 2) := by rw [HR4.out.cell (i := 7) (by omega), lrow_of G7.out]
    have f7 := HR4.out.frozen 7
    have e11 : w1.cell? ⟨w.heap.size, 11, none⟩ = some (.int .u64 hh) := by rw [HR4.out.cell (i := 11) (by omega), lrow_of G11.out]
    have f11 := HR4.out.frozen 11
    have e12 : w1.cell? ⟨w.heap.size, 12, none⟩ = some (.int .i64 2) := by rw [HR4.out.cell (i := 12) (by omega), lrow_of G12.out]
    have f12 := HR4.out.frozen 12
    have e13 : w1.cell? ⟨w.heap.size, 13, none⟩ = some (.int .u64 r0) := by rw [HR4.out.cell (i := 13) (by omega), lrow_of G13.out]
    have f13 := HR4.out.frozen 13
    have e14 : w1.cell? ⟨w.heap.size, 14, none⟩ = some (.int .u64 r1) := by rw [HR4.out.cell (i := 14) (by omega), lrow_of G14.out]
    have f14 := HR4.out.frozen 14
    have e15 : w1.cell? ⟨w.heap.size, 15, none⟩ = some (.int .u64 r2) := by rw [HR4.out.cell (i := 15) (by omega), lrow_of G15.out]
    have f15 := HR4.out.frozen 15
    have e16 : w1.cell? ⟨w.heap.size, 16, none⟩ = some (.int .u64 r3) := by rw [HR4.out.cell (i := 16) (by omega), lrow_of G16.out]
    have f16 := HR4.out.frozen 16
    have e22 : w1.cell? ⟨w.heap.size, 22, none⟩ = some (.bool ok) := by rw [HR4.out.cell (i := 22) (by omega), lrow_of G22.out]
    have f22 := HR4.out.frozen 22
    have e23 : w1.cell? ⟨w.heap.size, 23, none⟩ = some (.int .u64 val) := by rw [HR4.out.cell (i := 23) (by omega), lrow_of G23.out]
    have f23 := HR4.out.frozen 23
    have s0' : w1.cell? ⟨q, 0, none⟩ = some (.int .i64 xh) := by have := HQ.out 0 _ rfl; simpa using this
    have s1' : w1.cell? ⟨q, 1, none⟩ = some (.int .i64 xa) := by have := HQ.out 1 _ rfl; simpa using this
    have s2' : w1.cell? ⟨q, 2, none⟩ = some (.int .i64 xt) := by have := HQ.out 2 _ rfl; simpa using this
    have s3' : w1.cell? ⟨q, 3, none⟩ = some (.int .u64 xd) := by have := HQ.out 3 _ rfl; simpa using this
    have s4' : w1.cell? ⟨q, 4, none⟩ = some (.int .u64 xp) := by have := HQ.out 4 _ rfl; simpa using this
    have s5' : w1.cell? ⟨q, 5, none⟩ = some (.bool false) := by have := HQ.out 5 _ rfl; simpa using this
    go_wp2_with fail
    obtain ⟨WA, hWA⟩ : ∃ w2, (w1.setCell ⟨w.heap.size, 12, none⟩ (.int .i64 0)) = w2 := ⟨_, rfl⟩
    have szA : WA.heap.size = w1.heap.size := by rw [← hWA]; simp
    have tt2 : Touch w1 WA (fun k => k = w.heap.size) := by rw [← hWA]; exact (Touch.setCell (S := fun k => k = w.heap.size) (Touch.refl w1 _) ⟨w.heap.size, 12, none⟩ (.inl rfl) _)
    have rA : WA.rangeAt w.heap.size 0 l1 := by
      have := rowIs.range (rowIs.setL HR4.out (i := 12) (by simp [HL0.out]) (.int .i64 0)) (by simp [HL0.out])
      rw [HSET.out, hWA] at this
      exact this
    have rB : WA.rangeAt q 0 [Value.int .i64 xh, .int .i64 xa, .int .i64 xt, .int .u64 xd, .int .u64 xp, .bool false] := rangeAt_block HQ.out (tt2.block _ hq2 (by omega))
    have tC : WA.there (w.heap.size + 1) 0 28 := rowIs.there (HR5.out.of_block (tt2.block _ (by omega) (by omega))) (by omega)
    have tD : WA.there (w.heap.size + 2) 0 6 := rowIs.there (HR6.out.of_block (tt2.block _ (by omega) (by omega))) (by omega)
    have rW : IsRow WA g n cap f' := HR1'.out.block (tt2.block g (by omega) (by omega))
    have TW : Touch w WA (fun k => k = g) := (((Touch.of_grown HG3.out).mono (S' := fun k => k = g) (fun k _ h => by simpa using h)).trans' HT5.out (fun k _ h => h)).trans' tt2 (fun k hk h => absurd hk (by omega))
    rw [hWA]
    have HTW := hide TW
    have HRW := hide rW
    clear TW rW hWA
    refine RetN.region (ks := [(0, 93), (1, 94), (4, 6)]) (vals := fun i => match i with
        | 0 => .agg l1.toArray
        | 1 => .agg #[Value.int .i64 xh, .int .i64 xa, .int .i64 xt, .int .u64 xd, .int .u64 xp, .bool false]
        | 4 => .bool false
        | _ => undef) (C := w.heap.size + 1) (E := w.heap.size + 2) (iC := 2) (iE := 3) (lt := l1) (ls := [Value.int .i64 xh, .int .i64 xa, .int .i64 xt, .int .u64 xd, .int .u64 xp, .bool false]) (by kernel_rfl) ?g2 ?b2 rfl (by omega) (by decide) ?dd2 hl1i.out.2 (by simp [Value.oneCell']) (by rw [hl1i.out.1]; exact tC) tD ?kinds2 ?fin2
    case g2 =>
      intro i o ho
      have hi : i < 5 := by have := (Array.getElem?_eq_some_iff.1 ho).1; simpa using this
      match i, hi with
      | 0, _ | 1, _ | 2, _ | 3, _ | 4, _ => injection ho with ho; subst ho; rfl
    case b2 =>
      intro i o ho
      have hi : i < 5 := by have := (Array.getElem?_eq_some_iff.1 ho).1; simpa using this
      match i, hi with
      | 0, _ | 1, _ | 2, _ | 3, _ | 4, _ => injection ho with ho; subst ho; simp [Region.binds]
    case dd2 =>
      intro k hk
      have hk' : k < 185 := by
        simp [RetN.D] at hk
        omega
      simpa using hk'
    case kinds2 =>
      intro i o ho
      have hi : i < 5 := by have := (Array.getElem?_eq_some_iff.1 ho).1; simpa using this
      match i, hi with
      | 0, _ => injection ho with ho; subst ho; exact .inl ⟨93, _, rfl, rfl, fun L a w' hI hd => ex_load_row rfl (hI.fix 2 (Reg.notD rfl)) (rangeAt_block rA (hI.tch.block _ (by omega) (by omega))) HD.out.1 HD.out.2.1 (by rw [hl1i.out.1]; exact size79)⟩
      | 1, _ => injection ho with ho; subst ho; exact .inl ⟨94, _, rfl, rfl, fun L a w' hI hd => ex_load_row rfl (hI.fix 14 (Reg.notD rfl)) (rangeAt_block rB (hI.tch.block _ (by omega) (by omega))) HD.out.2.2.1 HD.out.2.2.2 size46⟩
      | 2, _ => injection ho with ho; subst ho; exact .inr (.inl ⟨rfl, rfl, _, _, _, rfl, (by rw [hl1i.out.1]; exact size79), fun L a w' hI hd => ⟨hI.fix 4 (Reg.notD rfl), (hI.pure 0 _ _ rfl (hd ⟨0, .data⟩ (by simp) rfl))⟩⟩)
      | 3, _ => injection ho with ho; subst ho; exact .inr (.inr ⟨rfl, rfl, _, _, _, rfl, size46, fun L a w' hI hd => ⟨hI.fix 5 (Reg.notD rfl), (hI.pure 1 _ _ rfl (hd ⟨1, .data⟩ (by simp) rfl))⟩⟩)
      | 4, _ => injection ho with ho; subst ho; exact .inl ⟨6, _, rfl, rfl, fun L a w' hI hd => ex_assign rfl rfl⟩
    case fin2 =>
      intro L a' w' hI hall
      rename_i K2 hK2
      refine hK2 _ _ ?_
      have rC := hI.sC (hall 2 (by decide))
      have rD := hI.sE (hall 3 (by decide))
      have pC : a'.eval (.tmp 4) = .pointer (some ⟨w.heap.size + 1, 0, none⟩) := hI.fix 4 (Reg.notD rfl)
      have pD : a'.eval (.tmp 5) = .pointer (some ⟨w.heap.size + 2, 0, none⟩) := hI.fix 5 (Reg.notD rfl)
      have pe : a'.eval (.tmp 6) = .bool false := hI.pure 4 6 _ rfl (hall 4 (by decide))
      have tch := hI.tch
      have hdf : a'.defers = [] := hI.df
      have hT := run_loadVar_mid (P := Try.prog) w' (w.heap.size + 1) 0 _ l1 dT rC HD.out.1 HD.out.2.1 (by rw [hl1i.out.1]; exact size79)
      have hS := run_loadVar_mid (P := Try.prog) w' (w.heap.size + 2) 0 _ _ dS rD HD.out.2.2.1 HD.out.2.2.2 size46
      have hres := results_cct (Q := Try.prog) (fn := Try.f53) (tmps := a'.tmps) (t := 4) (t' := 5) (t'' := 6) (W := w') (by rfl) pC hT pD hS
      rw [show a'.tmps.getD 6 undef = .bool false from pe] at hres
      go_wp2
      refine bodyPost_ret (v := .tuple #[.agg l1.toArray, (⟨xh, xa, xt, xd, xp, false⟩ : Stp).val, .bool false]) hres hdf ⟨rfl, HRW.out.block (tch.block g HRW.out.lt (by omega)), ?_⟩
      have := HTW.out.trans' tch (fun k hk h => absurd hk (by omega))
      exact ⟨this.os, this.tape, this.output, this.size, fun k hk hn => this.block k hk (by simpa using hn)⟩

end Pile
end Go.Proofs.Ytgfbohmehhhbeaa
