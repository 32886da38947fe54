/-
  Lemmas: PileRE, PileRF, PileRK, L6Wrong, L6RanE, RViews.
-/
import Derived.Test.YtgfbohmehhhbeaaTp05
import Derived.Test.YtgfbohmehhhbeaaTp27
import Derived.Test.YtgfbohmehhhbeaaTp28
import Derived.Test.YtgfbohmehhhbeaaTp29
import Derived.Test.YtgfbohmehhhbeaaTp30
import Derived.Test.YtgfbohmehhhbeaaTp31
import Derived.Test.YtgfbohmehhhbeaaTp25
/-
  The pile's reference: Step: a push touches.
-/
namespace Go.Proofs.Ytgfbohmehhhbeaa
open Go.RowKit
set_option linter.unusedVariables false
set_option linter.unusedSimpArgs false
set_option linter.unnecessarySimpa false
set_option maxRecDepth 20000
namespace Pile

set_option maxHeartbeats 8000000 in
theorem rtouch_push {w : World} {g n cap : Nat} {f f' : Nat → Int} {x : Stp} {s0 s1 s2 s3 s4 s5 hand a b c hh r0 r1 r2 r3 val : Int} {ok : Bool} (hr : IsRow w g n cap f) (hr1 : 0 ≤ r1 ∧ r1 < 4294967296) (hw : 0 ≤ hh ∧ hh ≤ 18446744073709551615) (hx : stepOf n f ⟨hand, 2, 2 * r1 + 1, 0, hh, true⟩ = x) (hf' : wordsOf n f ⟨hand, 2, 2 * r1 + 1, 0, hh, true⟩ = f') :
    Calls Try.prog 53 #[.agg (tk ⟨s0, s1, s2, s3, s4, s5⟩ hand ⟨1, a, b, c, hh⟩ 3 ⟨r0, r1, r2, r3, 0, 0, 0, 0⟩ ⟨ok, val⟩).toArray, .slice (some ⟨g, 0, none⟩) n cap] w fun e w' =>
      e = .returned (.tuple #[.agg (tk ⟨s0, s1, s2, s3, s4, s5⟩ hand ⟨1, a, b, c, hh⟩ 4 ⟨r0, r1, r2, r3, 0, 0, 0, 0⟩ ⟨ok, val⟩).toArray, x.val, .bool false]) ∧ IsRow w' g n cap f' ∧ w.grownBy w' (some g) := by
  have DO := hide (fun (w' : World) (hr' : IsRow w' g n cap f) => ref_do (s := ⟨hand, 2, 2 * r1 + 1, 0, hh, true⟩) hr' hw ⟨by show (1 : Int) ≤ 2; decide, by show (2 : Int) ≤ 5; decide⟩)
  have HX := hide hx
  have HF := hide hf'
  have lg := hr.lt
  have a1 : wrap64 r1 = r1 := by unfold wrap64; omega
  have a1' : IntKind.i64.wrap r1 = r1 := by rw [IntKind.wrap_i64]; omega
  have a2 : wrap64 (2 * r1) = 2 * r1 := by unfold wrap64; omega
  have a3 : wrap64 (2 * r1 + 1) = 2 * r1 + 1 := by unfold wrap64; omega
  obtain ⟨l0, hl0⟩ : ∃ l, tk ⟨s0, s1, s2, s3, s4, s5⟩ hand ⟨1, a, b, c, hh⟩ 3 ⟨r0, r1, r2, r3, 0, 0, 0, 0⟩ ⟨ok, val⟩ = l := ⟨_, rfl⟩
  have hl0' : l0.length = 28 := by rw [← hl0]; rfl
  have hset : (l0.set 12 (.int .i64 4)) = tk ⟨s0, s1, s2, s3, s4, s5⟩ hand ⟨1, a, b, c, hh⟩ 4 ⟨r0, r1, r2, r3, 0, 0, 0, 0⟩ ⟨ok, val⟩ := by rw [← hl0]; rfl
  obtain ⟨l1, hl1⟩ : ∃ l, tk ⟨s0, s1, s2, s3, s4, s5⟩ hand ⟨1, a, b, c, hh⟩ 4 ⟨r0, r1, r2, r3, 0, 0, 0, 0⟩ ⟨ok, val⟩ = l := ⟨_, rfl⟩
  rw [hl0, hl1]
  rw [hl1] at hset
  have hl1i := hide (show IsTk l1 from by rw [← hl1]; exact tk_is _ _ _ _ _ _)
  obtain ⟨W3, hW3⟩ : ∃ W3, ((w.alloc (.cells l0.toArray 53)).alloc (.cells tk0.toArray 53)).alloc (.cells [Value.int .i64 0, .int .i64 0, .int .i64 0, .int .u64 0, .int .u64 0, .bool false].toArray 71) = W3 := ⟨_, rfl⟩
  have sz3 : W3.heap.size = w.heap.size + 3 := by rw [← hW3]; simp
  have R0 : W3.rowIs w.heap.size 53 28 (lrow l0) := by rw [← hW3]; exact ((rowL_alloc w l0 _ hl0').alloc _).alloc _
  have R1 : W3.rowIs (w.heap.size + 1) 53 28 (lrow tk0) := by
    rw [← hW3]
    have := (rowL_alloc (w.alloc (.cells l0.toArray 53)) tk0 53 (n := 28) rfl).alloc (.cells [Value.int .i64 0, .int .i64 0, .int .i64 0, .int .u64 0, .int .u64 0, .bool false].toArray 71)
    rwa [World.size_alloc] at this
  have R2 : W3.rowIs (w.heap.size + 2) 71 6 (lrow [Value.int .i64 0, .int .i64 0, .int .i64 0, .int .u64 0, .int .u64 0, .bool false]) := by
    rw [← hW3]
    have := rowL_alloc ((w.alloc (.cells l0.toArray 53)).alloc (.cells tk0.toArray 53)) [Value.int .i64 0, .int .i64 0, .int .i64 0, .int .u64 0, .int .u64 0, .bool false] 71 (n := 6) rfl
    rwa [World.size_alloc, World.size_alloc] at this
  have G3 : w.grownBy W3 (some g) := by rw [← hW3]; exact grown_alloc (grown_alloc (grown_alloc (grown_refl _ _) _) _) _
  have HR3 := hide (show IsRow W3 g n cap f from hr.grown (grown_none (by rw [← hW3]; exact grown_alloc (grown_alloc (grown_alloc (grown_refl _ _) _) _) _) none) (by simp))
  have cell : ∀ i v, l0[i]? = some v → W3.cell? ⟨w.heap.size, i, none⟩ = some v := fun i v hv => by rw [R0.cell (i := i) (by have := (List.getElem?_eq_some_iff.1 hv).1; omega), lrow_of hv]
  have g6 : l0[6]? = some (.int .i64 hand) := by rw [← hl0]; rfl
  have g7 : l0[7]? = some (.int .i64 1) := by rw [← hl0]; rfl
  have g11 : l0[11]? = some (.int .u64 hh) := by rw [← hl0]; rfl
  have g12 : l0[12]? = some (.int .i64 3) := by rw [← hl0]; rfl
  have g13 : l0[13]? = some (.int .u64 r0) := by rw [← hl0]; rfl
  have g14 : l0[14]? = some (.int .u64 r1) := by rw [← hl0]; rfl
  have g15 : l0[15]? = some (.int .u64 r2) := by rw [← hl0]; rfl
  have g16 : l0[16]? = some (.int .u64 r3) := by rw [← hl0]; rfl
  have g22 : l0[22]? = some (.bool ok) := by rw [← hl0]; rfl
  have g23 : l0[23]? = some (.int .u64 val) := by rw [← hl0]; rfl
  have c6 := cell 6 _ g6
  have c7 := cell 7 _ g7
  have c11 := cell 11 _ g11
  have c12 := cell 12 _ g12
  have c13 := cell 13 _ g13
  have c14 := cell 14 _ g14
  have c15 := cell 15 _ g15
  have c16 := cell 16 _ g16
  have c22 := cell 22 _ g22
  have c23 := cell 23 _ g23
  have G6 := hide g6
  have G7 := hide g7
  have G11 := hide g11
  have G12 := hide g12
  have G13 := hide g13
  have G14 := hide g14
  have G15 := hide g15
  have G16 := hide g16
  have G22 := hide g22
  have G23 := hide g23
  obtain ⟨dT, hdT1, hdT2⟩ := row79
  obtain ⟨dS, hdS1, hdS2⟩ := row46
  have HD := hide (And.intro hdT1 (And.intro hdT2 (And.intro hdS1 hdS2)))
  have HR0 := hide R0
  have HR1 := hide R1
  have HR2 := hide R2
  have HG3 := hide G3
  have HSET := hide hset
  have HL0 := hide hl0'
  clear hx hf' hr hr1 R0 R1 R2 G3 cell hset hl0' hl0 hl1 hdT1 hdT2 hdS1 hdS2  g6 g7 g11 g12 g13 g14 g15 g16 g22 g23
  simp only [tk0] at hW3
  have fz12 := HR0.out.frozen 12
  obtain ⟨la, hla⟩ : ∃ l, l0.set 12 (.int .i64 4) = l := ⟨_, rfl⟩
  have HLA := hide (show la.length = 28 from by rw [← hla]; simpa using HL0.out)
  have GA6 := hide (show la[6]? = some (.int .i64 hand) from by rw [← hla]; simp [G6.out])
  have GA7 := hide (show la[7]? = some (.int .i64 1) from by rw [← hla]; simp [G7.out])
  have GA11 := hide (show la[11]? = some (.int .u64 hh) from by rw [← hla]; simp [G11.out])
  have GA12 := hide (show la[12]? = some (.int .i64 4) from by rw [← hla]; simp [HL0.out])
  have GA13 := hide (show la[13]? = some (.int .u64 r0) from by rw [← hla]; simp [G13.out])
  have GA14 := hide (show la[14]? = some (.int .u64 r1) from by rw [← hla]; simp [G14.out])
  have GA15 := hide (show la[15]? = some (.int .u64 r2) from by rw [← hla]; simp [G15.out])
  have GA16 := hide (show la[16]? = some (.int .u64 r3) from by rw [← hla]; simp [G16.out])
  have GA22 := hide (show la[22]? = some (.bool ok) from by rw [← hla]; simp [G22.out])
  have GA23 := hide (show la[23]? = some (.int .u64 val) from by rw [← hla]; simp [G23.out])
  obtain ⟨w2, hw2⟩ : ∃ w2, W3.setCell ⟨w.heap.size, 12, none⟩ (.int .i64 4) = w2 := ⟨_, rfl⟩
  have sz2 : w2.heap.size = W3.heap.size := by rw [← hw2]; simp
  have tt2 : Touch W3 w2 (fun k => k = w.heap.size) := by rw [← hw2]; exact Touch.setCell (S := fun k => k = w.heap.size) (Touch.refl W3 _) ⟨w.heap.size, 12, none⟩ (.inl rfl) _
  have HA0 := hide (show w2.rowIs w.heap.size 53 28 (lrow la) from by rw [← hw2, ← hla]; exact rowIs.setL HR0.out (i := 12) (by simp [HL0.out]) (.int .i64 4))
  have HA1 := hide (HR1.out.of_block (tt2.block _ (by omega) (by omega)))
  have HA2 := hide (HR2.out.of_block (tt2.block _ (by omega) (by omega)))
  have HA3 := hide (HR3.out.block (tt2.block g (by omega) (by omega)))
  have HGA := hide (show w.grownBy w2 (some g) from by rw [← hw2]; exact grown_setCell HG3.out _ (.inr (Nat.le_refl _)) _)
  have p6 : w2.cell? ⟨w.heap.size, 6, none⟩ = some (.int .i64 hand) := by rw [HA0.out.cell (i := 6) (by omega), lrow_of GA6.out]
  have p7 : w2.cell? ⟨w.heap.size, 7, none⟩ = some (.int .i64 1) := by rw [HA0.out.cell (i := 7) (by omega), lrow_of GA7.out]
  have p11 : w2.cell? ⟨w.heap.size, 11, none⟩ = some (.int .u64 hh) := by rw [HA0.out.cell (i := 11) (by omega), lrow_of GA11.out]
  have p12 : w2.cell? ⟨w.heap.size, 12, none⟩ = some (.int .i64 4) := by rw [HA0.out.cell (i := 12) (by omega), lrow_of GA12.out]
  have p13 : w2.cell? ⟨w.heap.size, 13, none⟩ = some (.int .u64 r0) := by rw [HA0.out.cell (i := 13) (by omega), lrow_of GA13.out]
  have p14 : w2.cell? ⟨w.heap.size, 14, none⟩ = some (.int .u64 r1) := by rw [HA0.out.cell (i := 14) (by omega), lrow_of GA14.out]
  have p15 : w2.cell? ⟨w.heap.size, 15, none⟩ = some (.int .u64 r2) := by rw [HA0.out.cell (i := 15) (by omega), lrow_of GA15.out]
  have p16 : w2.cell? ⟨w.heap.size, 16, none⟩ = some (.int .u64 r3) := by rw [HA0.out.cell (i := 16) (by omega), lrow_of GA16.out]
  have p22 : w2.cell? ⟨w.heap.size, 22, none⟩ = some (.bool ok) := by rw [HA0.out.cell (i := 22) (by omega), lrow_of GA22.out]
  have p23 : w2.cell? ⟨w.heap.size, 23, none⟩ = some (.int .u64 val) := by rw [HA0.out.cell (i := 23) (by omega), lrow_of GA23.out]
  have HSA := hide hla
  clear tt2 hla
  have hla : la = l1 := by rw [← HSA.out]; exact HSET.out
  subst hla
  have rA : w2.rangeAt w.heap.size 0 la := rowIs.range HA0.out HLA.out
  have tC : w2.there (w.heap.size + 1) 0 28 := rowIs.there HA1.out (by omega)
  have tD : w2.there (w.heap.size + 2) 0 6 := rowIs.there HA2.out (by omega)
  have HTW := hide (show Touch w w2 (fun k => k = g) from (Touch.of_grown HGA.out).mono (S' := fun k => k = g) (fun k _ h => by simpa using h))
  have q6 := GA6.out
  have q11 := GA11.out
  have STB := hide (show ∀ c w' w'', Touch w' w'' (fun k => k = w.heap.size + 1 ∨ k = w.heap.size + 2) → (fun (c : Bool) (w' : World) => w'.rangeAt w.heap.size 0 la ∧ IsRow w' g n cap (if c = true then f' else f) ∧ Touch w2 w' (fun k => k = g ∨ k = w.heap.size + 1 ∨ k = w.heap.size + 2)) c w' → (fun (c : Bool) (w' : World) => w'.rangeAt w.heap.size 0 la ∧ IsRow w' g n cap (if c = true then f' else f) ∧ Touch w2 w' (fun k => k = g ∨ k = w.heap.size + 1 ∨ k = w.heap.size + 2)) c w'' from fun c w' w'' ht ⟨p1, p2, p3⟩ => by
    have ls := p3.size
    exact ⟨rangeAt_block p1 (ht.block _ (by omega) (by omega)), p2.block (ht.block g (by omega) (by omega)), p3.trans' ht (fun k _ h => .inr h)⟩)
  have DC := hide (show ∀ w', (fun (c : Bool) (w' : World) => w'.rangeAt w.heap.size 0 la ∧ IsRow w' g n cap (if c = true then f' else f) ∧ Touch w2 w' (fun k => k = g ∨ k = w.heap.size + 1 ∨ k = w.heap.size + 2)) false w' → Calls Try.prog 68 #[.slice (some ⟨g, 0, none⟩) n cap, .int .i64 hand, .int .i64 2, .int .i64 (2 * r1 + 1), .int .u64 0, .int .u64 hh] w' fun e w'' => e = .returned x.val ∧ (fun (c : Bool) (w' : World) => w'.rangeAt w.heap.size 0 la ∧ IsRow w' g n cap (if c = true then f' else f) ∧ Touch w2 w' (fun k => k = g ∨ k = w.heap.size + 1 ∨ k = w.heap.size + 2)) true w'' ∧ w''.heap[w.heap.size + 1]? = w'.heap[w.heap.size + 1]? ∧ w''.heap[w.heap.size + 2]? = w'.heap[w.heap.size + 2]? from fun w' ⟨p1, p2, p3⟩ => by
    have ls := p3.size
    refine (DO.out w' (by simpa using p2)).mono ?_
    rintro e w'' ⟨rfl, h1, h2⟩
    rw [HX.out]
    rw [HF.out] at h1
    exact ⟨rfl, ⟨rangeAt_block p1 (h2.block _ (by omega) (by simp; omega)), by simpa using h1, p3.trans' (Touch.of_grown h2) (fun k _ e => .inl (by simpa using e))⟩, h2.block _ (by omega) (by simp; omega), h2.block _ (by omega) (by simp; omega)⟩)
  go_enter Try.func53, Try.ntmps53
  go_wp2_with fail
  clear hw2 hW3 c6 c7 c11 c12 c13 c14 c15 c16 c22 c23 p6 p7 p11 p12 p13 p14 p15 p16 p22 p23
  refine RG.region (ks := [(0, 102), (1, 103), (2, 104), (3, 105), (4, 106), (5, 107), (6, 108), (7, 109), (8, 110), (11, 6)]) (vals := fun i => match i with
      | 0 => .agg la.toArray
      | 1 => .slice (some ⟨g, 0, none⟩) n cap
      | 2 => .pointer (some ⟨w.heap.size, 6, none⟩)
      | 3 => .int .i64 hand
      | 4 => .int .i64 (2 * r1 + 1)
      | 5 => .pointer (some ⟨w.heap.size, 7, none⟩)
      | 6 => .pointer (some ⟨w.heap.size, 11, none⟩)
      | 7 => .int .u64 hh
      | 8 => .agg #[Value.int .i64 x.hand, .int .i64 x.act, .int .i64 x.at_, .int .u64 x.had, .int .u64 x.put, .bool x.ok]
      | 11 => .bool false
      | _ => undef) (x := 3) (WI := fun L v w' => RG.SM (fun (c : Bool) (w' : World) => w'.rangeAt w.heap.size 0 la ∧ IsRow w' g n cap (if c = true then f' else f) ∧ Touch w2 w' (fun k => k = g ∨ k = w.heap.size + 1 ∨ k = w.heap.size + 2)) (w.heap.size + 1) (w.heap.size + 2) la x (L 8) (L 9) (L 10) w') (by kernel_rfl) ?gg ?bk rfl ?dd ?xx (RG.SM.start ⟨rA, HA3.out, (Touch.refl w2 _).drew⟩ (by rw [hl1i.out.1]; exact tC) tD) ?does ?fin
  case gg =>
    intro i o ho
    have hi : i < 12 := by have := (Array.getElem?_eq_some_iff.1 ho).1; simpa using this
    match i, hi with
    | 0, _ | 1, _ | 2, _ | 3, _ | 4, _ | 5, _ | 6, _ | 7, _ | 8, _ | 9, _ | 10, _ | 11, _ => injection ho with ho; subst ho; rfl
  case bk =>
    intro i o ho
    have hi : i < 12 := by have := (Array.getElem?_eq_some_iff.1 ho).1; simpa using this
    match i, hi with
    | 0, _ | 1, _ | 2, _ | 3, _ | 4, _ | 5, _ | 6, _ | 7, _ | 8, _ | 9, _ | 10, _ | 11, _ => injection ho with ho; subst ho; simp [Region.binds]
  case dd =>
    intro k hk
    have hk' : k < 185 := by
      simp [RetN.D] at hk
      omega
    simpa using hk'
  case xx => simp
  case does =>
    intro i o ho
    have hi : i < 12 := by have := (Array.getElem?_eq_some_iff.1 ho).1; simpa using this
    match i, hi with
    | 0, _ => injection ho with ho; subst ho; exact RG.Does.read rfl (fun L v w' h => RG.SM.skip (by decide) (by decide) (by decide) h) (fun L a w' hI hd => ex_load_row rfl (hI.fix 2 (Reg.notD rfl) (by decide)) hI.world.inv.1 HD.out.1 HD.out.2.1 (by rw [hl1i.out.1]; exact size79))
    | 1, _ => injection ho with ho; subst ho; exact RG.Does.read rfl (fun L v w' h => RG.SM.skip (by decide) (by decide) (by decide) h) (fun L a w' hI hd => ex_move rfl (hI.fix 1 (Reg.notD rfl) (by decide)))
    | 2, _ => injection ho with ho; subst ho; exact RG.Does.read rfl (fun L v w' h => RG.SM.skip (by decide) (by decide) (by decide) h) (fun L a w' hI hd => ex_fieldo rfl (hI.fix 2 (Reg.notD rfl) (by decide)) (fieldK1 w' _))
    | 3, _ => injection ho with ho; subst ho; exact RG.Does.read rfl (fun L v w' h => RG.SM.skip (by decide) (by decide) (by decide) h) (fun L a w' hI hd => ex_load rfl (hI.pure 2 _ _ rfl (hd ⟨2, .data⟩ (by simp) rfl)) (agg_i w') (by have := hI.world.inv.1 6 _ q6; simpa using this))
    | 4, _ => injection ho with ho; subst ho; exact RG.Does.read rfl (fun L v w' h => RG.SM.skip (by decide) (by decide) (by decide) h) (fun L a w' hI hd => ex_move rfl (hI.fix 11 (Reg.notD rfl) (by decide)))
    | 5, _ => injection ho with ho; subst ho; exact RG.Does.read rfl (fun L v w' h => RG.SM.skip (by decide) (by decide) (by decide) h) (fun L a w' hI hd => ex_fieldo rfl (hI.fix 2 (Reg.notD rfl) (by decide)) (fieldK2 w' _))
    | 6, _ => injection ho with ho; subst ho; exact RG.Does.read rfl (fun L v w' h => RG.SM.skip (by decide) (by decide) (by decide) h) (fun L a w' hI hd => ex_fieldo rfl (hI.pure 5 _ _ rfl (hd ⟨5, .data⟩ (by simp) rfl)) (fieldJ4 w' _))
    | 7, _ => injection ho with ho; subst ho; exact RG.Does.read rfl (fun L v w' h => RG.SM.skip (by decide) (by decide) (by decide) h) (fun L a w' hI hd => ex_load rfl (hI.pure 6 _ _ rfl (hd ⟨6, .data⟩ (by simp) rfl)) (agg_u64 w') (by have := hI.world.inv.1 11 _ q11; simpa using this))
    | 8, _ => injection ho with ho; subst ho; exact RG.Does.call rfl (fun L a w' hI hd => call6 rfl (hI.pure 1 _ _ rfl (hd ⟨1, .data⟩ (by simp) rfl)) (hI.pure 3 _ _ rfl (hd ⟨3, .data⟩ (by simp) rfl)) rfl (hI.pure 4 _ _ rfl (hd ⟨4, .data⟩ (by simp) rfl)) rfl (hI.pure 7 _ _ rfl (hd ⟨7, .data⟩ (by simp) rfl)) rfl (callRDo' _ _)) (RG.SM.calls DC.out (by decide) (by decide))
    | 9, _ => injection ho with ho; subst ho; exact RG.Does.put (ls := la) rfl rfl rfl (by rw [hl1i.out.1]; exact size79) hl1i.out.2 (fun L a w' hI hL hd => ⟨(hI.pure 0 _ _ rfl (hd ⟨0, .data⟩ (by simp) rfl)), by obtain ⟨e2, e3⟩ := RG.SM.putC STB.out (by omega) hI.world; exact ⟨w.heap.size + 1, 0, hI.fix 4 (Reg.notD rfl) (by decide), e2, by show RG.SM _ _ _ _ _ (upd L 9 true 8) (upd L 9 true 9) (upd L 9 true 10) _; rw [upd_same, upd_other _ _ (show 8 ≠ 9 by decide), upd_other _ _ (show 10 ≠ 9 by decide)]; exact e3⟩⟩)
    | 10, _ => injection ho with ho; subst ho; exact RG.Does.put (ls := x.cells) rfl rfl rfl size46 (by simp [Stp.cells, Value.oneCell']) (fun L a w' hI hL hd => ⟨(hI.pure 8 _ _ rfl (hd ⟨8, .data⟩ (by simp) rfl)), by obtain ⟨e2, e3⟩ := RG.SM.putE STB.out (by omega) hI.world (hd ⟨8, .data⟩ (by simp) rfl); exact ⟨w.heap.size + 2, 0, hI.fix 5 (Reg.notD rfl) (by decide), e2, by show RG.SM _ _ _ _ _ (upd L 10 true 8) (upd L 10 true 9) (upd L 10 true 10) _; rw [upd_same, upd_other _ _ (show 8 ≠ 10 by decide), upd_other _ _ (show 9 ≠ 10 by decide)]; exact e3⟩⟩)
    | 11, _ => injection ho with ho; subst ho; exact RG.Does.read rfl (fun L v w' h => RG.SM.skip (by decide) (by decide) (by decide) h) (fun L a w' hI hd => ex_assign rfl rfl)
  case fin =>
    intro L a' w' hI hall
    rename_i K2 hK2
    refine hK2 _ _ ?_
    have hw := hI.world
    simp only [hall 8 (by decide), hall 9 (by decide), hall 10 (by decide)] at hw
    have rC := hw.stoC rfl
    have rD := hw.stoE rfl
    obtain ⟨p1, p2, p3⟩ := hw.inv
    have pC : a'.eval (.tmp 4) = .pointer (some ⟨w.heap.size + 1, 0, none⟩) := hI.fix 4 (Reg.notD rfl) (by decide)
    have pD : a'.eval (.tmp 5) = .pointer (some ⟨w.heap.size + 2, 0, none⟩) := hI.fix 5 (Reg.notD rfl) (by decide)
    have pe : a'.eval (.tmp 6) = .bool false := hI.pure 11 6 _ rfl (hall 11 (by decide))
    have hdf : a'.defers = [] := hI.df
    have hT := run_loadVar_mid (P := Try.prog) w' (w.heap.size + 1) 0 _ la dT rC HD.out.1 HD.out.2.1 (by rw [hl1i.out.1]; exact size79)
    have hS := run_loadVar_mid (P := Try.prog) w' (w.heap.size + 2) 0 _ _ dS rD HD.out.2.2.1 HD.out.2.2.2 size46
    have hres := results_cct (Q := Try.prog) (fn := Try.f53) (tmps := a'.tmps) (t := 4) (t' := 5) (t'' := 6) (W := w') (by rfl) pC hT pD hS
    rw [show a'.tmps.getD 6 undef = .bool false from pe] at hres
    go_wp2
    refine bodyPost_ret (v := .tuple #[.agg la.toArray, x.val, .bool false]) hres hdf ⟨rfl, by simpa using p2, ?_⟩
    have := HTW.out.trans' p3 (fun k hk h => by rcases h with h | h | h; exact h; omega; omega)
    exact ⟨this.os, this.tape, this.output, this.size, fun k hk hn => this.block k hk (by simpa using hn)⟩

end Pile
end Go.Proofs.Ytgfbohmehhhbeaa

/-
  The pile's reference: Step: link.
-/
namespace Go.Proofs.Ytgfbohmehhhbeaa
open Go.RowKit
set_option linter.unusedVariables false
set_option linter.unusedSimpArgs false
set_option linter.unnecessarySimpa false
set_option maxRecDepth 20000
namespace Pile

set_option maxHeartbeats 8000000 in
theorem rlink_push {w : World} {g n cap : Nat} {f f' : Nat → Int} {x : Stp} {s0 s1 s2 s3 s4 s5 hand a b c hh r0 r1 r2 r3 val : Int} {ok : Bool} (hr : IsRow w g n cap f) (hr1 : 0 ≤ r1 ∧ r1 < 4294967296) {ix : Int} (h0 : 0 ≤ r0 ∧ r0 ≤ 18446744073709551615) (hix : r0 % 4294967296 = ix)  (hx : stepOf n f ⟨hand, 2, 2 * r1, 0, ix, true⟩ = x) (hf' : wordsOf n f ⟨hand, 2, 2 * r1, 0, ix, true⟩ = f') :
    Calls Try.prog 53 #[.agg (tk ⟨s0, s1, s2, s3, s4, s5⟩ hand ⟨1, a, b, c, hh⟩ 5 ⟨r0, r1, r2, r3, 0, 0, 0, 0⟩ ⟨ok, val⟩).toArray, .slice (some ⟨g, 0, none⟩) n cap] w fun e w' =>
      e = .returned (.tuple #[.agg (tk ⟨s0, s1, s2, s3, s4, s5⟩ hand ⟨1, a, b, c, hh⟩ 6 ⟨r0, r1, r2, r3, 0, 0, 0, 0⟩ ⟨ok, val⟩).toArray, x.val, .bool false]) ∧ IsRow w' g n cap f' ∧ w.grownBy w' (some g) := by
  have DO := hide (fun (w' : World) (hr' : IsRow w' g n cap f) => ref_do (s := ⟨hand, 2, 2 * r1, 0, ix, true⟩) hr' (by rw [← hix]; exact ⟨(by show (0 : Int) ≤ r0 % 4294967296; omega), (by show r0 % 4294967296 ≤ 18446744073709551615; omega)⟩) ⟨by show (1 : Int) ≤ 2; decide, by show (2 : Int) ≤ 5; decide⟩)
  have HX := hide hx
  have HF := hide hf'
  have lg := hr.lt
  have a1 : wrap64 r1 = r1 := by unfold wrap64; omega
  have a1' : IntKind.i64.wrap r1 = r1 := by rw [IntKind.wrap_i64]; omega
  have a2 : wrap64 (2 * r1) = 2 * r1 := by unfold wrap64; omega
  have a3 : wrap64 (2 * r1 + 1) = 2 * r1 + 1 := by unfold wrap64; omega
  obtain ⟨l0, hl0⟩ : ∃ l, tk ⟨s0, s1, s2, s3, s4, s5⟩ hand ⟨1, a, b, c, hh⟩ 5 ⟨r0, r1, r2, r3, 0, 0, 0, 0⟩ ⟨ok, val⟩ = l := ⟨_, rfl⟩
  have hl0' : l0.length = 28 := by rw [← hl0]; rfl
  have hset : (l0.set 12 (.int .i64 6)) = tk ⟨s0, s1, s2, s3, s4, s5⟩ hand ⟨1, a, b, c, hh⟩ 6 ⟨r0, r1, r2, r3, 0, 0, 0, 0⟩ ⟨ok, val⟩ := by rw [← hl0]; rfl
  obtain ⟨l1, hl1⟩ : ∃ l, tk ⟨s0, s1, s2, s3, s4, s5⟩ hand ⟨1, a, b, c, hh⟩ 6 ⟨r0, r1, r2, r3, 0, 0, 0, 0⟩ ⟨ok, val⟩ = l := ⟨_, rfl⟩
  rw [hl0, hl1]
  rw [hl1] at hset
  have hl1i := hide (show IsTk l1 from by rw [← hl1]; exact tk_is _ _ _ _ _ _)
  obtain ⟨W3, hW3⟩ : ∃ W3, ((w.alloc (.cells l0.toArray 53)).alloc (.cells tk0.toArray 53)).alloc (.cells [Value.int .i64 0, .int .i64 0, .int .i64 0, .int .u64 0, .int .u64 0, .bool false].toArray 71) = W3 := ⟨_, rfl⟩
  have sz3 : W3.heap.size = w.heap.size + 3 := by rw [← hW3]; simp
  have R0 : W3.rowIs w.heap.size 53 28 (lrow l0) := by rw [← hW3]; exact ((rowL_alloc w l0 _ hl0').alloc _).alloc _
  have R1 : W3.rowIs (w.heap.size + 1) 53 28 (lrow tk0) := by
    rw [← hW3]
    have := (rowL_alloc (w.alloc (.cells l0.toArray 53)) tk0 53 (n := 28) rfl).alloc (.cells [Value.int .i64 0, .int .i64 0, .int .i64 0, .int .u64 0, .int .u64 0, .bool false].toArray 71)
    rwa [World.size_alloc] at this
  have R2 : W3.rowIs (w.heap.size + 2) 71 6 (lrow [Value.int .i64 0, .int .i64 0, .int .i64 0, .int .u64 0, .int .u64 0, .bool false]) := by
    rw [← hW3]
    have := rowL_alloc ((w.alloc (.cells l0.toArray 53)).alloc (.cells tk0.toArray 53)) [Value.int .i64 0, .int .i64 0, .int .i64 0, .int .u64 0, .int .u64 0, .bool false] 71 (n := 6) rfl
    rwa [World.size_alloc, World.size_alloc] at this
  have G3 : w.grownBy W3 (some g) := by rw [← hW3]; exact grown_alloc (grown_alloc (grown_alloc (grown_refl _ _) _) _) _
  have HR3 := hide (show IsRow W3 g n cap f from hr.grown (grown_none (by rw [← hW3]; exact grown_alloc (grown_alloc (grown_alloc (grown_refl _ _) _) _) _) none) (by simp))
  have cell : ∀ i v, l0[i]? = some v → W3.cell? ⟨w.heap.size, i, none⟩ = some v := fun i v hv => by rw [R0.cell (i := i) (by have := (List.getElem?_eq_some_iff.1 hv).1; omega), lrow_of hv]
  have g6 : l0[6]? = some (.int .i64 hand) := by rw [← hl0]; rfl
  have g7 : l0[7]? = some (.int .i64 1) := by rw [← hl0]; rfl
  have g11 : l0[11]? = some (.int .u64 hh) := by rw [← hl0]; rfl
  have g12 : l0[12]? = some (.int .i64 5) := by rw [← hl0]; rfl
  have g13 : l0[13]? = some (.int .u64 r0) := by rw [← hl0]; rfl
  have g14 : l0[14]? = some (.int .u64 r1) := by rw [← hl0]; rfl
  have g15 : l0[15]? = some (.int .u64 r2) := by rw [← hl0]; rfl
  have g16 : l0[16]? = some (.int .u64 r3) := by rw [← hl0]; rfl
  have g22 : l0[22]? = some (.bool ok) := by rw [← hl0]; rfl
  have g23 : l0[23]? = some (.int .u64 val) := by rw [← hl0]; rfl
  have c6 := cell 6 _ g6
  have c7 := cell 7 _ g7
  have c11 := cell 11 _ g11
  have c12 := cell 12 _ g12
  have c13 := cell 13 _ g13
  have c14 := cell 14 _ g14
  have c15 := cell 15 _ g15
  have c16 := cell 16 _ g16
  have c22 := cell 22 _ g22
  have c23 := cell 23 _ g23
  have G6 := hide g6
  have G7 := hide g7
  have G11 := hide g11
  have G12 := hide g12
  have G13 := hide g13
  have G14 := hide g14
  have G15 := hide g15
  have G16 := hide g16
  have G22 := hide g22
  have G23 := hide g23
  obtain ⟨dT, hdT1, hdT2⟩ := row79
  obtain ⟨dS, hdS1, hdS2⟩ := row46
  have HD := hide (And.intro hdT1 (And.intro hdT2 (And.intro hdS1 hdS2)))
  have HR0 := hide R0
  have HR1 := hide R1
  have HR2 := hide R2
  have HG3 := hide G3
  have HSET := hide hset
  have HL0 := hide hl0'
  have HIC := hide h0
  have HIX := hide hix
  have HIB := hide (show 0 ≤ ix ∧ ix ≤ 18446744073709551615 by omega)
  clear hx hf' hr hr1 R0 R1 R2 G3 cell hset hl0' hl0 hl1 hdT1 hdT2 hdS1 hdS2 h0 hix g6 g7 g11 g12 g13 g14 g15 g16 g22 g23
  simp only [tk0] at hW3
  have fz12 := HR0.out.frozen 12
  obtain ⟨la, hla⟩ : ∃ l, l0.set 12 (.int .i64 6) = l := ⟨_, rfl⟩
  have HLA := hide (show la.length = 28 from by rw [← hla]; simpa using HL0.out)
  have GA6 := hide (show la[6]? = some (.int .i64 hand) from by rw [← hla]; simp [G6.out])
  have GA7 := hide (show la[7]? = some (.int .i64 1) from by rw [← hla]; simp [G7.out])
  have GA11 := hide (show la[11]? = some (.int .u64 hh) from by rw [← hla]; simp [G11.out])
  have GA12 := hide (show la[12]? = some (.int .i64 6) from by rw [← hla]; simp [HL0.out])
  have GA13 := hide (show la[13]? = some (.int .u64 r0) from by rw [← hla]; simp [G13.out])
  have GA14 := hide (show la[14]? = some (.int .u64 r1) from by rw [← hla]; simp [G14.out])
  have GA15 := hide (show la[15]? = some (.int .u64 r2) from by rw [← hla]; simp [G15.out])
  have GA16 := hide (show la[16]? = some (.int .u64 r3) from by rw [← hla]; simp [G16.out])
  have GA22 := hide (show la[22]? = some (.bool ok) from by rw [← hla]; simp [G22.out])
  have GA23 := hide (show la[23]? = some (.int .u64 val) from by rw [← hla]; simp [G23.out])
  obtain ⟨w2, hw2⟩ : ∃ w2, W3.setCell ⟨w.heap.size, 12, none⟩ (.int .i64 6) = w2 := ⟨_, rfl⟩
  have sz2 : w2.heap.size = W3.heap.size := by rw [← hw2]; simp
  have tt2 : Touch W3 w2 (fun k => k = w.heap.size) := by rw [← hw2]; exact Touch.setCell (S := fun k => k = w.heap.size) (Touch.refl W3 _) ⟨w.heap.size, 12, none⟩ (.inl rfl) _
  have HA0 := hide (show w2.rowIs w.heap.size 53 28 (lrow la) from by rw [← hw2, ← hla]; exact rowIs.setL HR0.out (i := 12) (by simp [HL0.out]) (.int .i64 6))
  have HA1 := hide (HR1.out.of_block (tt2.block _ (by omega) (by omega)))
  have HA2 := hide (HR2.out.of_block (tt2.block _ (by omega) (by omega)))
  have HA3 := hide (HR3.out.block (tt2.block g (by omega) (by omega)))
  have HGA := hide (show w.grownBy w2 (some g) from by rw [← hw2]; exact grown_setCell HG3.out _ (.inr (Nat.le_refl _)) _)
  have p6 : w2.cell? ⟨w.heap.size, 6, none⟩ = some (.int .i64 hand) := by rw [HA0.out.cell (i := 6) (by omega), lrow_of GA6.out]
  have p7 : w2.cell? ⟨w.heap.size, 7, none⟩ = some (.int .i64 1) := by rw [HA0.out.cell (i := 7) (by omega), lrow_of GA7.out]
  have p11 : w2.cell? ⟨w.heap.size, 11, none⟩ = some (.int .u64 hh) := by rw [HA0.out.cell (i := 11) (by omega), lrow_of GA11.out]
  have p12 : w2.cell? ⟨w.heap.size, 12, none⟩ = some (.int .i64 6) := by rw [HA0.out.cell (i := 12) (by omega), lrow_of GA12.out]
  have p13 : w2.cell? ⟨w.heap.size, 13, none⟩ = some (.int .u64 r0) := by rw [HA0.out.cell (i := 13) (by omega), lrow_of GA13.out]
  have p14 : w2.cell? ⟨w.heap.size, 14, none⟩ = some (.int .u64 r1) := by rw [HA0.out.cell (i := 14) (by omega), lrow_of GA14.out]
  have p15 : w2.cell? ⟨w.heap.size, 15, none⟩ = some (.int .u64 r2) := by rw [HA0.out.cell (i := 15) (by omega), lrow_of GA15.out]
  have p16 : w2.cell? ⟨w.heap.size, 16, none⟩ = some (.int .u64 r3) := by rw [HA0.out.cell (i := 16) (by omega), lrow_of GA16.out]
  have p22 : w2.cell? ⟨w.heap.size, 22, none⟩ = some (.bool ok) := by rw [HA0.out.cell (i := 22) (by omega), lrow_of GA22.out]
  have p23 : w2.cell? ⟨w.heap.size, 23, none⟩ = some (.int .u64 val) := by rw [HA0.out.cell (i := 23) (by omega), lrow_of GA23.out]
  have HSA := hide hla
  clear tt2 hla
  have hla : la = l1 := by rw [← HSA.out]; exact HSET.out
  subst hla
  have rA : w2.rangeAt w.heap.size 0 la := rowIs.range HA0.out HLA.out
  have tC : w2.there (w.heap.size + 1) 0 28 := rowIs.there HA1.out (by omega)
  have tD : w2.there (w.heap.size + 2) 0 6 := rowIs.there HA2.out (by omega)
  have HTW := hide (show Touch w w2 (fun k => k = g) from (Touch.of_grown HGA.out).mono (S' := fun k => k = g) (fun k _ h => by simpa using h))
  have q6 := GA6.out
  have q13 := GA13.out
  have STB := hide (show ∀ c w' w'', Touch w' w'' (fun k => k = w.heap.size + 1 ∨ k = w.heap.size + 2) → (fun (c : Bool) (w' : World) => w'.rangeAt w.heap.size 0 la ∧ IsRow w' g n cap (if c = true then f' else f) ∧ Touch w2 w' (fun k => k = g ∨ k = w.heap.size + 1 ∨ k = w.heap.size + 2)) c w' → (fun (c : Bool) (w' : World) => w'.rangeAt w.heap.size 0 la ∧ IsRow w' g n cap (if c = true then f' else f) ∧ Touch w2 w' (fun k => k = g ∨ k = w.heap.size + 1 ∨ k = w.heap.size + 2)) c w'' from fun c w' w'' ht ⟨p1, p2, p3⟩ => by
    have ls := p3.size
    exact ⟨rangeAt_block p1 (ht.block _ (by omega) (by omega)), p2.block (ht.block g (by omega) (by omega)), p3.trans' ht (fun k _ h => .inr h)⟩)
  have DC := hide (show ∀ w', (fun (c : Bool) (w' : World) => w'.rangeAt w.heap.size 0 la ∧ IsRow w' g n cap (if c = true then f' else f) ∧ Touch w2 w' (fun k => k = g ∨ k = w.heap.size + 1 ∨ k = w.heap.size + 2)) false w' → Calls Try.prog 68 #[.slice (some ⟨g, 0, none⟩) n cap, .int .i64 hand, .int .i64 2, .int .i64 (2 * r1), .int .u64 0, .int .u64 ix] w' fun e w'' => e = .returned x.val ∧ (fun (c : Bool) (w' : World) => w'.rangeAt w.heap.size 0 la ∧ IsRow w' g n cap (if c = true then f' else f) ∧ Touch w2 w' (fun k => k = g ∨ k = w.heap.size + 1 ∨ k = w.heap.size + 2)) true w'' ∧ w''.heap[w.heap.size + 1]? = w'.heap[w.heap.size + 1]? ∧ w''.heap[w.heap.size + 2]? = w'.heap[w.heap.size + 2]? from fun w' ⟨p1, p2, p3⟩ => by
    have ls := p3.size
    refine (DO.out w' (by simpa using p2)).mono ?_
    rintro e w'' ⟨rfl, h1, h2⟩
    rw [HX.out]
    rw [HF.out] at h1
    exact ⟨rfl, ⟨rangeAt_block p1 (h2.block _ (by omega) (by simp; omega)), by simpa using h1, p3.trans' (Touch.of_grown h2) (fun k _ e => .inl (by simpa using e))⟩, h2.block _ (by omega) (by simp; omega), h2.block _ (by omega) (by simp; omega)⟩)
  go_enter Try.func53, Try.ntmps53
  go_wp2_with fail
  clear hw2 hW3 c6 c7 c11 c12 c13 c14 c15 c16 c22 c23 p6 p7 p11 p12 p13 p14 p15 p16 p22 p23
  refine RG.region (ks := [(0, 139), (1, 140), (2, 141), (3, 142), (4, 143), (5, 144), (6, 145), (7, 146), (8, 147), (9, 148), (10, 149), (13, 6)]) (vals := fun i => match i with
      | 0 => .agg la.toArray
      | 1 => .slice (some ⟨g, 0, none⟩) n cap
      | 2 => .pointer (some ⟨w.heap.size, 6, none⟩)
      | 3 => .int .i64 hand
      | 4 => .int .i64 (2 * r1)
      | 5 => .pointer (some ⟨w.heap.size, 13, none⟩)
      | 6 => .pointer (some ⟨w.heap.size, 13, none⟩)
      | 7 => .int .u64 r0
      | 8 => .int .i64 ix
      | 9 => .int .u64 ix
      | 10 => .agg #[Value.int .i64 x.hand, .int .i64 x.act, .int .i64 x.at_, .int .u64 x.had, .int .u64 x.put, .bool x.ok]
      | 13 => .bool false
      | _ => undef) (x := 3) (WI := fun L v w' => RG.SM (fun (c : Bool) (w' : World) => w'.rangeAt w.heap.size 0 la ∧ IsRow w' g n cap (if c = true then f' else f) ∧ Touch w2 w' (fun k => k = g ∨ k = w.heap.size + 1 ∨ k = w.heap.size + 2)) (w.heap.size + 1) (w.heap.size + 2) la x (L 10) (L 11) (L 12) w') (by kernel_rfl) ?gg ?bk rfl ?dd ?xx (RG.SM.start ⟨rA, HA3.out, (Touch.refl w2 _).drew⟩ (by rw [hl1i.out.1]; exact tC) tD) ?does ?fin
  case gg =>
    intro i o ho
    have hi : i < 14 := by have := (Array.getElem?_eq_some_iff.1 ho).1; simpa using this
    match i, hi with
    | 0, _ | 1, _ | 2, _ | 3, _ | 4, _ | 5, _ | 6, _ | 7, _ | 8, _ | 9, _ | 10, _ | 11, _ | 12, _ | 13, _ => injection ho with ho; subst ho; rfl
  case bk =>
    intro i o ho
    have hi : i < 14 := by have := (Array.getElem?_eq_some_iff.1 ho).1; simpa using this
    match i, hi with
    | 0, _ | 1, _ | 2, _ | 3, _ | 4, _ | 5, _ | 6, _ | 7, _ | 8, _ | 9, _ | 10, _ | 11, _ | 12, _ | 13, _ => injection ho with ho; subst ho; simp [Region.binds]
  case dd =>
    intro k hk
    have hk' : k < 185 := by
      simp [RetN.D] at hk
      omega
    simpa using hk'
  case xx => simp
  case does =>
    intro i o ho
    have hi : i < 14 := by have := (Array.getElem?_eq_some_iff.1 ho).1; simpa using this
    match i, hi with
    | 0, _ => injection ho with ho; subst ho; exact RG.Does.read rfl (fun L v w' h => RG.SM.skip (by decide) (by decide) (by decide) h) (fun L a w' hI hd => ex_load_row rfl (hI.fix 2 (Reg.notD rfl) (by decide)) hI.world.inv.1 HD.out.1 HD.out.2.1 (by rw [hl1i.out.1]; exact size79))
    | 1, _ => injection ho with ho; subst ho; exact RG.Does.read rfl (fun L v w' h => RG.SM.skip (by decide) (by decide) (by decide) h) (fun L a w' hI hd => ex_move rfl (hI.fix 1 (Reg.notD rfl) (by decide)))
    | 2, _ => injection ho with ho; subst ho; exact RG.Does.read rfl (fun L v w' h => RG.SM.skip (by decide) (by decide) (by decide) h) (fun L a w' hI hd => ex_fieldo rfl (hI.fix 2 (Reg.notD rfl) (by decide)) (fieldK1 w' _))
    | 3, _ => injection ho with ho; subst ho; exact RG.Does.read rfl (fun L v w' h => RG.SM.skip (by decide) (by decide) (by decide) h) (fun L a w' hI hd => ex_load rfl (hI.pure 2 _ _ rfl (hd ⟨2, .data⟩ (by simp) rfl)) (agg_i w') (by have := hI.world.inv.1 6 _ q6; simpa using this))
    | 4, _ => injection ho with ho; subst ho; exact RG.Does.read rfl (fun L v w' h => RG.SM.skip (by decide) (by decide) (by decide) h) (fun L a w' hI hd => ex_move rfl (hI.fix 10 (Reg.notD rfl) (by decide)))
    | 5, _ => injection ho with ho; subst ho; exact RG.Does.read rfl (fun L v w' h => RG.SM.skip (by decide) (by decide) (by decide) h) (fun L a w' hI hd => ex_fieldo rfl (hI.fix 2 (Reg.notD rfl) (by decide)) (fieldK4 w' _))
    | 6, _ => injection ho with ho; subst ho; exact RG.Does.read rfl (fun L v w' h => RG.SM.skip (by decide) (by decide) (by decide) h) (fun L a w' hI hd => ex_r0 rfl (hI.pure 5 _ _ rfl (hd ⟨5, .data⟩ (by simp) rfl)) rfl)
    | 7, _ => injection ho with ho; subst ho; exact RG.Does.read rfl (fun L v w' h => RG.SM.skip (by decide) (by decide) (by decide) h) (fun L a w' hI hd => ex_load rfl (hI.pure 6 _ _ rfl (hd ⟨6, .data⟩ (by simp) rfl)) (agg_u64 w') (by have := hI.world.inv.1 13 _ q13; simpa using this))
    | 8, _ => injection ho with ho; subst ho; exact RG.Does.ask rfl (fun L v w' h => RG.SM.skip (by decide) (by decide) (by decide) h) (fun L a w' hI hd => call1 rfl (hI.pure 7 _ _ rfl (hd ⟨7, .data⟩ (by simp) rfl)) rfl (callRIndex _ _)) (fun w => by rw [← HIX.out]; exact index_ref r0 HIC.out.1 (by have := HIC.out.2; omega) w)
    | 9, _ => injection ho with ho; subst ho; exact RG.Does.read rfl (fun L v w' h => RG.SM.skip (by decide) (by decide) (by decide) h) (fun L a w' hI hd => ex_convu rfl (hI.pure 8 _ _ rfl (hd ⟨8, .data⟩ (by simp) rfl)) HIB.out.1 HIB.out.2)
    | 10, _ => injection ho with ho; subst ho; exact RG.Does.call rfl (fun L a w' hI hd => call6 rfl (hI.pure 1 _ _ rfl (hd ⟨1, .data⟩ (by simp) rfl)) (hI.pure 3 _ _ rfl (hd ⟨3, .data⟩ (by simp) rfl)) rfl (hI.pure 4 _ _ rfl (hd ⟨4, .data⟩ (by simp) rfl)) rfl (hI.pure 9 _ _ rfl (hd ⟨9, .data⟩ (by simp) rfl)) rfl (callRDo' _ _)) (RG.SM.calls DC.out (by decide) (by decide))
    | 11, _ => injection ho with ho; subst ho; exact RG.Does.put (ls := la) rfl rfl rfl (by rw [hl1i.out.1]; exact size79) hl1i.out.2 (fun L a w' hI hL hd => ⟨(hI.pure 0 _ _ rfl (hd ⟨0, .data⟩ (by simp) rfl)), by obtain ⟨e2, e3⟩ := RG.SM.putC STB.out (by omega) hI.world; exact ⟨w.heap.size + 1, 0, hI.fix 4 (Reg.notD rfl) (by decide), e2, by show RG.SM _ _ _ _ _ (upd L 11 true 10) (upd L 11 true 11) (upd L 11 true 12) _; rw [upd_same, upd_other _ _ (show 10 ≠ 11 by decide), upd_other _ _ (show 12 ≠ 11 by decide)]; exact e3⟩⟩)
    | 12, _ => injection ho with ho; subst ho; exact RG.Does.put (ls := x.cells) rfl rfl rfl size46 (by simp [Stp.cells, Value.oneCell']) (fun L a w' hI hL hd => ⟨(hI.pure 10 _ _ rfl (hd ⟨10, .data⟩ (by simp) rfl)), by obtain ⟨e2, e3⟩ := RG.SM.putE STB.out (by omega) hI.world (hd ⟨10, .data⟩ (by simp) rfl); exact ⟨w.heap.size + 2, 0, hI.fix 5 (Reg.notD rfl) (by decide), e2, by show RG.SM _ _ _ _ _ (upd L 12 true 10) (upd L 12 true 11) (upd L 12 true 12) _; rw [upd_same, upd_other _ _ (show 10 ≠ 12 by decide), upd_other _ _ (show 11 ≠ 12 by decide)]; exact e3⟩⟩)
    | 13, _ => injection ho with ho; subst ho; exact RG.Does.read rfl (fun L v w' h => RG.SM.skip (by decide) (by decide) (by decide) h) (fun L a w' hI hd => ex_assign rfl rfl)
  case fin =>
    intro L a' w' hI hall
    rename_i K2 hK2
    refine hK2 _ _ ?_
    have hw := hI.world
    simp only [hall 10 (by decide), hall 11 (by decide), hall 12 (by decide)] at hw
    have rC := hw.stoC rfl
    have rD := hw.stoE rfl
    obtain ⟨p1, p2, p3⟩ := hw.inv
    have pC : a'.eval (.tmp 4) = .pointer (some ⟨w.heap.size + 1, 0, none⟩) := hI.fix 4 (Reg.notD rfl) (by decide)
    have pD : a'.eval (.tmp 5) = .pointer (some ⟨w.heap.size + 2, 0, none⟩) := hI.fix 5 (Reg.notD rfl) (by decide)
    have pe : a'.eval (.tmp 6) = .bool false := hI.pure 13 6 _ rfl (hall 13 (by decide))
    have hdf : a'.defers = [] := hI.df
    have hT := run_loadVar_mid (P := Try.prog) w' (w.heap.size + 1) 0 _ la dT rC HD.out.1 HD.out.2.1 (by rw [hl1i.out.1]; exact size79)
    have hS := run_loadVar_mid (P := Try.prog) w' (w.heap.size + 2) 0 _ _ dS rD HD.out.2.2.1 HD.out.2.2.2 size46
    have hres := results_cct (Q := Try.prog) (fn := Try.f53) (tmps := a'.tmps) (t := 4) (t' := 5) (t'' := 6) (W := w') (by rfl) pC hT pD hS
    rw [show a'.tmps.getD 6 undef = .bool false from pe] at hres
    go_wp2
    refine bodyPost_ret (v := .tuple #[.agg la.toArray, x.val, .bool false]) hres hdf ⟨rfl, by simpa using p2, ?_⟩
    have := HTW.out.trans' p3 (fun k hk h => by rcases h with h | h | h; exact h; omega; omega)
    exact ⟨this.os, this.tape, this.output, this.size, fun k hk hn => this.block k hk (by simpa using hn)⟩

set_option maxHeartbeats 8000000 in
theorem rlink_pop {w : World} {g n cap : Nat} {f f' : Nat → Int} {x : Stp} {s0 s1 s2 s3 s4 s5 hand a b c hh r0 r1 r2 r3 val : Int} {ok : Bool} (hr : IsRow w g n cap f) (hr1 : 0 ≤ r1 ∧ r1 < 4294967296) {ix : Int} (h0 : 0 ≤ r0 ∧ r0 ≤ 18446744073709551615) (hix : r0 % 4294967296 = ix)  (hx : stepOf n f ⟨hand, 2, 2 * r1, 0, ix, true⟩ = x) (hf' : wordsOf n f ⟨hand, 2, 2 * r1, 0, ix, true⟩ = f') :
    Calls Try.prog 53 #[.agg (tk ⟨s0, s1, s2, s3, s4, s5⟩ hand ⟨2, a, b, c, hh⟩ 5 ⟨r0, r1, r2, r3, 0, 0, 0, 0⟩ ⟨ok, val⟩).toArray, .slice (some ⟨g, 0, none⟩) n cap] w fun e w' =>
      e = .returned (.tuple #[.agg (tk ⟨s0, s1, s2, s3, s4, s5⟩ hand ⟨2, a, b, c, hh⟩ 6 ⟨r0, r1, r2, r3, 0, 0, 0, 0⟩ ⟨ok, val⟩).toArray, x.val, .bool false]) ∧ IsRow w' g n cap f' ∧ w.grownBy w' (some g) := by
  have DO := hide (fun (w' : World) (hr' : IsRow w' g n cap f) => ref_do (s := ⟨hand, 2, 2 * r1, 0, ix, true⟩) hr' (by rw [← hix]; exact ⟨(by show (0 : Int) ≤ r0 % 4294967296; omega), (by show r0 % 4294967296 ≤ 18446744073709551615; omega)⟩) ⟨by show (1 : Int) ≤ 2; decide, by show (2 : Int) ≤ 5; decide⟩)
  have HX := hide hx
  have HF := hide hf'
  have lg := hr.lt
  have a1 : wrap64 r1 = r1 := by unfold wrap64; omega
  have a1' : IntKind.i64.wrap r1 = r1 := by rw [IntKind.wrap_i64]; omega
  have a2 : wrap64 (2 * r1) = 2 * r1 := by unfold wrap64; omega
  have a3 : wrap64 (2 * r1 + 1) = 2 * r1 + 1 := by unfold wrap64; omega
  obtain ⟨l0, hl0⟩ : ∃ l, tk ⟨s0, s1, s2, s3, s4, s5⟩ hand ⟨2, a, b, c, hh⟩ 5 ⟨r0, r1, r2, r3, 0, 0, 0, 0⟩ ⟨ok, val⟩ = l := ⟨_, rfl⟩
  have hl0' : l0.length = 28 := by rw [← hl0]; rfl
  have hset : (l0.set 12 (.int .i64 6)) = tk ⟨s0, s1, s2, s3, s4, s5⟩ hand ⟨2, a, b, c, hh⟩ 6 ⟨r0, r1, r2, r3, 0, 0, 0, 0⟩ ⟨ok, val⟩ := by rw [← hl0]; rfl
  obtain ⟨l1, hl1⟩ : ∃ l, tk ⟨s0, s1, s2, s3, s4, s5⟩ hand ⟨2, a, b, c, hh⟩ 6 ⟨r0, r1, r2, r3, 0, 0, 0, 0⟩ ⟨ok, val⟩ = l := ⟨_, rfl⟩
  rw [hl0, hl1]
  rw [hl1] at hset
  have hl1i := hide (show IsTk l1 from by rw [← hl1]; exact tk_is _ _ _ _ _ _)
  obtain ⟨W3, hW3⟩ : ∃ W3, ((w.alloc (.cells l0.toArray 53)).alloc (.cells tk0.toArray 53)).alloc (.cells [Value.int .i64 0, .int .i64 0, .int .i64 0, .int .u64 0, .int .u64 0, .bool false].toArray 71) = W3 := ⟨_, rfl⟩
  have sz3 : W3.heap.size = w.heap.size + 3 := by rw [← hW3]; simp
  have R0 : W3.rowIs w.heap.size 53 28 (lrow l0) := by rw [← hW3]; exact ((rowL_alloc w l0 _ hl0').alloc _).alloc _
  have R1 : W3.rowIs (w.heap.size + 1) 53 28 (lrow tk0) := by
    rw [← hW3]
    have := (rowL_alloc (w.alloc (.cells l0.toArray 53)) tk0 53 (n := 28) rfl).alloc (.cells [Value.int .i64 0, .int .i64 0, .int .i64 0, .int .u64 0, .int .u64 0, .bool false].toArray 71)
    rwa [World.size_alloc] at this
  have R2 : W3.rowIs (w.heap.size + 2) 71 6 (lrow [Value.int .i64 0, .int .i64 0, .int .i64 0, .int .u64 0, .int .u64 0, .bool false]) := by
    rw [← hW3]
    have := rowL_alloc ((w.alloc (.cells l0.toArray 53)).alloc (.cells tk0.toArray 53)) [Value.int .i64 0, .int .i64 0, .int .i64 0, .int .u64 0, .int .u64 0, .bool false] 71 (n := 6) rfl
    rwa [World.size_alloc, World.size_alloc] at this
  have G3 : w.grownBy W3 (some g) := by rw [← hW3]; exact grown_alloc (grown_alloc (grown_alloc (grown_refl _ _) _) _) _
  have HR3 := hide (show IsRow W3 g n cap f from hr.grown (grown_none (by rw [← hW3]; exact grown_alloc (grown_alloc (grown_alloc (grown_refl _ _) _) _) _) none) (by simp))
  have cell : ∀ i v, l0[i]? = some v → W3.cell? ⟨w.heap.size, i, none⟩ = some v := fun i v hv => by rw [R0.cell (i := i) (by have := (List.getElem?_eq_some_iff.1 hv).1; omega), lrow_of hv]
  have g6 : l0[6]? = some (.int .i64 hand) := by rw [← hl0]; rfl
  have g7 : l0[7]? = some (.int .i64 2) := by rw [← hl0]; rfl
  have g11 : l0[11]? = some (.int .u64 hh) := by rw [← hl0]; rfl
  have g12 : l0[12]? = some (.int .i64 5) := by rw [← hl0]; rfl
  have g13 : l0[13]? = some (.int .u64 r0) := by rw [← hl0]; rfl
  have g14 : l0[14]? = some (.int .u64 r1) := by rw [← hl0]; rfl
  have g15 : l0[15]? = some (.int .u64 r2) := by rw [← hl0]; rfl
  have g16 : l0[16]? = some (.int .u64 r3) := by rw [← hl0]; rfl
  have g22 : l0[22]? = some (.bool ok) := by rw [← hl0]; rfl
  have g23 : l0[23]? = some (.int .u64 val) := by rw [← hl0]; rfl
  have c6 := cell 6 _ g6
  have c7 := cell 7 _ g7
  have c11 := cell 11 _ g11
  have c12 := cell 12 _ g12
  have c13 := cell 13 _ g13
  have c14 := cell 14 _ g14
  have c15 := cell 15 _ g15
  have c16 := cell 16 _ g16
  have c22 := cell 22 _ g22
  have c23 := cell 23 _ g23
  have G6 := hide g6
  have G7 := hide g7
  have G11 := hide g11
  have G12 := hide g12
  have G13 := hide g13
  have G14 := hide g14
  have G15 := hide g15
  have G16 := hide g16
  have G22 := hide g22
  have G23 := hide g23
  obtain ⟨dT, hdT1, hdT2⟩ := row79
  obtain ⟨dS, hdS1, hdS2⟩ := row46
  have HD := hide (And.intro hdT1 (And.intro hdT2 (And.intro hdS1 hdS2)))
  have HR0 := hide R0
  have HR1 := hide R1
  have HR2 := hide R2
  have HG3 := hide G3
  have HSET := hide hset
  have HL0 := hide hl0'
  have HIC := hide h0
  have HIX := hide hix
  have HIB := hide (show 0 ≤ ix ∧ ix ≤ 18446744073709551615 by omega)
  clear hx hf' hr hr1 R0 R1 R2 G3 cell hset hl0' hl0 hl1 hdT1 hdT2 hdS1 hdS2 h0 hix g6 g7 g11 g12 g13 g14 g15 g16 g22 g23
  simp only [tk0] at hW3
  have fz12 := HR0.out.frozen 12
  obtain ⟨la, hla⟩ : ∃ l, l0.set 12 (.int .i64 6) = l := ⟨_, rfl⟩
  have HLA := hide (show la.length = 28 from by rw [← hla]; simpa using HL0.out)
  have GA6 := hide (show la[6]? = some (.int .i64 hand) from by rw [← hla]; simp [G6.out])
  have GA7 := hide (show la[7]? = some (.int .i64 2) from by rw [← hla]; simp [G7.out])
  have GA11 := hide (show la[11]? = some (.int .u64 hh) from by rw [← hla]; simp [G11.out])
  have GA12 := hide (show la[12]? = some (.int .i64 6) from by rw [← hla]; simp [HL0.out])
  have GA13 := hide (show la[13]? = some (.int .u64 r0) from by rw [← hla]; simp [G13.out])
  have GA14 := hide (show la[14]? = some (.int .u64 r1) from by rw [← hla]; simp [G14.out])
  have GA15 := hide (show la[15]? = some (.int .u64 r2) from by rw [← hla]; simp [G15.out])
  have GA16 := hide (show la[16]? = some (.int .u64 r3) from by rw [← hla]; simp [G16.out])
  have GA22 := hide (show la[22]? = some (.bool ok) from by rw [← hla]; simp [G22.out])
  have GA23 := hide (show la[23]? = some (.int .u64 val) from by rw [← hla]; simp [G23.out])
  obtain ⟨w2, hw2⟩ : ∃ w2, W3.setCell ⟨w.heap.size, 12, none⟩ (.int .i64 6) = w2 := ⟨_, rfl⟩
  have sz2 : w2.heap.size = W3.heap.size := by rw [← hw2]; simp
  have tt2 : Touch W3 w2 (fun k => k = w.heap.size) := by rw [← hw2]; exact Touch.setCell (S := fun k => k = w.heap.size) (Touch.refl W3 _) ⟨w.heap.size, 12, none⟩ (.inl rfl) _
  have HA0 := hide (show w2.rowIs w.heap.size 53 28 (lrow la) from by rw [← hw2, ← hla]; exact rowIs.setL HR0.out (i := 12) (by simp [HL0.out]) (.int .i64 6))
  have HA1 := hide (HR1.out.of_block (tt2.block _ (by omega) (by omega)))
  have HA2 := hide (HR2.out.of_block (tt2.block _ (by omega) (by omega)))
  have HA3 := hide (HR3.out.block (tt2.block g (by omega) (by omega)))
  have HGA := hide (show w.grownBy w2 (some g) from by rw [← hw2]; exact grown_setCell HG3.out _ (.inr (Nat.le_refl _)) _)
  have p6 : w2.cell? ⟨w.heap.size, 6, none⟩ = some (.int .i64 hand) := by rw [HA0.out.cell (i := 6) (by omega), lrow_of GA6.out]
  have p7 : w2.cell? ⟨w.heap.size, 7, none⟩ = some (.int .i64 2) := by rw [HA0.out.cell (i := 7) (by omega), lrow_of GA7.out]
  have p11 : w2.cell? ⟨w.heap.size, 11, none⟩ = some (.int .u64 hh) := by rw [HA0.out.cell (i := 11) (by omega), lrow_of GA11.out]
  have p12 : w2.cell? ⟨w.heap.size, 12, none⟩ = some (.int .i64 6) := by rw [HA0.out.cell (i := 12) (by omega), lrow_of GA12.out]
  have p13 : w2.cell? ⟨w.heap.size, 13, none⟩ = some (.int .u64 r0) := by rw [HA0.out.cell (i := 13) (by omega), lrow_of GA13.out]
  have p14 : w2.cell? ⟨w.heap.size, 14, none⟩ = some (.int .u64 r1) := by rw [HA0.out.cell (i := 14) (by omega), lrow_of GA14.out]
  have p15 : w2.cell? ⟨w.heap.size, 15, none⟩ = some (.int .u64 r2) := by rw [HA0.out.cell (i := 15) (by omega), lrow_of GA15.out]
  have p16 : w2.cell? ⟨w.heap.size, 16, none⟩ = some (.int .u64 r3) := by rw [HA0.out.cell (i := 16) (by omega), lrow_of GA16.out]
  have p22 : w2.cell? ⟨w.heap.size, 22, none⟩ = some (.bool ok) := by rw [HA0.out.cell (i := 22) (by omega), lrow_of GA22.out]
  have p23 : w2.cell? ⟨w.heap.size, 23, none⟩ = some (.int .u64 val) := by rw [HA0.out.cell (i := 23) (by omega), lrow_of GA23.out]
  have HSA := hide hla
  clear tt2 hla
  have hla : la = l1 := by rw [← HSA.out]; exact HSET.out
  subst hla
  have rA : w2.rangeAt w.heap.size 0 la := rowIs.range HA0.out HLA.out
  have tC : w2.there (w.heap.size + 1) 0 28 := rowIs.there HA1.out (by omega)
  have tD : w2.there (w.heap.size + 2) 0 6 := rowIs.there HA2.out (by omega)
  have HTW := hide (show Touch w w2 (fun k => k = g) from (Touch.of_grown HGA.out).mono (S' := fun k => k = g) (fun k _ h => by simpa using h))
  have q6 := GA6.out
  have q13 := GA13.out
  have STB := hide (show ∀ c w' w'', Touch w' w'' (fun k => k = w.heap.size + 1 ∨ k = w.heap.size + 2) → (fun (c : Bool) (w' : World) => w'.rangeAt w.heap.size 0 la ∧ IsRow w' g n cap (if c = true then f' else f) ∧ Touch w2 w' (fun k => k = g ∨ k = w.heap.size + 1 ∨ k = w.heap.size + 2)) c w' → (fun (c : Bool) (w' : World) => w'.rangeAt w.heap.size 0 la ∧ IsRow w' g n cap (if c = true then f' else f) ∧ Touch w2 w' (fun k => k = g ∨ k = w.heap.size + 1 ∨ k = w.heap.size + 2)) c w'' from fun c w' w'' ht ⟨p1, p2, p3⟩ => by
    have ls := p3.size
    exact ⟨rangeAt_block p1 (ht.block _ (by omega) (by omega)), p2.block (ht.block g (by omega) (by omega)), p3.trans' ht (fun k _ h => .inr h)⟩)
  have DC := hide (show ∀ w', (fun (c : Bool) (w' : World) => w'.rangeAt w.heap.size 0 la ∧ IsRow w' g n cap (if c = true then f' else f) ∧ Touch w2 w' (fun k => k = g ∨ k = w.heap.size + 1 ∨ k = w.heap.size + 2)) false w' → Calls Try.prog 68 #[.slice (some ⟨g, 0, none⟩) n cap, .int .i64 hand, .int .i64 2, .int .i64 (2 * r1), .int .u64 0, .int .u64 ix] w' fun e w'' => e = .returned x.val ∧ (fun (c : Bool) (w' : World) => w'.rangeAt w.heap.size 0 la ∧ IsRow w' g n cap (if c = true then f' else f) ∧ Touch w2 w' (fun k => k = g ∨ k = w.heap.size + 1 ∨ k = w.heap.size + 2)) true w'' ∧ w''.heap[w.heap.size + 1]? = w'.heap[w.heap.size + 1]? ∧ w''.heap[w.heap.size + 2]? = w'.heap[w.heap.size + 2]? from fun w' ⟨p1, p2, p3⟩ => by
    have ls := p3.size
    refine (DO.out w' (by simpa using p2)).mono ?_
    rintro e w'' ⟨rfl, h1, h2⟩
    rw [HX.out]
    rw [HF.out] at h1
    exact ⟨rfl, ⟨rangeAt_block p1 (h2.block _ (by omega) (by simp; omega)), by simpa using h1, p3.trans' (Touch.of_grown h2) (fun k _ e => .inl (by simpa using e))⟩, h2.block _ (by omega) (by simp; omega), h2.block _ (by omega) (by simp; omega)⟩)
  go_enter Try.func53, Try.ntmps53
  go_wp2_with fail
  clear hw2 hW3 c6 c7 c11 c12 c13 c14 c15 c16 c22 c23 p6 p7 p11 p12 p13 p14 p15 p16 p22 p23
  refine RG.region (ks := [(0, 139), (1, 140), (2, 141), (3, 142), (4, 143), (5, 144), (6, 145), (7, 146), (8, 147), (9, 148), (10, 149), (13, 6)]) (vals := fun i => match i with
      | 0 => .agg la.toArray
      | 1 => .slice (some ⟨g, 0, none⟩) n cap
      | 2 => .pointer (some ⟨w.heap.size, 6, none⟩)
      | 3 => .int .i64 hand
      | 4 => .int .i64 (2 * r1)
      | 5 => .pointer (some ⟨w.heap.size, 13, none⟩)
      | 6 => .pointer (some ⟨w.heap.size, 13, none⟩)
      | 7 => .int .u64 r0
      | 8 => .int .i64 ix
      | 9 => .int .u64 ix
      | 10 => .agg #[Value.int .i64 x.hand, .int .i64 x.act, .int .i64 x.at_, .int .u64 x.had, .int .u64 x.put, .bool x.ok]
      | 13 => .bool false
      | _ => undef) (x := 3) (WI := fun L v w' => RG.SM (fun (c : Bool) (w' : World) => w'.rangeAt w.heap.size 0 la ∧ IsRow w' g n cap (if c = true then f' else f) ∧ Touch w2 w' (fun k => k = g ∨ k = w.heap.size + 1 ∨ k = w.heap.size + 2)) (w.heap.size + 1) (w.heap.size + 2) la x (L 10) (L 11) (L 12) w') (by kernel_rfl) ?gg ?bk rfl ?dd ?xx (RG.SM.start ⟨rA, HA3.out, (Touch.refl w2 _).drew⟩ (by rw [hl1i.out.1]; exact tC) tD) ?does ?fin
  case gg =>
    intro i o ho
    have hi : i < 14 := by have := (Array.getElem?_eq_some_iff.1 ho).1; simpa using this
    match i, hi with
    | 0, _ | 1, _ | 2, _ | 3, _ | 4, _ | 5, _ | 6, _ | 7, _ | 8, _ | 9, _ | 10, _ | 11, _ | 12, _ | 13, _ => injection ho with ho; subst ho; rfl
  case bk =>
    intro i o ho
    have hi : i < 14 := by have := (Array.getElem?_eq_some_iff.1 ho).1; simpa using this
    match i, hi with
    | 0, _ | 1, _ | 2, _ | 3, _ | 4, _ | 5, _ | 6, _ | 7, _ | 8, _ | 9, _ | 10, _ | 11, _ | 12, _ | 13, _ => injection ho with ho; subst ho; simp [Region.binds]
  case dd =>
    intro k hk
    have hk' : k < 185 := by
      simp [RetN.D] at hk
      omega
    simpa using hk'
  case xx => simp
  case does =>
    intro i o ho
    have hi : i < 14 := by have := (Array.getElem?_eq_some_iff.1 ho).1; simpa using this
    match i, hi with
    | 0, _ => injection ho with ho; subst ho; exact RG.Does.read rfl (fun L v w' h => RG.SM.skip (by decide) (by decide) (by decide) h) (fun L a w' hI hd => ex_load_row rfl (hI.fix 2 (Reg.notD rfl) (by decide)) hI.world.inv.1 HD.out.1 HD.out.2.1 (by rw [hl1i.out.1]; exact size79))
    | 1, _ => injection ho with ho; subst ho; exact RG.Does.read rfl (fun L v w' h => RG.SM.skip (by decide) (by decide) (by decide) h) (fun L a w' hI hd => ex_move rfl (hI.fix 1 (Reg.notD rfl) (by decide)))
    | 2, _ => injection ho with ho; subst ho; exact RG.Does.read rfl (fun L v w' h => RG.SM.skip (by decide) (by decide) (by decide) h) (fun L a w' hI hd => ex_fieldo rfl (hI.fix 2 (Reg.notD rfl) (by decide)) (fieldK1 w' _))
    | 3, _ => injection ho with ho; subst ho; exact RG.Does.read rfl (fun L v w' h => RG.SM.skip (by decide) (by decide) (by decide) h) (fun L a w' hI hd => ex_load rfl (hI.pure 2 _ _ rfl (hd ⟨2, .data⟩ (by simp) rfl)) (agg_i w') (by have := hI.world.inv.1 6 _ q6; simpa using this))
    | 4, _ => injection ho with ho; subst ho; exact RG.Does.read rfl (fun L v w' h => RG.SM.skip (by decide) (by decide) (by decide) h) (fun L a w' hI hd => ex_move rfl (hI.fix 10 (Reg.notD rfl) (by decide)))
    | 5, _ => injection ho with ho; subst ho; exact RG.Does.read rfl (fun L v w' h => RG.SM.skip (by decide) (by decide) (by decide) h) (fun L a w' hI hd => ex_fieldo rfl (hI.fix 2 (Reg.notD rfl) (by decide)) (fieldK4 w' _))
    | 6, _ => injection ho with ho; subst ho; exact RG.Does.read rfl (fun L v w' h => RG.SM.skip (by decide) (by decide) (by decide) h) (fun L a w' hI hd => ex_r0 rfl (hI.pure 5 _ _ rfl (hd ⟨5, .data⟩ (by simp) rfl)) rfl)
    | 7, _ => injection ho with ho; subst ho; exact RG.Does.read rfl (fun L v w' h => RG.SM.skip (by decide) (by decide) (by decide) h) (fun L a w' hI hd => ex_load rfl (hI.pure 6 _ _ rfl (hd ⟨6, .data⟩ (by simp) rfl)) (agg_u64 w') (by have := hI.world.inv.1 13 _ q13; simpa using this))
    | 8, _ => injection ho with ho; subst ho; exact RG.Does.ask rfl (fun L v w' h => RG.SM.skip (by decide) (by decide) (by decide) h) (fun L a w' hI hd => call1 rfl (hI.pure 7 _ _ rfl (hd ⟨7, .data⟩ (by simp) rfl)) rfl (callRIndex _ _)) (fun w => by rw [← HIX.out]; exact index_ref r0 HIC.out.1 (by have := HIC.out.2; omega) w)
    | 9, _ => injection ho with ho; subst ho; exact RG.Does.read rfl (fun L v w' h => RG.SM.skip (by decide) (by decide) (by decide) h) (fun L a w' hI hd => ex_convu rfl (hI.pure 8 _ _ rfl (hd ⟨8, .data⟩ (by simp) rfl)) HIB.out.1 HIB.out.2)
    | 10, _ => injection ho with ho; subst ho; exact RG.Does.call rfl (fun L a w' hI hd => call6 rfl (hI.pure 1 _ _ rfl (hd ⟨1, .data⟩ (by simp) rfl)) (hI.pure 3 _ _ rfl (hd ⟨3, .data⟩ (by simp) rfl)) rfl (hI.pure 4 _ _ rfl (hd ⟨4, .data⟩ (by simp) rfl)) rfl (hI.pure 9 _ _ rfl (hd ⟨9, .data⟩ (by simp) rfl)) rfl (callRDo' _ _)) (RG.SM.calls DC.out (by decide) (by decide))
    | 11, _ => injection ho with ho; subst ho; exact RG.Does.put (ls := la) rfl rfl rfl (by rw [hl1i.out.1]; exact size79) hl1i.out.2 (fun L a w' hI hL hd => ⟨(hI.pure 0 _ _ rfl (hd ⟨0, .data⟩ (by simp) rfl)), by obtain ⟨e2, e3⟩ := RG.SM.putC STB.out (by omega) hI.world; exact ⟨w.heap.size + 1, 0, hI.fix 4 (Reg.notD rfl) (by decide), e2, by show RG.SM _ _ _ _ _ (upd L 11 true 10) (upd L 11 true 11) (upd L 11 true 12) _; rw [upd_same, upd_other _ _ (show 10 ≠ 11 by decide), upd_other _ _ (show 12 ≠ 11 by decide)]; exact e3⟩⟩)
    | 12, _ => injection ho with ho; subst ho; exact RG.Does.put (ls := x.cells) rfl rfl rfl size46 (by simp [Stp.cells, Value.oneCell']) (fun L a w' hI hL hd => ⟨(hI.pure 10 _ _ rfl (hd ⟨10, .data⟩ (by simp) rfl)), by obtain ⟨e2, e3⟩ := RG.SM.putE STB.out (by omega) hI.world (hd ⟨10, .data⟩ (by simp) rfl); exact ⟨w.heap.size + 2, 0, hI.fix 5 (Reg.notD rfl) (by decide), e2, by show RG.SM _ _ _ _ _ (upd L 12 true 10) (upd L 12 true 11) (upd L 12 true 12) _; rw [upd_same, upd_other _ _ (show 10 ≠ 12 by decide), upd_other _ _ (show 11 ≠ 12 by decide)]; exact e3⟩⟩)
    | 13, _ => injection ho with ho; subst ho; exact RG.Does.read rfl (fun L v w' h => RG.SM.skip (by decide) (by decide) (by decide) h) (fun L a w' hI hd => ex_assign rfl rfl)
  case fin =>
    intro L a' w' hI hall
    rename_i K2 hK2
    refine hK2 _ _ ?_
    have hw := hI.world
    simp only [hall 10 (by decide), hall 11 (by decide), hall 12 (by decide)] at hw
    have rC := hw.stoC rfl
    have rD := hw.stoE rfl
    obtain ⟨p1, p2, p3⟩ := hw.inv
    have pC : a'.eval (.tmp 4) = .pointer (some ⟨w.heap.size + 1, 0, none⟩) := hI.fix 4 (Reg.notD rfl) (by decide)
    have pD : a'.eval (.tmp 5) = .pointer (some ⟨w.heap.size + 2, 0, none⟩) := hI.fix 5 (Reg.notD rfl) (by decide)
    have pe : a'.eval (.tmp 6) = .bool false := hI.pure 13 6 _ rfl (hall 13 (by decide))
    have hdf : a'.defers = [] := hI.df
    have hT := run_loadVar_mid (P := Try.prog) w' (w.heap.size + 1) 0 _ la dT rC HD.out.1 HD.out.2.1 (by rw [hl1i.out.1]; exact size79)
    have hS := run_loadVar_mid (P := Try.prog) w' (w.heap.size + 2) 0 _ _ dS rD HD.out.2.2.1 HD.out.2.2.2 size46
    have hres := results_cct (Q := Try.prog) (fn := Try.f53) (tmps := a'.tmps) (t := 4) (t' := 5) (t'' := 6) (W := w') (by rfl) pC hT pD hS
    rw [show a'.tmps.getD 6 undef = .bool false from pe] at hres
    go_wp2
    refine bodyPost_ret (v := .tuple #[.agg la.toArray, x.val, .bool false]) hres hdf ⟨rfl, by simpa using p2, ?_⟩
    have := HTW.out.trans' p3 (fun k hk h => by rcases h with h | h | h; exact h; omega; omega)
    exact ⟨this.os, this.tape, this.output, this.size, fun k hk hn => this.block k hk (by simpa using hn)⟩

end Pile
end Go.Proofs.Ytgfbohmehhhbeaa

/-
  The pile's reference: its tasks are those of the kind.
-/
namespace Go.Proofs.Ytgfbohmehhhbeaa
open Go.RowKit
set_option linter.unusedVariables false
set_option linter.unusedSimpArgs false
set_option maxRecDepth 20000
namespace Pile

def repP (sh : Shp) : List Value → PiS → Prop := fun cs s => cs = tk sh s.hand s.j s.st ⟨s.head, s.place, s.low, s.val, 0, 0, 0, 0⟩ s.told ∧ Wf s

theorem rkind {sh : Shp} (h1 : 1 ≤ sh.f) (h2 : sh.f ≤ 64) : RKind kPile (repP sh) sh 16 53 := by
  obtain ⟨s0, s1, s2, s3, s4, s5⟩ := sh
  simp only at h1 h2
  refine ⟨fun k j hk0 hk8 hw => ?_, fun cs s hcs hrep n f hf => ?_⟩
  · obtain ⟨kind, a, b, c, hh⟩ := j
    by_cases he : perr ⟨kind, a, b, c, hh⟩ = 0
    · have hc := (fine_cases (j := ⟨kind, a, b, c, hh⟩) ⟨hw, he⟩).1
      simp only at hc
      refine ⟨tk ⟨s0, s1, s2, s3, s4, s5⟩ k ⟨kind, a, b, c, hh⟩ 0 .zero ⟨false, 0⟩, tk_is _ _ _ _ _ _, fun _ => ⟨rfl, wf_init k ⟨hw, he⟩⟩, fun w => ?_⟩
      rw [show kPile.err ⟨kind, a, b, c, hh⟩ = 0 from he]
      exact rstart_ok w s0 s1 s2 s3 s4 s5 k kind a b c hh h1 h2 (by omega) (by omega) hc
    · have k1 : ¬ kind = 1 := fun h => he (by simp [perr, h])
      have k2 : ¬ kind = 2 := fun h => he (by simp [perr, h])
      refine ⟨tk0, tk0_is, fun h => absurd h he, fun w => ?_⟩
      rw [show kPile.err ⟨kind, a, b, c, hh⟩ = 200 from by show perr _ = 200; simp [perr, k1, k2]]
      exact rstart_kind w s0 s1 s2 s3 s4 s5 k kind a b c hh h1 h2 (by omega) (by omega) k1 k2
  · obtain ⟨hand, ⟨kind, a, b, c, hh⟩, st, head, place, low, val, ⟨ok, tv⟩⟩ := s
    obtain ⟨rfl, H⟩ := hrep
    have hxh := had_bounds hf (preq ⟨hand, ⟨kind, a, b, c, hh⟩, st, head, place, low, val, ⟨ok, tv⟩⟩)
    obtain ⟨x, hx⟩ : ∃ x, stepOf n f (kPile.req ⟨hand, ⟨kind, a, b, c, hh⟩, st, head, place, low, val, ⟨ok, tv⟩⟩) = x := ⟨_, rfl⟩
    obtain ⟨f', hf'⟩ : ∃ f', wordsOf n f (kPile.req ⟨hand, ⟨kind, a, b, c, hh⟩, st, head, place, low, val, ⟨ok, tv⟩⟩) = f' := ⟨_, rfl⟩
    rw [hx, hf']
    replace hx : stepOf n f (preq ⟨hand, ⟨kind, a, b, c, hh⟩, st, head, place, low, val, ⟨ok, tv⟩⟩) = x := hx
    replace hf' : wordsOf n f (preq ⟨hand, ⟨kind, a, b, c, hh⟩, st, head, place, low, val, ⟨ok, tv⟩⟩) = f' := hf'
    rw [hx] at hxh
    have HN := pnext_wf H hxh
    show ∃ cs', IsTk cs' ∧ (¬ pends ⟨hand, ⟨kind, a, b, c, hh⟩, st, head, place, low, val, ⟨ok, tv⟩⟩ x = true → repP ⟨s0, s1, s2, s3, s4, s5⟩ cs' (pnext ⟨hand, ⟨kind, a, b, c, hh⟩, st, head, place, low, val, ⟨ok, tv⟩⟩ x)) ∧
      (pends ⟨hand, ⟨kind, a, b, c, hh⟩, st, head, place, low, val, ⟨ok, tv⟩⟩ x = true → cs'[22]? = some (.bool (pnext ⟨hand, ⟨kind, a, b, c, hh⟩, st, head, place, low, val, ⟨ok, tv⟩⟩ x).told.ok) ∧ cs'[23]? = some (.int .u64 (pnext ⟨hand, ⟨kind, a, b, c, hh⟩, st, head, place, low, val, ⟨ok, tv⟩⟩ x).told.val)) ∧ (∀ q, q < 4 → cs'[24 + q]? = some (.int .u64 0)) ∧
      ∀ (w : World) (g cap : Nat), IsRow w g n cap f → Calls Try.prog 53 #[.agg (tk ⟨s0, s1, s2, s3, s4, s5⟩ hand ⟨kind, a, b, c, hh⟩ st ⟨head, place, low, val, 0, 0, 0, 0⟩ ⟨ok, tv⟩).toArray, .slice (some ⟨g, 0, none⟩) n cap] w fun e w' => e = .returned (.tuple #[.agg cs'.toArray, x.val, .bool (pends ⟨hand, ⟨kind, a, b, c, hh⟩, st, head, place, low, val, ⟨ok, tv⟩⟩ x)]) ∧ IsRow w' g n cap f' ∧ w.grownBy w' (some g)
    obtain ⟨st0, st6, hk, hh', hhd, hp, hlow, hval⟩ := H
    simp only at st0 st6 hk hh' hhd hp hlow hval
    have hw' : 0 ≤ hh ∧ hh ≤ 18446744073709551615 := hh'
    rcases hk with rfl | rfl
    · obtain rfl | rfl | rfl | rfl | rfl | rfl | rfl : st = 0 ∨ st = 1 ∨ st = 2 ∨ st = 3 ∨ st = 4 ∨ st = 5 ∨ st = 6 := by omega
      · have e4 : preq ⟨hand, ⟨1, a, b, c, hh⟩, 0, head, place, low, val, ⟨ok, tv⟩⟩ = ⟨hand, 1, 1, 0, 0, true⟩ := by simp [preq, frm, ont]
        rw [e4] at hx hf'
        have e5 : pends ⟨hand, ⟨1, a, b, c, hh⟩, 0, head, place, low, val, ⟨ok, tv⟩⟩ x = (idx x.had == 0) := by simp [pends]
        rw [e5]
        by_cases hz : idx x.had = 0
        · have e6 : (idx x.had == 0) = true := by simp [hz]
          have e7 : pnext ⟨hand, ⟨1, a, b, c, hh⟩, 0, head, place, low, val, ⟨ok, tv⟩⟩ x = ⟨hand, ⟨1, a, b, c, hh⟩, 0, x.had, idx x.had, low, val, ⟨ok, tv⟩⟩ := by simp [pnext, hz]
          rw [e7]
          exact ⟨_, tk_is _ _ _ _ _ _, fun h => absurd e6 h, fun _ => tk_ans _ _ _ _ _ _, tk_kept _ _ _ _ _ _, fun w g cap hr => rfind_push hr hp hxh rfl hx hf'⟩
        · have e6 : (idx x.had == 0) = false := by simp [hz]
          have e7 : pnext ⟨hand, ⟨1, a, b, c, hh⟩, 0, head, place, low, val, ⟨ok, tv⟩⟩ x = ⟨hand, ⟨1, a, b, c, hh⟩, 1, x.had, idx x.had, low, val, ⟨ok, tv⟩⟩ := by simp [pnext, hz]
          rw [e7] at HN ⊢
          exact ⟨_, tk_is _ _ _ _ _ _, fun _ => ⟨rfl, HN⟩, fun h => absurd h (by rw [e6]; decide), tk_kept _ _ _ _ _ _, fun w g cap hr => rfind_push hr hp hxh rfl hx hf'⟩
      · have e4 : preq ⟨hand, ⟨1, a, b, c, hh⟩, 1, head, place, low, val, ⟨ok, tv⟩⟩ = ⟨hand, 1, 2 * place, 0, 0, true⟩ := by simp [preq, frm, ont]
        rw [e4] at hx hf'
        have e5 : pends ⟨hand, ⟨1, a, b, c, hh⟩, 1, head, place, low, val, ⟨ok, tv⟩⟩ x = false := by simp [pends]
        have e7 : pnext ⟨hand, ⟨1, a, b, c, hh⟩, 1, head, place, low, val, ⟨ok, tv⟩⟩ x = ⟨hand, ⟨1, a, b, c, hh⟩, 2, head, place, x.had, val, ⟨ok, tv⟩⟩ := by simp [pnext]
        rw [e5, e7]
        rw [e7] at HN
        exact ⟨_, tk_is _ _ _ _ _ _, fun _ => ⟨rfl, HN⟩, fun h => absurd h (by decide), tk_kept _ _ _ _ _ _, fun w g cap hr => rlook_push hr hp hx hf'⟩
      · have e4 : preq ⟨hand, ⟨1, a, b, c, hh⟩, 2, head, place, low, val, ⟨ok, tv⟩⟩ = ⟨hand, 5, 1, head, bump head (idx low), true⟩ := by simp [preq, frm, ont]
        rw [e4] at hx hf'
        obtain ⟨xh, xa, xt, xd, xp, xo⟩ := x
        have e5 : pends ⟨hand, ⟨1, a, b, c, hh⟩, 2, head, place, low, val, ⟨ok, tv⟩⟩ ⟨xh, xa, xt, xd, xp, xo⟩ = false := by simp [pends]
        rw [e5]
        cases xo with
        | true =>
          have e7 : pnext ⟨hand, ⟨1, a, b, c, hh⟩, 2, head, place, low, val, ⟨ok, tv⟩⟩ ⟨xh, xa, xt, xd, xp, true⟩ = ⟨hand, ⟨1, a, b, c, hh⟩, 3, head, place, low, val, ⟨ok, tv⟩⟩ := by simp [pnext]
          rw [e7] at HN ⊢
          exact ⟨_, tk_is _ _ _ _ _ _, fun _ => ⟨rfl, HN⟩, fun h => absurd h (by decide), tk_kept _ _ _ _ _ _, fun w g cap hr => rtake_push_true hr hp hhd hlow rfl rfl hx hf'⟩
        | false =>
          have e7 : pnext ⟨hand, ⟨1, a, b, c, hh⟩, 2, head, place, low, val, ⟨ok, tv⟩⟩ ⟨xh, xa, xt, xd, xp, false⟩ = ⟨hand, ⟨1, a, b, c, hh⟩, 0, head, place, low, val, ⟨ok, tv⟩⟩ := by simp [pnext]
          rw [e7] at HN ⊢
          exact ⟨_, tk_is _ _ _ _ _ _, fun _ => ⟨rfl, HN⟩, fun h => absurd h (by decide), tk_kept _ _ _ _ _ _, fun w g cap hr => rtake_push_false hr hp hhd hlow rfl rfl hx hf'⟩
      · have e4 : preq ⟨hand, ⟨1, a, b, c, hh⟩, 3, head, place, low, val, ⟨ok, tv⟩⟩ = ⟨hand, 2, 2 * place + 1, 0, hh, true⟩ := by simp [preq, frm, ont]
        rw [e4] at hx hf'
        have e5 : pends ⟨hand, ⟨1, a, b, c, hh⟩, 3, head, place, low, val, ⟨ok, tv⟩⟩ x = false := by simp [pends]
        have e7 : pnext ⟨hand, ⟨1, a, b, c, hh⟩, 3, head, place, low, val, ⟨ok, tv⟩⟩ x = ⟨hand, ⟨1, a, b, c, hh⟩, 4, head, place, low, val, ⟨ok, tv⟩⟩ := by simp [pnext]
        rw [e5, e7]
        rw [e7] at HN
        exact ⟨_, tk_is _ _ _ _ _ _, fun _ => ⟨rfl, HN⟩, fun h => absurd h (by decide), tk_kept _ _ _ _ _ _, fun w g cap hr => rtouch_push hr hp hw' hx hf'⟩
      · have e4 : preq ⟨hand, ⟨1, a, b, c, hh⟩, 4, head, place, low, val, ⟨ok, tv⟩⟩ = ⟨hand, 1, 0, 0, 0, true⟩ := by simp [preq, frm, ont]
        rw [e4] at hx hf'
        have e5 : pends ⟨hand, ⟨1, a, b, c, hh⟩, 4, head, place, low, val, ⟨ok, tv⟩⟩ x = false := by simp [pends]
        have e7 : pnext ⟨hand, ⟨1, a, b, c, hh⟩, 4, head, place, low, val, ⟨ok, tv⟩⟩ x = ⟨hand, ⟨1, a, b, c, hh⟩, 5, x.had, place, low, val, ⟨ok, tv⟩⟩ := by simp [pnext]
        rw [e5, e7]
        rw [e7] at HN
        exact ⟨_, tk_is _ _ _ _ _ _, fun _ => ⟨rfl, HN⟩, fun h => absurd h (by decide), tk_kept _ _ _ _ _ _, fun w g cap hr => rmeet_push hr hp hx hf'⟩
      · have e4 : preq ⟨hand, ⟨1, a, b, c, hh⟩, 5, head, place, low, val, ⟨ok, tv⟩⟩ = ⟨hand, 2, 2 * place, 0, idx head, true⟩ := by simp [preq, frm, ont]
        rw [e4] at hx hf'
        have e5 : pends ⟨hand, ⟨1, a, b, c, hh⟩, 5, head, place, low, val, ⟨ok, tv⟩⟩ x = false := by simp [pends]
        have e7 : pnext ⟨hand, ⟨1, a, b, c, hh⟩, 5, head, place, low, val, ⟨ok, tv⟩⟩ x = ⟨hand, ⟨1, a, b, c, hh⟩, 6, head, place, low, val, ⟨ok, tv⟩⟩ := by simp [pnext]
        rw [e5, e7]
        rw [e7] at HN
        exact ⟨_, tk_is _ _ _ _ _ _, fun _ => ⟨rfl, HN⟩, fun h => absurd h (by decide), tk_kept _ _ _ _ _ _, fun w g cap hr => rlink_push hr hp hhd rfl hx hf'⟩
      · have e4 : preq ⟨hand, ⟨1, a, b, c, hh⟩, 6, head, place, low, val, ⟨ok, tv⟩⟩ = ⟨hand, 5, 0, head, bump head place, true⟩ := by simp [preq, frm, ont]
        rw [e4] at hx hf'
        obtain ⟨xh, xa, xt, xd, xp, xo⟩ := x
        have e5 : pends ⟨hand, ⟨1, a, b, c, hh⟩, 6, head, place, low, val, ⟨ok, tv⟩⟩ ⟨xh, xa, xt, xd, xp, xo⟩ = xo := by simp [pends]
        rw [e5]
        cases xo with
        | true =>
          have e7 : pnext ⟨hand, ⟨1, a, b, c, hh⟩, 6, head, place, low, val, ⟨ok, tv⟩⟩ ⟨xh, xa, xt, xd, xp, true⟩ = ⟨hand, ⟨1, a, b, c, hh⟩, 6, head, place, low, val, ⟨true, place⟩⟩ := by simp [pnext]
          rw [e7] at HN ⊢
          exact ⟨_, tk_is _ _ _ _ _ _, fun h => absurd rfl h, fun _ => tk_ans _ _ _ _ _ _, tk_kept _ _ _ _ _ _, fun w g cap hr => rlay_push_true hr hp hhd rfl hx hf'⟩
        | false =>
          have e7 : pnext ⟨hand, ⟨1, a, b, c, hh⟩, 6, head, place, low, val, ⟨ok, tv⟩⟩ ⟨xh, xa, xt, xd, xp, false⟩ = ⟨hand, ⟨1, a, b, c, hh⟩, 4, head, place, low, val, ⟨ok, tv⟩⟩ := by simp [pnext]
          rw [e7] at HN ⊢
          exact ⟨_, tk_is _ _ _ _ _ _, fun _ => ⟨rfl, HN⟩, fun h => absurd h (by decide), tk_kept _ _ _ _ _ _, fun w g cap hr => rlay_push_false hr hp hhd rfl hx hf'⟩
    · obtain rfl | rfl | rfl | rfl | rfl | rfl | rfl : st = 0 ∨ st = 1 ∨ st = 2 ∨ st = 3 ∨ st = 4 ∨ st = 5 ∨ st = 6 := by omega
      · have e4 : preq ⟨hand, ⟨2, a, b, c, hh⟩, 0, head, place, low, val, ⟨ok, tv⟩⟩ = ⟨hand, 1, 0, 0, 0, true⟩ := by simp [preq, frm, ont]
        rw [e4] at hx hf'
        have e5 : pends ⟨hand, ⟨2, a, b, c, hh⟩, 0, head, place, low, val, ⟨ok, tv⟩⟩ x = (idx x.had == 0) := by simp [pends]
        rw [e5]
        by_cases hz : idx x.had = 0
        · have e6 : (idx x.had == 0) = true := by simp [hz]
          have e7 : pnext ⟨hand, ⟨2, a, b, c, hh⟩, 0, head, place, low, val, ⟨ok, tv⟩⟩ x = ⟨hand, ⟨2, a, b, c, hh⟩, 0, x.had, idx x.had, low, val, ⟨ok, tv⟩⟩ := by simp [pnext, hz]
          rw [e7]
          exact ⟨_, tk_is _ _ _ _ _ _, fun h => absurd e6 h, fun _ => tk_ans _ _ _ _ _ _, tk_kept _ _ _ _ _ _, fun w g cap hr => rfind_pop hr hp hxh rfl hx hf'⟩
        · have e6 : (idx x.had == 0) = false := by simp [hz]
          have e7 : pnext ⟨hand, ⟨2, a, b, c, hh⟩, 0, head, place, low, val, ⟨ok, tv⟩⟩ x = ⟨hand, ⟨2, a, b, c, hh⟩, 1, x.had, idx x.had, low, val, ⟨ok, tv⟩⟩ := by simp [pnext, hz]
          rw [e7] at HN ⊢
          exact ⟨_, tk_is _ _ _ _ _ _, fun _ => ⟨rfl, HN⟩, fun h => absurd h (by rw [e6]; decide), tk_kept _ _ _ _ _ _, fun w g cap hr => rfind_pop hr hp hxh rfl hx hf'⟩
      · have e4 : preq ⟨hand, ⟨2, a, b, c, hh⟩, 1, head, place, low, val, ⟨ok, tv⟩⟩ = ⟨hand, 1, 2 * place, 0, 0, true⟩ := by simp [preq, frm, ont]
        rw [e4] at hx hf'
        have e5 : pends ⟨hand, ⟨2, a, b, c, hh⟩, 1, head, place, low, val, ⟨ok, tv⟩⟩ x = false := by simp [pends]
        have e7 : pnext ⟨hand, ⟨2, a, b, c, hh⟩, 1, head, place, low, val, ⟨ok, tv⟩⟩ x = ⟨hand, ⟨2, a, b, c, hh⟩, 2, head, place, x.had, val, ⟨ok, tv⟩⟩ := by simp [pnext]
        rw [e5, e7]
        rw [e7] at HN
        exact ⟨_, tk_is _ _ _ _ _ _, fun _ => ⟨rfl, HN⟩, fun h => absurd h (by decide), tk_kept _ _ _ _ _ _, fun w g cap hr => rlook_pop hr hp hx hf'⟩
      · have e4 : preq ⟨hand, ⟨2, a, b, c, hh⟩, 2, head, place, low, val, ⟨ok, tv⟩⟩ = ⟨hand, 5, 0, head, bump head (idx low), true⟩ := by simp [preq, frm, ont]
        rw [e4] at hx hf'
        obtain ⟨xh, xa, xt, xd, xp, xo⟩ := x
        have e5 : pends ⟨hand, ⟨2, a, b, c, hh⟩, 2, head, place, low, val, ⟨ok, tv⟩⟩ ⟨xh, xa, xt, xd, xp, xo⟩ = false := by simp [pends]
        rw [e5]
        cases xo with
        | true =>
          have e7 : pnext ⟨hand, ⟨2, a, b, c, hh⟩, 2, head, place, low, val, ⟨ok, tv⟩⟩ ⟨xh, xa, xt, xd, xp, true⟩ = ⟨hand, ⟨2, a, b, c, hh⟩, 3, head, place, low, val, ⟨ok, tv⟩⟩ := by simp [pnext]
          rw [e7] at HN ⊢
          exact ⟨_, tk_is _ _ _ _ _ _, fun _ => ⟨rfl, HN⟩, fun h => absurd h (by decide), tk_kept _ _ _ _ _ _, fun w g cap hr => rtake_pop_true hr hp hhd hlow rfl rfl hx hf'⟩
        | false =>
          have e7 : pnext ⟨hand, ⟨2, a, b, c, hh⟩, 2, head, place, low, val, ⟨ok, tv⟩⟩ ⟨xh, xa, xt, xd, xp, false⟩ = ⟨hand, ⟨2, a, b, c, hh⟩, 0, head, place, low, val, ⟨ok, tv⟩⟩ := by simp [pnext]
          rw [e7] at HN ⊢
          exact ⟨_, tk_is _ _ _ _ _ _, fun _ => ⟨rfl, HN⟩, fun h => absurd h (by decide), tk_kept _ _ _ _ _ _, fun w g cap hr => rtake_pop_false hr hp hhd hlow rfl rfl hx hf'⟩
      · have e4 : preq ⟨hand, ⟨2, a, b, c, hh⟩, 3, head, place, low, val, ⟨ok, tv⟩⟩ = ⟨hand, 1, 2 * place + 1, 0, 0, true⟩ := by simp [preq, frm, ont]
        rw [e4] at hx hf'
        have e5 : pends ⟨hand, ⟨2, a, b, c, hh⟩, 3, head, place, low, val, ⟨ok, tv⟩⟩ x = false := by simp [pends]
        have e7 : pnext ⟨hand, ⟨2, a, b, c, hh⟩, 3, head, place, low, val, ⟨ok, tv⟩⟩ x = ⟨hand, ⟨2, a, b, c, hh⟩, 4, head, place, low, x.had, ⟨ok, tv⟩⟩ := by simp [pnext]
        rw [e5, e7]
        rw [e7] at HN
        exact ⟨_, tk_is _ _ _ _ _ _, fun _ => ⟨rfl, HN⟩, fun h => absurd h (by decide), tk_kept _ _ _ _ _ _, fun w g cap hr => rtouch_pop hr hp hx hf'⟩
      · have e4 : preq ⟨hand, ⟨2, a, b, c, hh⟩, 4, head, place, low, val, ⟨ok, tv⟩⟩ = ⟨hand, 1, 1, 0, 0, true⟩ := by simp [preq, frm, ont]
        rw [e4] at hx hf'
        have e5 : pends ⟨hand, ⟨2, a, b, c, hh⟩, 4, head, place, low, val, ⟨ok, tv⟩⟩ x = false := by simp [pends]
        have e7 : pnext ⟨hand, ⟨2, a, b, c, hh⟩, 4, head, place, low, val, ⟨ok, tv⟩⟩ x = ⟨hand, ⟨2, a, b, c, hh⟩, 5, x.had, place, low, val, ⟨ok, tv⟩⟩ := by simp [pnext]
        rw [e5, e7]
        rw [e7] at HN
        exact ⟨_, tk_is _ _ _ _ _ _, fun _ => ⟨rfl, HN⟩, fun h => absurd h (by decide), tk_kept _ _ _ _ _ _, fun w g cap hr => rmeet_pop hr hp hx hf'⟩
      · have e4 : preq ⟨hand, ⟨2, a, b, c, hh⟩, 5, head, place, low, val, ⟨ok, tv⟩⟩ = ⟨hand, 2, 2 * place, 0, idx head, true⟩ := by simp [preq, frm, ont]
        rw [e4] at hx hf'
        have e5 : pends ⟨hand, ⟨2, a, b, c, hh⟩, 5, head, place, low, val, ⟨ok, tv⟩⟩ x = false := by simp [pends]
        have e7 : pnext ⟨hand, ⟨2, a, b, c, hh⟩, 5, head, place, low, val, ⟨ok, tv⟩⟩ x = ⟨hand, ⟨2, a, b, c, hh⟩, 6, head, place, low, val, ⟨ok, tv⟩⟩ := by simp [pnext]
        rw [e5, e7]
        rw [e7] at HN
        exact ⟨_, tk_is _ _ _ _ _ _, fun _ => ⟨rfl, HN⟩, fun h => absurd h (by decide), tk_kept _ _ _ _ _ _, fun w g cap hr => rlink_pop hr hp hhd rfl hx hf'⟩
      · have e4 : preq ⟨hand, ⟨2, a, b, c, hh⟩, 6, head, place, low, val, ⟨ok, tv⟩⟩ = ⟨hand, 5, 1, head, bump head place, true⟩ := by simp [preq, frm, ont]
        rw [e4] at hx hf'
        obtain ⟨xh, xa, xt, xd, xp, xo⟩ := x
        have e5 : pends ⟨hand, ⟨2, a, b, c, hh⟩, 6, head, place, low, val, ⟨ok, tv⟩⟩ ⟨xh, xa, xt, xd, xp, xo⟩ = xo := by simp [pends]
        rw [e5]
        cases xo with
        | true =>
          have e7 : pnext ⟨hand, ⟨2, a, b, c, hh⟩, 6, head, place, low, val, ⟨ok, tv⟩⟩ ⟨xh, xa, xt, xd, xp, true⟩ = ⟨hand, ⟨2, a, b, c, hh⟩, 6, head, place, low, val, ⟨true, val⟩⟩ := by simp [pnext]
          rw [e7] at HN ⊢
          exact ⟨_, tk_is _ _ _ _ _ _, fun h => absurd rfl h, fun _ => tk_ans _ _ _ _ _ _, tk_kept _ _ _ _ _ _, fun w g cap hr => rlay_pop_true hr hp hhd rfl hx hf'⟩
        | false =>
          have e7 : pnext ⟨hand, ⟨2, a, b, c, hh⟩, 6, head, place, low, val, ⟨ok, tv⟩⟩ ⟨xh, xa, xt, xd, xp, false⟩ = ⟨hand, ⟨2, a, b, c, hh⟩, 4, head, place, low, val, ⟨ok, tv⟩⟩ := by simp [pnext]
          rw [e7] at HN ⊢
          exact ⟨_, tk_is _ _ _ _ _ _, fun _ => ⟨rfl, HN⟩, fun h => absurd h (by decide), tk_kept _ _ _ _ _ _, fun w g cap hr => rlay_pop_false hr hp hhd rfl hx hf'⟩
end Pile
end Go.Proofs.Ytgfbohmehhhbeaa

/-
  The statement's own reference of tasks of several steps: wrong.
-/
namespace Go.Proofs.Ytgfbohmehhhbeaa
namespace L6
open Go.RowKit
set_option linter.unusedVariables false
set_option linter.unusedSimpArgs false
set_option linter.unnecessarySimpa false
set_option maxRecDepth 20000

variable {K : Kd} {rep : List Value → K.σ → Prop} {sh : Shp} {w : World} {aoh aos : Option Addr} {caph caps : Nat} {P : Par} {most : Int}

theorem build77 {ev : Operand → Value} {o : Oper} {w : World} (ho : o.op = .build 51 #[]) : (execOp ev o).run Try.prog w = .ok (.value (.agg #[.int .u64 0, .int .u64 0, .int .u64 0, .int .u64 0])) w := by
  simp [execOp, ho, go_sem]
theorem callStartW (args : Array Value) (w : World) : (callFunc 16 args).run Try.prog w = .ok (.enter 16 args) w := by
  simp [go_sem]
set_option maxHeartbeats 8000000 in
theorem wrong_fine (RK : RKind K rep sh 16 53) (hjw : ∀ h, h < P.nh → ∀ j, j < P.jn h → (P.jb h j).wf) (SH : SeesH w w.heap.size aoh P.nh P.jn P.jb) (hl : ¬ LongHands P.nh P.jn) (hs : P.ns ≤ 65536) (hm0 : 0 ≤ most) (hm : most ≤ 65536) :
    Calls Try.prog 44 #[sh.val, .slice aoh P.nh caph, .slice aos P.ns caps, .int .i64 most] w fun e w' => Below w.heap.size w w' ∧ ((AllOk K P ∧ e = .returned (.int .i64 0)) ∨ ∃ er, FirstErr K P er ∧ e = .returned (.int .i64 er)) := by
  have hnh : P.nh ≤ 8 := by rcases Nat.lt_or_ge 8 P.nh with l | l; exact absurd (.inl l) hl; exact l
  have hjn : ∀ i, i < P.nh → P.jn i ≤ 256 := fun i hi => by rcases Nat.lt_or_ge 256 (P.jn i) with l | l; exact absurd (.inr ⟨i, hi, l⟩) hl; exact l
  have HSH := hide SH
  have HRK := hide RK
  have HJW := hide hjw
  have HL := hide hl
  have HJN := hide hjn
  obtain ⟨W1, hW1⟩ : ∃ W1, w.alloc (.cells #[.int .i64 sh.a, .int .i64 sh.b, .int .i64 sh.c, .int .i64 sh.d, .int .i64 sh.e, .int .i64 sh.f] 23) = W1 := ⟨_, rfl⟩
  have b1 : Below w.heap.size w W1 := by rw [← hW1]; exact (Below.refl _ w).alloc (Nat.le_refl _) _
  have sz1 : W1.heap.size = w.heap.size + 1 := by rw [← hW1]; simp
  have R1 := hide (show W1.rangeAt w.heap.size 0 [Value.int .i64 sh.a, .int .i64 sh.b, .int .i64 sh.c, .int .i64 sh.d, .int .i64 sh.e, .int .i64 sh.f] from by rw [← hW1]; exact rowIs.range (rowL_alloc w [Value.int .i64 sh.a, .int .i64 sh.b, .int .i64 sh.c, .int .i64 sh.d, .int .i64 sh.e, .int .i64 sh.f] 23 (n := 6) rfl) rfl)
  have BW := hide b1
  clear SH RK hjw hl hjn b1
  simp only [Shp.val]
  go_enter Try.func44, Try.ntmps44
  go_wp2_with (go_at_call 60; refine (fits_fine (HSH.out.below BW.out (Nat.le_refl _)) HL.out hs most hm 0 (.inl ⟨hm0, rfl⟩)).mono ?_; rintro e w' ⟨rfl, hw⟩; obtain rfl := hw.symm)
  go_loopw [9, 10] (fun e i wr => ∃ (k : Nat) (er : Int), k ≤ P.nh ∧ i = .int .i64 k ∧ Below W1.heap.size W1 wr ∧ e = .int .i64 er ∧ ((er = 0 ∧ ∀ h, h < k → ∀ j, j < P.jn h → K.err (P.jb h j) = 0) ∨ FirstErr K P er)) (fun _ i _ => P.nh - (intOf i).toNat)
  case atStart => exact ⟨0, 0, Nat.zero_le _, rfl, Below.refl _ _, rfl, .inl ⟨rfl, fun h hh => absurd hh (Nat.not_lt_zero h)⟩⟩
  case round =>
    obtain ⟨wo, rfl⟩ : ∃ x, x = wr := ⟨_, rfl⟩
    obtain ⟨k, er, hk, rfl, hb, rfl, hcase⟩ := hrel
    have HB := hide hb
    clear hb
    rcases hcase with ⟨rfl, hall⟩ | hfe
    · have HALL := hide hall
      clear hall
      by_cases hlt : k < P.nh
      · have hkn : (k : Int) < (P.nh : Int) := by omega
        obtain ⟨b, off, ao', cap', hao, hbl, hcc, hjj⟩ := (HSH.out.below (BW.out.trans (HB.out.mono (by omega))) (Nat.le_refl _)) k hlt
        subst hao
        have hjk := HJN.out k hlt
        have HJJ := hide hjj
        clear hjj
        go_wp2_with fail
        go_loopw [9, 11] (fun e i wr => ∃ (q : Nat) (er : Int), q ≤ P.jn k ∧ i = .int .i64 q ∧ Below W1.heap.size W1 wr ∧ e = .int .i64 er ∧ ((er = 0 ∧ ∀ j, j < q → K.err (P.jb k j) = 0) ∨ (FirstErr K P er ∧ ¬ er = 0))) (fun _ i _ => P.jn k - (intOf i).toNat)
        case atStart => exact ⟨0, 0, Nat.zero_le _, rfl, HB.out, rfl, .inl ⟨rfl, fun j hj => absurd hj (Nat.not_lt_zero j)⟩⟩
        case round =>
          obtain ⟨q, er, hq, rfl, hb2, rfl, hcase2⟩ := hrel
          have HB2' := hide hb2
          have hccr := (hb2.cell (p := ⟨b, off + k, none⟩) (by show b < _; omega)).trans ((HB.out.cell (p := ⟨b, off + k, none⟩) (by show b < _; omega)).symm.trans hcc)
          rcases hcase2 with ⟨rfl, hall2⟩ | ⟨hfe2, hne2⟩
          · have HALL2 := hide hall2
            clear hall2
            by_cases hlq : q < P.jn k
            · have hqn : (q : Int) < (P.jn k : Int) := by omega
              obtain ⟨b', off', hao', hbl', hc'⟩ := HJJ.out q hlq
              subst hao'
              obtain ⟨cs, hcs1, hcs2, hcs⟩ := HRK.out.start k (P.jb k q) (by omega) (by omega) (HJW.out k hlt q hlq)
              have ST := hide hcs
              obtain ⟨ev, hev⟩ : ∃ ev, K.err (P.jb k q) = ev := ⟨_, rfl⟩
              rw [hev] at ST
              have HEV := hide hev
              have lwr : W1.heap.size ≤ wr.heap.size := hb2.size
              obtain ⟨jb, hjb⟩ : ∃ jb, P.jb k q = jb := ⟨_, rfl⟩
              rw [hjb] at hc' ST
              obtain ⟨jk, ja, jbb, jc, jh⟩ := jb
              simp only [Shp.val, Jb.val, kept0] at ST
              have W0 : Below wr.heap.size wr wr.drew ∧ wr.rangeAt w.heap.size 0 [Value.int .i64 sh.a, .int .i64 sh.b, .int .i64 sh.c, .int .i64 sh.d, .int .i64 sh.e, .int .i64 sh.f] ∧ wr.cell? ⟨b, off + k * 1, none⟩ = some (.slice (some ⟨b', off', none⟩) (P.jn k) cap') ∧ wr.rangeAt b' (off' + q * 5) [.int .i64 jk, .int .i64 ja, .int .i64 jbb, .int .i64 jc, .int .u64 jh] := by
                refine ⟨(Below.refl _ _).drew, rangeAt_block R1.out (hb2.block _ (by omega)), by rw [Nat.mul_one]; exact hccr, fun j v hv => ?_⟩
                have hj : j < 5 := (List.getElem?_eq_some_iff.1 hv).1
                rw [show wr.cell? ⟨b', off' + q * 5 + j, none⟩ = wo.cell? ⟨b', off' + q * 5 + j, none⟩ from (hb2.cell (p := ⟨b', off' + q * 5 + j, none⟩) (by show b' < _; omega)).trans (HB.out.cell (p := ⟨b', off' + q * 5 + j, none⟩) (by show b' < _; omega)).symm, hc' j hj]
                match j, hj with
                | 0, _ | 1, _ | 2, _ | 3, _ | 4, _ => exact congrArg some (Option.some.inj hv)
              have HW0 := hide W0
              obtain ⟨dJ, hdJ⟩ := row54
              obtain ⟨dS, hdS⟩ := row42
              have DJ := hide hdJ
              have DS := hide hdS
              clear W0 hcs hcs1 hcs2 hev hjb hc' hb2 hdJ hdS
              go_wp2_with fail
              ·
                refine Reg.region (t := (⟨[(0, 40), (1, 41), (2, 42), (3, 43), (4, 44), (5, 45), (6, 46), (7, 47), (8, 48), (9, 49), (11, 39), (12, 51), (13, 52), (14, 9)],
                    fun i => match i with
                      | 0 => .agg #[.int .i64 sh.a, .int .i64 sh.b, .int .i64 sh.c, .int .i64 sh.d, .int .i64 sh.e, .int .i64 sh.f]
                      | 2 => .slice (some ⟨b, off, none⟩) P.nh caph
                      | 4 => .pointer (some ⟨b, off + k * 1, none⟩)
                      | 5 => .slice (some ⟨b', off', none⟩) (P.jn k) cap'
                      | 6 => .int .i64 (q : Int)
                      | 7 => .pointer (some ⟨b', off' + q * 5, none⟩)
                      | 8 => .agg #[.int .i64 jk, .int .i64 ja, .int .i64 jbb, .int .i64 jc, .int .u64 jh]
                      | 9 => .agg #[.int .u64 0, .int .u64 0, .int .u64 0, .int .u64 0]
                      | 11 => .tuple #[.agg cs.toArray, .int .i64 ev]
                      | 12 => .agg cs.toArray
                      | 13 => .int .i64 ev
                      | 14 => .int .i64 ev
                      | _ => .int .i64 (k : Int),
                    10, 50, .tuple #[.agg cs.toArray, .int .i64 ev], [], fun _ => (3, []), [], fun _ => []⟩ : Reg.TabL).tab)
                  (WI := fun _ w' => Below wr.heap.size wr w' ∧ w'.rangeAt w.heap.size 0 [Value.int .i64 sh.a, .int .i64 sh.b, .int .i64 sh.c, .int .i64 sh.d, .int .i64 sh.e, .int .i64 sh.f] ∧ w'.cell? ⟨b, off + k * 1, none⟩ = some (.slice (some ⟨b', off', none⟩) (P.jn k) cap') ∧ w'.rangeAt b' (off' + q * 5) [.int .i64 jk, .int .i64 ja, .int .i64 jbb, .int .i64 jc, .int .u64 jh])
                  (gw := w.heap.size) (by kernel_rfl) (Reg.TabL.ok _ rfl (fun i j hm => by simp at hm)) ?g8 ?b8 (by omega) ?alo ?sto ?dd HW0.out ?kinds ?fin
                case g8 =>
                  intro i o ho
                  have hi : i < 15 := by have := (Array.getElem?_eq_some_iff.1 ho).1; simpa using this
                  match i, hi with
                  | 0, _ | 1, _ | 2, _ | 3, _ | 4, _ | 5, _ | 6, _ | 7, _ | 8, _ | 9, _ | 10, _ | 11, _ | 12, _ | 13, _ | 14, _ => injection ho with ho; subst ho; rfl
                case b8 =>
                  intro i o ho
                  have hi : i < 15 := by have := (Array.getElem?_eq_some_iff.1 ho).1; simpa using this
                  match i, hi with
                  | 0, _ | 1, _ | 2, _ | 3, _ | 4, _ | 5, _ | 6, _ | 7, _ | 8, _ | 9, _ | 10, _ | 11, _ | 12, _ | 13, _ | 14, _ => injection ho with ho; subst ho; simp [Region.binds]
                case alo =>
                  rintro _ w' o ⟨h0, h1, h2, h3⟩
                  exact ⟨h0.alloc h0.size _, World.rangeAt_alloc h1 o, (World.cell?_alloc_lt _ _ _ (World.block_lt_of_cell? _ _ h2)).trans h2, World.rangeAt_alloc h3 o⟩
                case sto =>
                  rintro _ w' x vs ⟨h0, h1, h2, h3⟩ hk
                  have tt := touch_setCells x vs 0 w'
                  exact ⟨h0.trans (tt.below (fun y hy => by omega) h0.size), rangeAt_block h1 (tt.block _ (World.block_lt_of_cell? _ _ (h1 0 _ rfl)) (by show w.heap.size ≠ x; omega)), (World.cell?_of_block (a := ⟨b, off + k * 1, none⟩) (tt.block _ (World.block_lt_of_cell? _ _ h2) (by show b ≠ x; omega))).trans h2, rangeAt_block h3 (tt.block _ (World.block_lt_of_cell? _ _ (h3 0 _ rfl)) (by show b' ≠ x; omega))⟩
                case dd =>
                  intro x hx
                  have hx' : x < 54 := by
                    simp [Reg.TabL.tab] at hx
                    omega
                  simpa using hx'
                case kinds =>
                  have hWb : ∀ w1 w2 : World, (Below wr.heap.size wr w1 ∧ w1.rangeAt w.heap.size 0 [Value.int .i64 sh.a, .int .i64 sh.b, .int .i64 sh.c, .int .i64 sh.d, .int .i64 sh.e, .int .i64 sh.f] ∧ w1.cell? ⟨b, off + k * 1, none⟩ = some (.slice (some ⟨b', off', none⟩) (P.jn k) cap') ∧ w1.rangeAt b' (off' + q * 5) [.int .i64 jk, .int .i64 ja, .int .i64 jbb, .int .i64 jc, .int .u64 jh]) → Below w1.heap.size w1 w2 → (Below wr.heap.size wr w2 ∧ w2.rangeAt w.heap.size 0 [Value.int .i64 sh.a, .int .i64 sh.b, .int .i64 sh.c, .int .i64 sh.d, .int .i64 sh.e, .int .i64 sh.f] ∧ w2.cell? ⟨b, off + k * 1, none⟩ = some (.slice (some ⟨b', off', none⟩) (P.jn k) cap') ∧ w2.rangeAt b' (off' + q * 5) [.int .i64 jk, .int .i64 ja, .int .i64 jbb, .int .i64 jc, .int .u64 jh]) := by
                    rintro w1 w2 ⟨h0, h1, h2, h3⟩ hb
                    exact ⟨h0.trans (hb.mono h0.size), rangeAt_block h1 (hb.block _ (World.block_lt_of_cell? _ _ (h1 0 _ rfl))), (hb.cell (p := ⟨b, off + k * 1, none⟩) (World.block_lt_of_cell? _ _ h2)).trans h2, rangeAt_block h3 (hb.block _ (World.block_lt_of_cell? _ _ (h3 0 _ rfl)))⟩
                  intro i o ho
                  have hi : i < 15 := by have := (Array.getElem?_eq_some_iff.1 ho).1; simpa using this
                  match i, hi with
                  | 0, _ => injection ho with ho; subst ho; exact .inl ⟨40, _, rfl, rfl, fun L a w' bk hI hd => ex_load_row rfl (hI.fix 4 (Reg.notD rfl)) hI.world.2.1 DS.out.1 DS.out.2 size42⟩
                  | 1, _ => injection ho with ho; subst ho; exact .inl ⟨41, _, rfl, rfl, fun L a w' bk hI hd => ex_move rfl (hI.fix 10 (Reg.notD rfl))⟩
                  | 2, _ => injection ho with ho; subst ho; exact .inl ⟨42, _, rfl, rfl, fun L a w' bk hI hd => ex_move rfl (hI.fix 1 (Reg.notD rfl))⟩
                  | 3, _ => injection ho with ho; subst ho; exact .inl ⟨43, _, rfl, rfl, fun L a w' bk hI hd => ex_move rfl (hI.fix 10 (Reg.notD rfl))⟩
                  | 4, _ => injection ho with ho; subst ho; exact .inl ⟨44, _, rfl, rfl, fun L a w' bk hI hd => ex_index rfl (hI.pure 2 _ _ rfl (hd ⟨2, .data⟩ (by simp) rfl)) (hI.pure 3 _ _ rfl (hd ⟨3, .data⟩ (by simp) rfl)) hlt Try.underlying25 sz52⟩
                  | 5, _ => injection ho with ho; subst ho; exact .inl ⟨45, _, rfl, rfl, fun L a w' bk hI hd => ex_load rfl (hI.pure 4 _ _ rfl (hd ⟨4, .data⟩ (by simp) rfl)) (agg_no w').2.2.1 hI.world.2.2.1⟩
                  | 6, _ => injection ho with ho; subst ho; exact .inl ⟨46, _, rfl, rfl, fun L a w' bk hI hd => ex_move rfl (hI.fix 11 (Reg.notD rfl))⟩
                  | 7, _ => injection ho with ho; subst ho; exact .inl ⟨47, _, rfl, rfl, fun L a w' bk hI hd => ex_index rfl (hI.pure 5 _ _ rfl (hd ⟨5, .data⟩ (by simp) rfl)) (hI.pure 6 _ _ rfl (hd ⟨6, .data⟩ (by simp) rfl)) hlq Try.underlying65 sz54⟩
                  | 8, _ => injection ho with ho; subst ho; exact .inl ⟨48, _, rfl, rfl, fun L a w' bk hI hd => ex_load_row rfl (hI.pure 7 _ _ rfl (hd ⟨7, .data⟩ (by simp) rfl)) hI.world.2.2.2 DJ.out.1 DJ.out.2 size54⟩
                  | 9, _ => injection ho with ho; subst ho; exact .inl ⟨49, _, rfl, rfl, fun L a w' bk hI hd => build77 rfl⟩
                  | 10, _ => injection ho with ho; subst ho; exact .inr (.inl ⟨rfl, rfl, fun L a w' bk K hI hL hd hk => wp_call (f := 16) (call4 rfl (hI.pure 0 _ _ rfl (hd ⟨0, .data⟩ (by simp) rfl)) (hI.pure 1 _ _ rfl (hd ⟨1, .data⟩ (by simp) rfl)) (hI.pure 8 _ _ rfl (hd ⟨8, .data⟩ (by simp) rfl)) (hI.pure 9 _ _ rfl (hd ⟨9, .data⟩ (by simp) rfl)) rfl (callStartW _ _)) ((ST.out w').mono (fun e w'' ⟨he, hb⟩ => ⟨_, he, hk w'' (hWb w' w'' hI.world hb) (Touch.of_below hb _)⟩))⟩)
                  | 11, _ => injection ho with ho; subst ho; exact .inl ⟨39, _, rfl, rfl, fun L a w' bk hI hd => ex_move rfl (hI.call (hd ⟨10, .data⟩ (by simp) rfl))⟩
                  | 12, _ => injection ho with ho; subst ho; exact .inl ⟨51, _, rfl, rfl, fun L a w' bk hI hd => ex_extract rfl (hI.pure 11 _ _ rfl (hd ⟨11, .data⟩ (by simp) rfl)) rfl⟩
                  | 13, _ => injection ho with ho; subst ho; exact .inl ⟨52, _, rfl, rfl, fun L a w' bk hI hd => ex_extract rfl (hI.pure 11 _ _ rfl (hd ⟨11, .data⟩ (by simp) rfl)) rfl⟩
                  | 14, _ => injection ho with ho; subst ho; exact .inl ⟨9, _, rfl, rfl, fun L a w' bk hI hd => ex_assign rfl (hI.pure 13 _ _ rfl (hd ⟨13, .data⟩ (by simp) rfl))⟩
                case fin =>
                  intro L a' w' bk hI hall
                  have ea := act_all a' 54 (by rw [hI.sz]; rfl) hI.df
                  simp only [List.range, List.range.loop, List.map] at ea
                  rw [hI.fix 0 (Reg.notD rfl), hI.fix 1 (Reg.notD rfl), hI.fix 2 (Reg.notD rfl), hI.fix 3 (Reg.notD rfl), hI.fix 4 (Reg.notD rfl), hI.fix 5 (Reg.notD rfl), hI.fix 6 (Reg.notD rfl), hI.fix 7 (Reg.notD rfl), hI.fix 8 (Reg.notD rfl), hI.fix 10 (Reg.notD rfl), hI.fix 11 (Reg.notD rfl), hI.fix 12 (Reg.notD rfl), hI.fix 13 (Reg.notD rfl), hI.fix 14 (Reg.notD rfl), hI.fix 15 (Reg.notD rfl), hI.fix 16 (Reg.notD rfl), hI.fix 17 (Reg.notD rfl), hI.fix 18 (Reg.notD rfl), hI.fix 19 (Reg.notD rfl), hI.fix 20 (Reg.notD rfl), hI.fix 21 (Reg.notD rfl), hI.fix 22 (Reg.notD rfl), hI.fix 23 (Reg.notD rfl), hI.fix 24 (Reg.notD rfl), hI.fix 25 (Reg.notD rfl), hI.fix 26 (Reg.notD rfl), hI.fix 27 (Reg.notD rfl), hI.fix 28 (Reg.notD rfl), hI.fix 29 (Reg.notD rfl), hI.fix 30 (Reg.notD rfl), hI.fix 31 (Reg.notD rfl), hI.fix 32 (Reg.notD rfl), hI.fix 33 (Reg.notD rfl), hI.fix 34 (Reg.notD rfl), hI.fix 35 (Reg.notD rfl), hI.fix 36 (Reg.notD rfl), hI.fix 37 (Reg.notD rfl), hI.fix 38 (Reg.notD rfl), hI.fix 53 (Reg.notD rfl)] at ea
                  have p9 := hI.pure 14 9 _ rfl (hall 14 (by decide))
                  have hbx := hI.world.1
                  rw [p9] at ea
                  clear hI hall p9
                  generalize a'.eval (.tmp 39) = u39 at ea
                  generalize a'.eval (.tmp 40) = u40 at ea
                  generalize a'.eval (.tmp 41) = u41 at ea
                  generalize a'.eval (.tmp 42) = u42 at ea
                  generalize a'.eval (.tmp 43) = u43 at ea
                  generalize a'.eval (.tmp 44) = u44 at ea
                  generalize a'.eval (.tmp 45) = u45 at ea
                  generalize a'.eval (.tmp 46) = u46 at ea
                  generalize a'.eval (.tmp 47) = u47 at ea
                  generalize a'.eval (.tmp 48) = u48 at ea
                  generalize a'.eval (.tmp 49) = u49 at ea
                  generalize a'.eval (.tmp 50) = u50 at ea
                  generalize a'.eval (.tmp 51) = u51 at ea
                  generalize a'.eval (.tmp 52) = u52 at ea
                  simp only [show ∀ (ts : Array Value) (ds) (i : Nat), (Act.mk ts ds).eval (.tmp i) = ts.getD i undef from fun _ _ _ => rfl] at ea
                  simp at ea
                  subst ea
                  go_wp2_with fail
                  go_roundw
                  case rel =>
                    refine ⟨q + 1, ev, by omega, by go_num, HB2'.out.trans (hbx.mono HB2'.out.size), rfl, ?_⟩
                    by_cases h0 : ev = 0
                    · exact .inl ⟨h0, fun j hj => by rcases Nat.lt_or_ge j q with l | l; exact HALL2.out j l; obtain rfl : j = q := (by omega); rw [HEV.out, h0]⟩
                    · exact .inr ⟨⟨k, q, hlt, hlq, HEV.out, h0, HALL.out, HALL2.out⟩, h0⟩
                  case measure => simp [intOf]; omega
            · have hqn : ¬ (q : Int) < (P.jn k : Int) := by omega
              go_wp2_with fail
              go_roundw
              case rel => exact ⟨k + 1, 0, by omega, by go_num, HB2'.out, rfl, .inl ⟨rfl, fun h hh j hj => by rcases Nat.lt_or_ge h k with l | l; exact HALL.out h l j hj; obtain rfl : h = k := (by omega); exact HALL2.out j (by omega)⟩⟩
              case measure => simp [intOf]; omega
          · have HFE := hide hfe2
            clear hfe2
            by_cases hlq : q < P.jn k
            · have hqn : (q : Int) < (P.jn k : Int) := by omega
              go_wp2_with fail
              go_roundw
              case rel => exact ⟨k + 1, er, by omega, by go_num, HB2'.out, rfl, .inr HFE.out⟩
              case measure => simp [intOf]; omega
            · have hqn : ¬ (q : Int) < (P.jn k : Int) := by omega
              go_wp2_with fail
              go_roundw
              case rel => exact ⟨k + 1, er, by omega, by go_num, HB2'.out, rfl, .inr HFE.out⟩
              case measure => simp [intOf]; omega
      · have hkn : ¬ (k : Int) < (P.nh : Int) := by omega
        go_wp2_with fail
        go_ret
        exact ⟨BW.out.trans (HB.out.mono (by omega)), .inl ⟨fun h hh j hj => HALL.out h (by omega) j hj, rfl⟩⟩
    · have hne : ¬ er = 0 := by obtain ⟨_, _, _, _, _, h, _⟩ := hfe; exact h
      have HFE := hide hfe
      clear hfe
      by_cases hlt : k < P.nh
      · have hkn : (k : Int) < (P.nh : Int) := by omega
        go_wp2_with fail
        go_ret
        exact ⟨BW.out.trans (HB.out.mono (by omega)), .inr ⟨er, HFE.out, rfl⟩⟩
      · have hkn : ¬ (k : Int) < (P.nh : Int) := by omega
        go_wp2_with fail
        go_ret
        exact ⟨BW.out.trans (HB.out.mono (by omega)), .inr ⟨er, HFE.out, rfl⟩⟩
set_option maxHeartbeats 4000000 in
theorem wrong_fits (er : Int) (her : er ≠ 0) (h : ∀ w' : World, Below w.heap.size w w' → Calls Try.prog 60 #[.slice aoh P.nh caph, .slice aos P.ns caps, .int .i64 most] w' fun e w'' => e = .returned (.int .i64 er) ∧ w'' = w') :
    Calls Try.prog 44 #[sh.val, .slice aoh P.nh caph, .slice aos P.ns caps, .int .i64 most] w fun e w' => Below w.heap.size w w' ∧ e = .returned (.int .i64 er) := by
  have her' : ¬ er = 0 := her
  have HH := hide (h _ ((Below.refl _ w).alloc (Nat.le_refl _) (.cells #[.int .i64 sh.a, .int .i64 sh.b, .int .i64 sh.c, .int .i64 sh.d, .int .i64 sh.e, .int .i64 sh.f] 23)))
  clear h her
  simp only [Shp.val]
  go_enter Try.func44, Try.ntmps44
  go_wp2_with (go_at_call 60; refine HH.out.mono ?_; rintro e w' ⟨rfl, hw⟩; obtain rfl := hw.symm)
  go_loopw [9, 10] (fun e i wr => ∃ k : Nat, k ≤ P.nh ∧ e = .int .i64 er ∧ i = .int .i64 k ∧ wr = w.alloc (.cells #[.int .i64 sh.a, .int .i64 sh.b, .int .i64 sh.c, .int .i64 sh.d, .int .i64 sh.e, .int .i64 sh.f] 23)) (fun _ _ _ => 0)
  case atStart => exact ⟨0, Nat.zero_le _, rfl, rfl, rfl⟩
  case round =>
    obtain ⟨k, hk, rfl, rfl, rfl⟩ := hrel
    by_cases hlt : k < P.nh
    · have hkn : (k : Int) < (P.nh : Int) := by omega
      go_wp2_with fail
      go_ret
      exact ⟨(Below.refl _ w).alloc (Nat.le_refl _) _, rfl⟩
    · have hkn : ¬ (k : Int) < (P.nh : Int) := by omega
      go_wp2_with fail
      go_ret
      exact ⟨(Below.refl _ w).alloc (Nat.le_refl _) _, rfl⟩
end L6
end Go.Proofs.Ytgfbohmehhhbeaa

/-
  The statement's own reference of tasks of several steps: ran, where it refuses.
-/
namespace Go.Proofs.Ytgfbohmehhhbeaa
namespace L6
open Go.RowKit
set_option linter.unusedVariables false
set_option linter.unusedSimpArgs false
set_option linter.unnecessarySimpa false
set_option maxRecDepth 20000

/-- What wrong tells, whatever it is given. -/
def WrongB (K : Kd) (w : World) (P : Par) (most : Int) (e : Ending) (w' : World) : Prop :=
  Below w.heap.size w w' ∧ ((Fine P most ∧ AllOk K P ∧ e = .returned (.int .i64 0)) ∨ ∃ er, ErrOf K P most er ∧ e = .returned (.int .i64 er))

variable {K : Kd} {rep : List Value → K.σ → Prop} {sh : Shp} {w : World} {ao aoh aos : Option Addr} {cap caph caps : Nat} {P : Par} {most : Int}

theorem wrong_all (RK : RKind K rep sh 16 53) (hjw : ∀ h, h < P.nh → ∀ j, j < P.jn h → (P.jb h j).wf) (hn : P.n ≤ 4096) (SH : SeesH w w.heap.size aoh P.nh P.jn P.jb) (hn63 : P.nh ≤ 9223372036854775807) :
    Calls Try.prog 44 #[sh.val, .slice aoh P.nh caph, .slice aos P.ns caps, .int .i64 most] w (WrongB K w P most) := by
  by_cases h2 : LongHands P.nh P.jn ∨ 65536 < P.ns ∨ 65536 < most
  · exact (wrong_fits 1 (by decide) (fun w' hb => fits_long (SH.below hb (Nat.le_refl _)) hn63 most h2)).mono fun e w' ⟨hb, he⟩ => ⟨hb, .inr ⟨1, .inr (.inl ⟨hn, h2, rfl⟩), he⟩⟩
  · have hl : ¬ LongHands P.nh P.jn := fun h => h2 (.inl h)
    have hs : P.ns ≤ 65536 := by rcases Nat.lt_or_ge 65536 P.ns with l | l; exact absurd (.inr (.inl l)) h2; exact l
    have hm : most ≤ 65536 := by rcases Int.lt_or_le 65536 most with l | l; exact absurd (.inr (.inr l)) h2; exact l
    by_cases h3 : most < 0
    · exact (wrong_fits 2 (by decide) (fun w' hb => fits_fine (SH.below hb (Nat.le_refl _)) hl hs most hm 2 (.inr ⟨h3, rfl⟩))).mono fun e w' ⟨hb, he⟩ => ⟨hb, .inr ⟨2, .inr (.inr (.inl ⟨hn, hl, hs, h3, rfl⟩)), he⟩⟩
    · have hF : Fine P most := ⟨hn, hl, hs, by omega, hm⟩
      refine (wrong_fine RK hjw SH hl hs (by omega) hm).mono fun e w' ⟨hb, hc⟩ => ⟨hb, ?_⟩
      rcases hc with ⟨hok, he⟩ | ⟨er, hfe, he⟩
      · exact .inl ⟨hF, hok, he⟩
      · exact .inr ⟨er, .inr (.inr (.inr ⟨hF, hfe⟩)), he⟩

set_option maxHeartbeats 4000000 in
theorem ran_err (RK : RKind K rep sh 16 53) (hjw : ∀ h, h < P.nh → ∀ j, j < P.jn h → (P.jb h j).wf) (hn : P.n ≤ 4096) (SH : SeesH w w.heap.size aoh P.nh P.jn P.jb) (hn63 : P.nh ≤ 9223372036854775807) {er : Int} (he : ErrOf K P most er) :
    Calls Try.prog 36 #[sh.val, .slice ao P.n cap, .slice aoh P.nh caph, .slice aos P.ns caps, .int .i64 most] w fun e w' => e = .returned (errVal er) ∧ Below w.heap.size w w' := by
  have her' : ¬ er = 0 := he.ne
  obtain ⟨W2, hW2⟩ : ∃ W2, (w.alloc (.cells #[.int .i64 sh.a, .int .i64 sh.b, .int .i64 sh.c, .int .i64 sh.d, .int .i64 sh.e, .int .i64 sh.f] 23)).alloc (.cells #[.slice none 0 0, .slice none 0 0, .bool false] 30) = W2 := ⟨_, rfl⟩
  have b2 : Below w.heap.size w W2 := by rw [← hW2]; exact ((Below.refl _ w).alloc (Nat.le_refl _) _).alloc (by simp) _
  have sz2 : W2.heap.size = w.heap.size + 2 := by rw [← hW2]; simp
  have R1 : W2.rowIs w.heap.size 23 6 (lrow [Value.int .i64 sh.a, .int .i64 sh.b, .int .i64 sh.c, .int .i64 sh.d, .int .i64 sh.e, .int .i64 sh.f]) := by rw [← hW2]; exact (rowL_alloc w [Value.int .i64 sh.a, .int .i64 sh.b, .int .i64 sh.c, .int .i64 sh.d, .int .i64 sh.e, .int .i64 sh.f] _ rfl).alloc _
  have R2 := hide (show W2.rowIs (w.heap.size + 1) 30 3 (lrow [.slice none 0 0, .slice none 0 0, .bool false]) from by rw [← hW2]; have := rowL_alloc (w.alloc (.cells #[.int .i64 sh.a, .int .i64 sh.b, .int .i64 sh.c, .int .i64 sh.d, .int .i64 sh.e, .int .i64 sh.f] 23)) [.slice none 0 0, .slice none 0 0, .bool false] 30 (n := 3) rfl; rwa [World.size_alloc] at this)
  have c0 : W2.cell? ⟨w.heap.size, 0, none⟩ = some (.int .i64 sh.a) := R1.cell (i := 0) (by omega)
  have c1 : W2.cell? ⟨w.heap.size, 1, none⟩ = some (.int .i64 sh.b) := R1.cell (i := 1) (by omega)
  have c2 : W2.cell? ⟨w.heap.size, 2, none⟩ = some (.int .i64 sh.c) := R1.cell (i := 2) (by omega)
  have c3 : W2.cell? ⟨w.heap.size, 3, none⟩ = some (.int .i64 sh.d) := R1.cell (i := 3) (by omega)
  have c4 : W2.cell? ⟨w.heap.size, 4, none⟩ = some (.int .i64 sh.e) := R1.cell (i := 4) (by omega)
  have c5 : W2.cell? ⟨w.heap.size, 5, none⟩ = some (.int .i64 sh.f) := R1.cell (i := 5) (by omega)
  have WR := hide (wrong_all RK hjw (caph := caph) (aos := aos) (caps := caps) (most := most) hn (w := W2) (fun i hi => by
    obtain ⟨b, off, ao', cap, e, hb, hc, hj⟩ := SH.below b2 (Nat.le_refl _) i hi
    exact ⟨b, off, ao', cap, e, by omega, hc, fun q hq => by obtain ⟨b', off', e', hb', hc'⟩ := hj q hq; exact ⟨b', off', e', by omega, hc'⟩⟩) hn63)
  have HE := hide he
  have BW := hide b2
  clear SH RK hjw R1 he b2
  simp only [Shp.val] at WR ⊢
  unfold errVal
  go_enter Try.func36, Try.ntmps36
  go_wp2_with (go_at_call 44; refine WR.out.mono ?_; rintro e w' ⟨hb, hc⟩; obtain rfl : e = .returned (.int .i64 er) := (by rcases hc with ⟨h1, h2, _⟩ | ⟨er', h, rfl⟩; exact absurd ⟨h1, h2⟩ HE.out.not; rw [h.one HE.out]); have HB := hide hb; have sz3 := hb.size; have rT := R2.out.of_block (hb.block _ (by omega)); have z0 : w'.cell? ⟨w.heap.size + 1, 0, none⟩ = some (.slice none 0 0) := rT.cell (i := 0) (by omega); have z1 : w'.cell? ⟨w.heap.size + 1, 1, none⟩ = some (.slice none 0 0) := rT.cell (i := 1) (by omega); have z2 : w'.cell? ⟨w.heap.size + 1, 2, none⟩ = some (.bool false) := rT.cell (i := 2) (by omega); have y0 := rT.frozen 0; have y1 := rT.frozen 1; have y2 := rT.frozen 2; clear hb hc rT)
  go_light
  refine bodyPost_ret (v := errVal er) ?_ rfl ⟨rfl, (((BW.out.trans (HB.out.mono (by omega))).setCell (by simp) _).setCell (by simp) _).setCell (by simp) _⟩
  simp [results, Try.results36, go_sem, errVal, *]
end L6
end Go.Proofs.Ytgfbohmehhhbeaa

/-
  What both sides tell of a run.
-/
namespace Go.Proofs.Ytgfbohmehhhbeaa
open Go.RowKit
set_option linter.unusedVariables false
set_option linter.unusedSimpArgs false
set_option linter.unnecessarySimpa false
set_option maxRecDepth 20000

/-- What a run tells. -/
structure Vw where
  k : Nat
  s : Nat → Stp
  n : Nat
  f : Nat → Int
  en : Bool
  m : Nat
  dn : Nat → Nat
  an : Nat → Nat → Ans
  er : Int

/-- A told value, as it is seen. -/
def TV (w : World) (V : Vw) (v : Value) : Prop :=
  ∃ sa sc wa wc aa ac, v = .tuple #[.agg #[.slice sa V.k sc, .slice wa V.n wc, .bool V.en], .slice aa V.m ac, .int .i64 V.er] ∧ SeesS w w.heap.size sa V.k V.s ∧ Sees w w.heap.size wa V.n V.f ∧ SeesA w w.heap.size aa V.m V.dn V.an

/-- ran, whatever it is given. -/
def RAllR (K : Kd) (rep : List Value → K.σ → Prop) (w : World) (P : Par) (f : Nat → Int) (most : Int) (e : Ending) (w' : World) : Prop :=
  Below w.heap.size w w' ∧ ((∃ er, ErrOf K P most er ∧ e = .returned (errVal er)) ∨ (Fine P most ∧ AllOk K P ∧ ∃ v, e = .returned v ∧ RTold K rep P (runSt P (st0 K P f) most.toNat) (w.heap.size + 1) v w'))

theorem views (K : Kd) (rep : List Value → K.σ → Prop) (P : Par) (f : Nat → Int) (most : Int) : ∃ V : Vw, V.k ≤ 65536 ∧ V.n ≤ 4096 ∧ V.m ≤ 8 ∧ (∀ h, h < V.m → V.dn h ≤ 256) ∧
    (∀ w e w', RAllR K rep w P f most e w' → Below w.heap.size w w' ∧ ∃ v, e = .returned v ∧ TV w' V v) ∧ (∀ w e w', OfAny.AllB K w P f most e w' → Below w.heap.size w w' ∧ ∃ v, e = .returned v ∧ TV w' V v) := by
  by_cases hE : ∃ er, ErrOf K P most er
  · obtain ⟨er, hE⟩ := hE
    have tv : ∀ w, TV w ⟨0, fun _ => ⟨0, 0, 0, 0, 0, false⟩, 0, fun _ => 0, false, 0, fun _ => 0, fun _ _ => ⟨false, 0⟩, er⟩ (errVal er) := fun w => ⟨none, 0, none, 0, none, 0, rfl, fun j hj => absurd hj (Nat.not_lt_zero j), fun j hj => absurd hj (Nat.not_lt_zero j), fun j hj => absurd hj (Nat.not_lt_zero j)⟩
    refine ⟨⟨0, fun _ => ⟨0, 0, 0, 0, 0, false⟩, 0, fun _ => 0, false, 0, fun _ => 0, fun _ _ => ⟨false, 0⟩, er⟩, Nat.zero_le _, Nat.zero_le _, Nat.zero_le _, fun _ _ => Nat.zero_le _, ?_, ?_⟩
    · rintro w e w' ⟨hb, ⟨er', h, rfl⟩ | ⟨h1, h2, _⟩⟩
      · obtain rfl := h.one hE
        exact ⟨hb, _, rfl, tv w'⟩
      · exact absurd ⟨h1, h2⟩ hE.not
    · rintro w e w' ⟨hb, ⟨er', h, rfl⟩ | ⟨h1, h2, _⟩⟩
      · obtain rfl := h.one hE
        exact ⟨hb, _, rfl, tv w'⟩
      · exact absurd ⟨h1, h2⟩ hE.not
  · by_cases hf : Fine P most
    · have st := runSt P (st0 K P f) most.toNat
      have hk : (runSt P (st0 K P f) most.toNat).k ≤ 65536 := by
        have := (runSt_k P (st0 K P f) rfl most.toNat).1
        have := hf.2.2.2
        omega
      have hnh : P.nh ≤ 8 := by rcases Nat.lt_or_ge 8 P.nh with l | l; exact absurd (.inl l) hf.2.1; exact l
      by_cases hd : ∀ h, h < P.nh → (runSt P (st0 K P f) most.toNat).done h ≤ 256
      · refine ⟨⟨(runSt P (st0 K P f) most.toNat).k, (runSt P (st0 K P f) most.toNat).s, P.n, (runSt P (st0 K P f) most.toNat).f, decide (cnt ((runSt P (st0 K P f) most.toNat).going P) P.nh = 0), P.nh, (runSt P (st0 K P f) most.toNat).done, (runSt P (st0 K P f) most.toNat).ans, 0⟩, hk, hf.1, hnh, hd, ?_, ?_⟩
        · rintro w e w' ⟨hb, ⟨er', h, rfl⟩ | ⟨h1, h2, v, rfl, blk, c, un, capw, sv, rfl, H, G⟩⟩
          · exact absurd ⟨_, h⟩ hE
          · obtain ⟨sa, sc, rfl⟩ := G.steps.isSlice'
            exact ⟨hb, _, rfl, sa, sc, _, _, _, _, rfl, G.steps.seesS H, G.seesW H, seesA_of G.answers H⟩
        · rintro w e w' ⟨hb, ⟨er', h, rfl⟩ | ⟨h1, h2, v, rfl, blk, c, g, sv, rfl, H, G, GS, R, hg, hne⟩⟩
          · exact absurd ⟨_, h⟩ hE
          · obtain ⟨sa, sc, rfl⟩ := GS.isSlice'
            exact ⟨hb, _, rfl, sa, sc, _, _, _, _, rfl, GS.seesS H, R.sees, seesA_of G.answers H⟩
      · refine ⟨⟨0, fun _ => ⟨0, 0, 0, 0, 0, false⟩, 0, fun _ => 0, false, 0, fun _ => 0, fun _ _ => ⟨false, 0⟩, 0⟩, Nat.zero_le _, Nat.zero_le _, Nat.zero_le _, fun _ _ => Nat.zero_le _, ?_, ?_⟩
        · rintro w e w' ⟨hb, ⟨er', h, rfl⟩ | ⟨h1, h2, v, rfl, blk, c, un, capw, sv, rfl, H, G⟩⟩
          · exact absurd ⟨_, h⟩ hE
          · exact absurd (fun h hh => Nat.le_trans (G.doneLe h hh) (G.jobs h hh)) hd
        · rintro w e w' ⟨hb, ⟨er', h, rfl⟩ | ⟨h1, h2, v, rfl, blk, c, g, sv, rfl, H, G, GS, R, hg, hne⟩⟩
          · exact absurd ⟨_, h⟩ hE
          · exact absurd (fun h hh => Nat.le_trans (G.doneLe h hh) (G.jobs h hh)) hd
    · refine ⟨⟨0, fun _ => ⟨0, 0, 0, 0, 0, false⟩, 0, fun _ => 0, false, 0, fun _ => 0, fun _ _ => ⟨false, 0⟩, 0⟩, Nat.zero_le _, Nat.zero_le _, Nat.zero_le _, fun _ _ => Nat.zero_le _, ?_, ?_⟩
      · rintro w e w' ⟨hb, ⟨er', h, rfl⟩ | ⟨h1, _⟩⟩
        · exact absurd ⟨_, h⟩ hE
        · exact absurd h1 hf
      · rintro w e w' ⟨hb, ⟨er', h, rfl⟩ | ⟨h1, _⟩⟩
        · exact absurd ⟨_, h⟩ hE
        · exact absurd h1 hf

end Go.Proofs.Ytgfbohmehhhbeaa
