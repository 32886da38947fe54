/-
  Lemmas: SeqRB.
-/
import Derived.Test.YtkiojiibppdjjaaTp22
import Derived.Test.YtkiojiibppdjjaaTp19
import Derived.Test.YtkiojiibppdjjaaTp33
/-
  The seq's reference: Step: a Write, its words.
-/
namespace Go.Proofs.Ytkiojiibppdjjaa
open Go.RowKit
set_option linter.unusedVariables false
set_option linter.unusedSimpArgs false
set_option linter.unnecessarySimpa false
set_option maxRecDepth 20000
namespace Seq

set_option maxHeartbeats 8000000 in
theorem rw2_more {w : World} {g n cap : Nat} {f f' : Nat → Int} {x : Stp} {s0 s1 s2 s3 s4 s5 hand a b c hh r0 r1 r2 r3 val : Int} {ok : Bool} (hr : IsRow w g n cap f) (hr1b : 1 ≤ r1 ∧ r1 ≤ 64) (hv : 0 ≤ hh ∧ hh ≤ 18446744073709551615) (a1 : ¬ r1 = s5)  (hx : stepOf n f ⟨hand, 2, r1, 0, hh, true⟩ = x) (hf' : wordsOf n f ⟨hand, 2, r1, 0, hh, true⟩ = f') :
    Calls Try.prog 54 #[.agg (tk ⟨s0, s1, s2, s3, s4, s5⟩ hand ⟨1, a, b, c, hh⟩ 2 ⟨r0, r1, r2, r3, 0, 0, 0, 0⟩ ⟨ok, val⟩).toArray, .slice (some ⟨g, 0, none⟩) n cap] w fun e w' =>
      e = .returned (.tuple #[.agg (tk ⟨s0, s1, s2, s3, s4, s5⟩ hand ⟨1, a, b, c, hh⟩ 2 ⟨r0, (r1 + 1), r2, r3, 0, 0, 0, 0⟩ ⟨ok, val⟩).toArray, x.val, .bool false]) ∧ IsRow w' g n cap f' ∧ w.grownBy w' (some g) := by
  have DO := hide (fun (w' : World) (hr' : IsRow w' g n cap f) => ref_do (s := ⟨hand, 2, r1, 0, hh, true⟩) hr' hv ⟨by show (1 : Int) ≤ 2; decide, by show (2 : Int) ≤ 5; decide⟩)
  have HX := hide hx
  have HF := hide hf'
  have lg := hr.lt
  obtain ⟨l0, hl0⟩ : ∃ l, tk ⟨s0, s1, s2, s3, s4, s5⟩ hand ⟨1, a, b, c, hh⟩ 2 ⟨r0, r1, r2, r3, 0, 0, 0, 0⟩ ⟨ok, val⟩ = l := ⟨_, rfl⟩
  have hl0' : l0.length = 28 := by rw [← hl0]; rfl
  have hset : (l0.set 14 (.int .u64 (r1 + 1))) = tk ⟨s0, s1, s2, s3, s4, s5⟩ hand ⟨1, a, b, c, hh⟩ 2 ⟨r0, (r1 + 1), r2, r3, 0, 0, 0, 0⟩ ⟨ok, val⟩ := by rw [← hl0]; rfl
  obtain ⟨l1, hl1⟩ : ∃ l, tk ⟨s0, s1, s2, s3, s4, s5⟩ hand ⟨1, a, b, c, hh⟩ 2 ⟨r0, (r1 + 1), r2, r3, 0, 0, 0, 0⟩ ⟨ok, val⟩ = l := ⟨_, rfl⟩
  rw [hl0, hl1]
  rw [hl1] at hset
  have hl1i := hide (show IsTk l1 from by rw [← hl1]; exact tk_is _ _ _ _ _ _)
  obtain ⟨W3, hW3⟩ : ∃ W3, ((w.alloc (.cells l0.toArray 64)).alloc (.cells tk0.toArray 64)).alloc (.cells [Value.int .i64 0, .int .i64 0, .int .i64 0, .int .u64 0, .int .u64 0, .bool false].toArray 77) = W3 := ⟨_, rfl⟩
  have sz3 : W3.heap.size = w.heap.size + 3 := by rw [← hW3]; simp
  have R0 : W3.rowIs w.heap.size 64 28 (lrow l0) := by rw [← hW3]; exact ((rowL_alloc w l0 _ hl0').alloc _).alloc _
  have R1 : W3.rowIs (w.heap.size + 1) 64 28 (lrow tk0) := by
    rw [← hW3]
    have := (rowL_alloc (w.alloc (.cells l0.toArray 64)) tk0 64 (n := 28) rfl).alloc (.cells [Value.int .i64 0, .int .i64 0, .int .i64 0, .int .u64 0, .int .u64 0, .bool false].toArray 77)
    rwa [World.size_alloc] at this
  have R2 : W3.rowIs (w.heap.size + 2) 77 6 (lrow [Value.int .i64 0, .int .i64 0, .int .i64 0, .int .u64 0, .int .u64 0, .bool false]) := by
    rw [← hW3]
    have := rowL_alloc ((w.alloc (.cells l0.toArray 64)).alloc (.cells tk0.toArray 64)) [Value.int .i64 0, .int .i64 0, .int .i64 0, .int .u64 0, .int .u64 0, .bool false] 77 (n := 6) rfl
    rwa [World.size_alloc, World.size_alloc] at this
  have G3 : w.grownBy W3 (some g) := by rw [← hW3]; exact grown_alloc (grown_alloc (grown_alloc (grown_refl _ _) _) _) _
  have HR3 := hide (show IsRow W3 g n cap f from hr.grown (grown_none (by rw [← hW3]; exact grown_alloc (grown_alloc (grown_alloc (grown_refl _ _) _) _) _) none) (by simp))
  have cell : ∀ i v, l0[i]? = some v → W3.cell? ⟨w.heap.size, i, none⟩ = some v := fun i v hv => by rw [R0.cell (i := i) (by have := (List.getElem?_eq_some_iff.1 hv).1; omega), lrow_of hv]
  have g5 : l0[5]? = some (.int .i64 s5) := by rw [← hl0]; rfl
  have g6 : l0[6]? = some (.int .i64 hand) := by rw [← hl0]; rfl
  have g11 : l0[11]? = some (.int .u64 hh) := by rw [← hl0]; rfl
  have g12 : l0[12]? = some (.int .i64 2) := by rw [← hl0]; rfl
  have g14 : l0[14]? = some (.int .u64 r1) := by rw [← hl0]; rfl
  have c5 := cell 5 _ g5
  have c6 := cell 6 _ g6
  have c11 := cell 11 _ g11
  have c12 := cell 12 _ g12
  have c14 := cell 14 _ g14
  have G5 := hide g5
  have G6 := hide g6
  have G11 := hide g11
  have G12 := hide g12
  have G14 := hide g14
  obtain ⟨dT, hdT1, hdT2⟩ := row79
  obtain ⟨dS, hdS1, hdS2⟩ := row46
  have HD := hide (And.intro hdT1 (And.intro hdT2 (And.intro hdS1 hdS2)))
  have HR0 := hide R0
  have HR1 := hide R1
  have HR2 := hide R2
  have HG3 := hide G3
  have HSET := hide hset
  have HL0 := hide hl0'
  have b6 : IntKind.u64.wrap (r1 + 1) = r1 + 1 := by rw [IntKind.wrap_u64]; omega
  have b7 : wrap64 r1 = r1 := by unfold wrap64; omega
  have b8 : IntKind.i64.wrap r1 = r1 := by rw [IntKind.wrap_i64]; omega
  have a1' : (r1 == s5) = false := by simpa using a1
  clear hx hf' hr R0 R1 R2 G3 cell hset hl0' hl0 hl1 hdT1 hdT2 hdS1 hdS2 hv g5 g6 g11 g12 g14
  simp only [tk0] at hW3
  have fz14 := HR0.out.frozen 14
  obtain ⟨la, hla⟩ : ∃ l, (l0.set 14 (.int .u64 (r1 + 1))) = l := ⟨_, rfl⟩
  have HLA := hide (show la.length = 28 from by rw [← hla]; simpa using HL0.out)
  have GA5 := hide (show la[5]? = some (.int .i64 s5) from by rw [← hla]; simp [G5.out])
  have GA6 := hide (show la[6]? = some (.int .i64 hand) from by rw [← hla]; simp [G6.out])
  have GA11 := hide (show la[11]? = some (.int .u64 hh) from by rw [← hla]; simp [G11.out])
  have GA12 := hide (show la[12]? = some (.int .i64 2) from by rw [← hla]; simp [G12.out])
  have GA14 := hide (show la[14]? = some (.int .u64 (r1 + 1)) from by rw [← hla]; simp [HL0.out])
  obtain ⟨w2, hw2⟩ : ∃ w2, (W3.setCell ⟨w.heap.size, 14, none⟩ (.int .u64 (r1 + 1))) = w2 := ⟨_, rfl⟩
  have sz2 : w2.heap.size = W3.heap.size := by rw [← hw2]; simp
  have tt2 : Touch W3 w2 (fun k => k = w.heap.size) := by rw [← hw2]; exact (Touch.setCell (S := fun k => k = w.heap.size) (Touch.refl W3 _) ⟨w.heap.size, 14, none⟩ (.inl rfl) _)
  have HA0 := hide (show w2.rowIs w.heap.size 64 28 (lrow la) from by rw [← hw2, ← hla]; exact (rowIs.setL HR0.out (i := 14) (by simp [HL0.out]) (.int .u64 (r1 + 1))))
  have HA1 := hide (HR1.out.of_block (tt2.block _ (by omega) (by omega)))
  have HA2 := hide (HR2.out.of_block (tt2.block _ (by omega) (by omega)))
  have HA3 := hide (HR3.out.block (tt2.block g (by omega) (by omega)))
  have HGA := hide (show w.grownBy w2 (some g) from by rw [← hw2]; exact (grown_setCell HG3.out _ (.inr (Nat.le_refl _)) _))
  have p5 : w2.cell? ⟨w.heap.size, 5, none⟩ = some (.int .i64 s5) := by rw [HA0.out.cell (i := 5) (by omega), lrow_of GA5.out]
  have p6 : w2.cell? ⟨w.heap.size, 6, none⟩ = some (.int .i64 hand) := by rw [HA0.out.cell (i := 6) (by omega), lrow_of GA6.out]
  have p11 : w2.cell? ⟨w.heap.size, 11, none⟩ = some (.int .u64 hh) := by rw [HA0.out.cell (i := 11) (by omega), lrow_of GA11.out]
  have p12 : w2.cell? ⟨w.heap.size, 12, none⟩ = some (.int .i64 2) := by rw [HA0.out.cell (i := 12) (by omega), lrow_of GA12.out]
  have p14 : w2.cell? ⟨w.heap.size, 14, none⟩ = some (.int .u64 (r1 + 1)) := by rw [HA0.out.cell (i := 14) (by omega), lrow_of GA14.out]
  have HSA := hide hla
  clear tt2 hla
  have hla : la = l1 := by rw [← HSA.out]; exact HSET.out
  subst hla
  have rA : w2.rangeAt w.heap.size 0 la := rowIs.range HA0.out HLA.out
  have tC : w2.there (w.heap.size + 1) 0 28 := rowIs.there HA1.out (by omega)
  have tD : w2.there (w.heap.size + 2) 0 6 := rowIs.there HA2.out (by omega)
  have HTW := hide (show Touch w w2 (fun k => k = g) from (Touch.of_grown HGA.out).mono (S' := fun k => k = g) (fun k _ h => by simpa using h))
  have q6 := GA6.out
  have q11 := GA11.out
  have STB := hide (show ∀ c w' w'', Touch w' w'' (fun k => k = w.heap.size + 1 ∨ k = w.heap.size + 2) → (fun (c : Bool) (w' : World) => w'.rangeAt w.heap.size 0 la ∧ IsRow w' g n cap (if c = true then f' else f) ∧ Touch w2 w' (fun k => k = g ∨ k = w.heap.size + 1 ∨ k = w.heap.size + 2)) c w' → (fun (c : Bool) (w' : World) => w'.rangeAt w.heap.size 0 la ∧ IsRow w' g n cap (if c = true then f' else f) ∧ Touch w2 w' (fun k => k = g ∨ k = w.heap.size + 1 ∨ k = w.heap.size + 2)) c w'' from fun c w' w'' ht ⟨p1, p2, p3⟩ => by
    have ls := p3.size
    exact ⟨rangeAt_block p1 (ht.block _ (by omega) (by omega)), p2.block (ht.block g (by omega) (by omega)), p3.trans' ht (fun k _ h => .inr h)⟩)
  have DC := hide (show ∀ w', (fun (c : Bool) (w' : World) => w'.rangeAt w.heap.size 0 la ∧ IsRow w' g n cap (if c = true then f' else f) ∧ Touch w2 w' (fun k => k = g ∨ k = w.heap.size + 1 ∨ k = w.heap.size + 2)) false w' → Calls Try.prog 55 #[.slice (some ⟨g, 0, none⟩) n cap, .int .i64 hand, .int .i64 2, .int .i64 (r1), .int .u64 0, .int .u64 hh] w' fun e w'' => e = .returned x.val ∧ (fun (c : Bool) (w' : World) => w'.rangeAt w.heap.size 0 la ∧ IsRow w' g n cap (if c = true then f' else f) ∧ Touch w2 w' (fun k => k = g ∨ k = w.heap.size + 1 ∨ k = w.heap.size + 2)) true w'' ∧ w''.heap[w.heap.size + 1]? = w'.heap[w.heap.size + 1]? ∧ w''.heap[w.heap.size + 2]? = w'.heap[w.heap.size + 2]? from fun w' ⟨p1, p2, p3⟩ => by
    have ls := p3.size
    refine (DO.out w' (by simpa using p2)).mono ?_
    rintro e w'' ⟨rfl, h1, h2⟩
    rw [HX.out]
    rw [HF.out] at h1
    exact ⟨rfl, ⟨rangeAt_block p1 (h2.block _ (by omega) (by simp; omega)), by simpa using h1, p3.trans' (Touch.of_grown h2) (fun k _ e => .inl (by simpa using e))⟩, h2.block _ (by omega) (by simp; omega), h2.block _ (by omega) (by simp; omega)⟩)
  go_enter Try.func54, Try.ntmps54
  go_wp2_with fail
  clear hw2 hW3 c5 c6 c11 c12 c14 p5 p6 p11 p12 p14
  refine RG.region (ks := [(0, 56), (1, 57), (2, 58), (3, 59), (4, 60), (5, 61), (6, 62), (7, 63), (8, 64), (11, 6)]) (vals := fun i => match i with
      | 0 => .agg la.toArray
      | 1 => .slice (some ⟨g, 0, none⟩) n cap
      | 2 => .pointer (some ⟨w.heap.size, 6, none⟩)
      | 3 => .int .i64 hand
      | 4 => .int .i64 r1
      | 5 => .pointer (some ⟨w.heap.size, 7, none⟩)
      | 6 => .pointer (some ⟨w.heap.size, 11, none⟩)
      | 7 => .int .u64 hh
      | 8 => .agg #[Value.int .i64 x.hand, .int .i64 x.act, .int .i64 x.at_, .int .u64 x.had, .int .u64 x.put, .bool x.ok]
      | 11 => .bool false
      | _ => undef) (x := 3) (WI := fun L v w' => RG.SM (fun (c : Bool) (w' : World) => w'.rangeAt w.heap.size 0 la ∧ IsRow w' g n cap (if c = true then f' else f) ∧ Touch w2 w' (fun k => k = g ∨ k = w.heap.size + 1 ∨ k = w.heap.size + 2)) (w.heap.size + 1) (w.heap.size + 2) la x (L 8) (L 9) (L 10) w') (by kernel_rfl) ?gg ?bk rfl ?dd ?xx (RG.SM.start ⟨rA, HA3.out, (Touch.refl w2 _).drew⟩ (by rw [hl1i.out.1]; exact tC) tD) ?does ?fin
  case gg =>
    intro i o ho
    have hi : i < 12 := by have := (Array.getElem?_eq_some_iff.1 ho).1; simpa using this
    match i, hi with
    | 0, _ | 1, _ | 2, _ | 3, _ | 4, _ | 5, _ | 6, _ | 7, _ | 8, _ | 9, _ | 10, _ | 11, _ => injection ho with ho; subst ho; rfl
  case bk =>
    intro i o ho
    have hi : i < 12 := by have := (Array.getElem?_eq_some_iff.1 ho).1; simpa using this
    match i, hi with
    | 0, _ | 1, _ | 2, _ | 3, _ | 4, _ | 5, _ | 6, _ | 7, _ | 8, _ | 9, _ | 10, _ | 11, _ => injection ho with ho; subst ho; simp [Region.binds]
  case dd =>
    intro k hk
    have hk' : k < 80 := by
      simp [RetN.D] at hk
      omega
    simpa using hk'
  case xx => simp
  case does =>
    intro i o ho
    have hi : i < 12 := by have := (Array.getElem?_eq_some_iff.1 ho).1; simpa using this
    match i, hi with
    | 0, _ => injection ho with ho; subst ho; exact RG.Does.read rfl (fun L v w' h => RG.SM.skip (by decide) (by decide) (by decide) h) (fun L a w' hI hd => ex_load_row rfl (hI.fix 2 (Reg.notD rfl) (by decide)) hI.world.inv.1 HD.out.1 HD.out.2.1 (by rw [hl1i.out.1]; exact size79))
    | 1, _ => injection ho with ho; subst ho; exact RG.Does.read rfl (fun L v w' h => RG.SM.skip (by decide) (by decide) (by decide) h) (fun L a w' hI hd => ex_move rfl (hI.fix 1 (Reg.notD rfl) (by decide)))
    | 2, _ => injection ho with ho; subst ho; exact RG.Does.read rfl (fun L v w' h => RG.SM.skip (by decide) (by decide) (by decide) h) (fun L a w' hI hd => ex_fieldo rfl (hI.fix 2 (Reg.notD rfl) (by decide)) (fieldK1 w' _))
    | 3, _ => injection ho with ho; subst ho; exact RG.Does.read rfl (fun L v w' h => RG.SM.skip (by decide) (by decide) (by decide) h) (fun L a w' hI hd => ex_load rfl (hI.pure 2 _ _ rfl (hd ⟨2, .data⟩ (by simp) rfl)) (agg_i w') (by have := hI.world.inv.1 6 _ q6; simpa using this))
    | 4, _ => injection ho with ho; subst ho; exact RG.Does.read rfl (fun L v w' h => RG.SM.skip (by decide) (by decide) (by decide) h) (fun L a w' hI hd => ex_move rfl (hI.fix 8 (Reg.notD rfl) (by decide)))
    | 5, _ => injection ho with ho; subst ho; exact RG.Does.read rfl (fun L v w' h => RG.SM.skip (by decide) (by decide) (by decide) h) (fun L a w' hI hd => ex_fieldo rfl (hI.fix 2 (Reg.notD rfl) (by decide)) (fieldK2 w' _))
    | 6, _ => injection ho with ho; subst ho; exact RG.Does.read rfl (fun L v w' h => RG.SM.skip (by decide) (by decide) (by decide) h) (fun L a w' hI hd => ex_fieldo rfl (hI.pure 5 _ _ rfl (hd ⟨5, .data⟩ (by simp) rfl)) (fieldJ4 w' _))
    | 7, _ => injection ho with ho; subst ho; exact RG.Does.read rfl (fun L v w' h => RG.SM.skip (by decide) (by decide) (by decide) h) (fun L a w' hI hd => ex_load rfl (hI.pure 6 _ _ rfl (hd ⟨6, .data⟩ (by simp) rfl)) (agg_u64 w') (by have := hI.world.inv.1 11 _ q11; simpa using this))
    | 8, _ => injection ho with ho; subst ho; exact RG.Does.call rfl (fun L a w' hI hd => call6 rfl (hI.pure 1 _ _ rfl (hd ⟨1, .data⟩ (by simp) rfl)) (hI.pure 3 _ _ rfl (hd ⟨3, .data⟩ (by simp) rfl)) rfl (hI.pure 4 _ _ rfl (hd ⟨4, .data⟩ (by simp) rfl)) rfl (hI.pure 7 _ _ rfl (hd ⟨7, .data⟩ (by simp) rfl)) rfl (callRDo' _ _)) (RG.SM.calls DC.out (by decide) (by decide))
    | 9, _ => injection ho with ho; subst ho; exact RG.Does.put (ls := la) rfl rfl rfl (by rw [hl1i.out.1]; exact size79) hl1i.out.2 (fun L a w' hI hL hd => ⟨(hI.pure 0 _ _ rfl (hd ⟨0, .data⟩ (by simp) rfl)), by obtain ⟨e2, e3⟩ := RG.SM.putC STB.out (by omega) hI.world; exact ⟨w.heap.size + 1, 0, hI.fix 4 (Reg.notD rfl) (by decide), e2, by show RG.SM _ _ _ _ _ (upd L 9 true 8) (upd L 9 true 9) (upd L 9 true 10) _; rw [upd_same, upd_other _ _ (show 8 ≠ 9 by decide), upd_other _ _ (show 10 ≠ 9 by decide)]; exact e3⟩⟩)
    | 10, _ => injection ho with ho; subst ho; exact RG.Does.put (ls := x.cells) rfl rfl rfl size46 (by simp [Stp.cells, Value.oneCell']) (fun L a w' hI hL hd => ⟨(hI.pure 8 _ _ rfl (hd ⟨8, .data⟩ (by simp) rfl)), by obtain ⟨e2, e3⟩ := RG.SM.putE STB.out (by omega) hI.world (hd ⟨8, .data⟩ (by simp) rfl); exact ⟨w.heap.size + 2, 0, hI.fix 5 (Reg.notD rfl) (by decide), e2, by show RG.SM _ _ _ _ _ (upd L 10 true 8) (upd L 10 true 9) (upd L 10 true 10) _; rw [upd_same, upd_other _ _ (show 8 ≠ 10 by decide), upd_other _ _ (show 9 ≠ 10 by decide)]; exact e3⟩⟩)
    | 11, _ => injection ho with ho; subst ho; exact RG.Does.read rfl (fun L v w' h => RG.SM.skip (by decide) (by decide) (by decide) h) (fun L a w' hI hd => ex_assign rfl rfl)
  case fin =>
    intro L a' w' hI hall
    rename_i K2 hK2
    refine hK2 _ _ ?_
    have hw := hI.world
    simp only [hall 8 (by decide), hall 9 (by decide), hall 10 (by decide)] at hw
    have rC := hw.stoC rfl
    have rD := hw.stoE rfl
    obtain ⟨p1, p2, p3⟩ := hw.inv
    have pC : a'.eval (.tmp 4) = .pointer (some ⟨w.heap.size + 1, 0, none⟩) := hI.fix 4 (Reg.notD rfl) (by decide)
    have pD : a'.eval (.tmp 5) = .pointer (some ⟨w.heap.size + 2, 0, none⟩) := hI.fix 5 (Reg.notD rfl) (by decide)
    have pe : a'.eval (.tmp 6) = .bool false := hI.pure 11 6 _ rfl (hall 11 (by decide))
    have hdf : a'.defers = [] := hI.df
    have hT := run_loadVar_mid (P := Try.prog) w' (w.heap.size + 1) 0 _ la dT rC HD.out.1 HD.out.2.1 (by rw [hl1i.out.1]; exact size79)
    have hS := run_loadVar_mid (P := Try.prog) w' (w.heap.size + 2) 0 _ _ dS rD HD.out.2.2.1 HD.out.2.2.2 size46
    have hres := results_cct (Q := Try.prog) (fn := Try.f54) (tmps := a'.tmps) (t := 4) (t' := 5) (t'' := 6) (W := w') (by rfl) pC hT pD hS
    rw [show a'.tmps.getD 6 undef = .bool false from pe] at hres
    go_wp2
    refine bodyPost_ret (v := .tuple #[.agg la.toArray, x.val, .bool false]) hres hdf ⟨rfl, by simpa using p2, ?_⟩
    have := HTW.out.trans' p3 (fun k hk h => by rcases h with h | h | h; exact h; omega; omega)
    exact ⟨this.os, this.tape, this.output, this.size, fun k hk hn => this.block k hk (by simpa using hn)⟩

set_option maxHeartbeats 8000000 in
theorem rw2_last {w : World} {g n cap : Nat} {f f' : Nat → Int} {x : Stp} {s0 s1 s2 s3 s4 s5 hand a b c hh r0 r2 r3 val : Int} {ok : Bool} (hr : IsRow w g n cap f) (hr1b : 1 ≤ s5 ∧ s5 ≤ 64) (hv : 0 ≤ hh ∧ hh ≤ 18446744073709551615)  (hx : stepOf n f ⟨hand, 2, s5, 0, hh, true⟩ = x) (hf' : wordsOf n f ⟨hand, 2, s5, 0, hh, true⟩ = f') :
    Calls Try.prog 54 #[.agg (tk ⟨s0, s1, s2, s3, s4, s5⟩ hand ⟨1, a, b, c, hh⟩ 2 ⟨r0, s5, r2, r3, 0, 0, 0, 0⟩ ⟨ok, val⟩).toArray, .slice (some ⟨g, 0, none⟩) n cap] w fun e w' =>
      e = .returned (.tuple #[.agg (tk ⟨s0, s1, s2, s3, s4, s5⟩ hand ⟨1, a, b, c, hh⟩ 3 ⟨r0, (s5 + 1), r2, r3, 0, 0, 0, 0⟩ ⟨ok, val⟩).toArray, x.val, .bool false]) ∧ IsRow w' g n cap f' ∧ w.grownBy w' (some g) := by
  have DO := hide (fun (w' : World) (hr' : IsRow w' g n cap f) => ref_do (s := ⟨hand, 2, s5, 0, hh, true⟩) hr' hv ⟨by show (1 : Int) ≤ 2; decide, by show (2 : Int) ≤ 5; decide⟩)
  have HX := hide hx
  have HF := hide hf'
  have lg := hr.lt
  obtain ⟨l0, hl0⟩ : ∃ l, tk ⟨s0, s1, s2, s3, s4, s5⟩ hand ⟨1, a, b, c, hh⟩ 2 ⟨r0, s5, r2, r3, 0, 0, 0, 0⟩ ⟨ok, val⟩ = l := ⟨_, rfl⟩
  have hl0' : l0.length = 28 := by rw [← hl0]; rfl
  have hset : ((l0.set 14 (.int .u64 (s5 + 1))).set 12 (.int .i64 3)) = tk ⟨s0, s1, s2, s3, s4, s5⟩ hand ⟨1, a, b, c, hh⟩ 3 ⟨r0, (s5 + 1), r2, r3, 0, 0, 0, 0⟩ ⟨ok, val⟩ := by rw [← hl0]; rfl
  obtain ⟨l1, hl1⟩ : ∃ l, tk ⟨s0, s1, s2, s3, s4, s5⟩ hand ⟨1, a, b, c, hh⟩ 3 ⟨r0, (s5 + 1), r2, r3, 0, 0, 0, 0⟩ ⟨ok, val⟩ = l := ⟨_, rfl⟩
  rw [hl0, hl1]
  rw [hl1] at hset
  have hl1i := hide (show IsTk l1 from by rw [← hl1]; exact tk_is _ _ _ _ _ _)
  obtain ⟨W3, hW3⟩ : ∃ W3, ((w.alloc (.cells l0.toArray 64)).alloc (.cells tk0.toArray 64)).alloc (.cells [Value.int .i64 0, .int .i64 0, .int .i64 0, .int .u64 0, .int .u64 0, .bool false].toArray 77) = W3 := ⟨_, rfl⟩
  have sz3 : W3.heap.size = w.heap.size + 3 := by rw [← hW3]; simp
  have R0 : W3.rowIs w.heap.size 64 28 (lrow l0) := by rw [← hW3]; exact ((rowL_alloc w l0 _ hl0').alloc _).alloc _
  have R1 : W3.rowIs (w.heap.size + 1) 64 28 (lrow tk0) := by
    rw [← hW3]
    have := (rowL_alloc (w.alloc (.cells l0.toArray 64)) tk0 64 (n := 28) rfl).alloc (.cells [Value.int .i64 0, .int .i64 0, .int .i64 0, .int .u64 0, .int .u64 0, .bool false].toArray 77)
    rwa [World.size_alloc] at this
  have R2 : W3.rowIs (w.heap.size + 2) 77 6 (lrow [Value.int .i64 0, .int .i64 0, .int .i64 0, .int .u64 0, .int .u64 0, .bool false]) := by
    rw [← hW3]
    have := rowL_alloc ((w.alloc (.cells l0.toArray 64)).alloc (.cells tk0.toArray 64)) [Value.int .i64 0, .int .i64 0, .int .i64 0, .int .u64 0, .int .u64 0, .bool false] 77 (n := 6) rfl
    rwa [World.size_alloc, World.size_alloc] at this
  have G3 : w.grownBy W3 (some g) := by rw [← hW3]; exact grown_alloc (grown_alloc (grown_alloc (grown_refl _ _) _) _) _
  have HR3 := hide (show IsRow W3 g n cap f from hr.grown (grown_none (by rw [← hW3]; exact grown_alloc (grown_alloc (grown_alloc (grown_refl _ _) _) _) _) none) (by simp))
  have cell : ∀ i v, l0[i]? = some v → W3.cell? ⟨w.heap.size, i, none⟩ = some v := fun i v hv => by rw [R0.cell (i := i) (by have := (List.getElem?_eq_some_iff.1 hv).1; omega), lrow_of hv]
  have g5 : l0[5]? = some (.int .i64 s5) := by rw [← hl0]; rfl
  have g6 : l0[6]? = some (.int .i64 hand) := by rw [← hl0]; rfl
  have g11 : l0[11]? = some (.int .u64 hh) := by rw [← hl0]; rfl
  have g12 : l0[12]? = some (.int .i64 2) := by rw [← hl0]; rfl
  have g14 : l0[14]? = some (.int .u64 s5) := by rw [← hl0]; rfl
  have c5 := cell 5 _ g5
  have c6 := cell 6 _ g6
  have c11 := cell 11 _ g11
  have c12 := cell 12 _ g12
  have c14 := cell 14 _ g14
  have G5 := hide g5
  have G6 := hide g6
  have G11 := hide g11
  have G12 := hide g12
  have G14 := hide g14
  obtain ⟨dT, hdT1, hdT2⟩ := row79
  obtain ⟨dS, hdS1, hdS2⟩ := row46
  have HD := hide (And.intro hdT1 (And.intro hdT2 (And.intro hdS1 hdS2)))
  have HR0 := hide R0
  have HR1 := hide R1
  have HR2 := hide R2
  have HG3 := hide G3
  have HSET := hide hset
  have HL0 := hide hl0'
  have b6 : IntKind.u64.wrap (s5 + 1) = s5 + 1 := by rw [IntKind.wrap_u64]; omega
  have b7 : wrap64 s5 = s5 := by unfold wrap64; omega
  have b8 : IntKind.i64.wrap s5 = s5 := by rw [IntKind.wrap_i64]; omega
  clear hx hf' hr R0 R1 R2 G3 cell hset hl0' hl0 hl1 hdT1 hdT2 hdS1 hdS2 hv g5 g6 g11 g12 g14
  simp only [tk0] at hW3
  have fz14 := HR0.out.frozen 14
  have fz12 := HR0.out.frozen 12
  obtain ⟨la, hla⟩ : ∃ l, ((l0.set 14 (.int .u64 (s5 + 1))).set 12 (.int .i64 3)) = l := ⟨_, rfl⟩
  have HLA := hide (show la.length = 28 from by rw [← hla]; simpa using HL0.out)
  have GA5 := hide (show la[5]? = some (.int .i64 s5) from by rw [← hla]; simp [G5.out])
  have GA6 := hide (show la[6]? = some (.int .i64 hand) from by rw [← hla]; simp [G6.out])
  have GA11 := hide (show la[11]? = some (.int .u64 hh) from by rw [← hla]; simp [G11.out])
  have GA12 := hide (show la[12]? = some (.int .i64 3) from by rw [← hla]; simp [HL0.out])
  have GA14 := hide (show la[14]? = some (.int .u64 (s5 + 1)) from by rw [← hla]; simp [HL0.out])
  obtain ⟨w2, hw2⟩ : ∃ w2, ((W3.setCell ⟨w.heap.size, 14, none⟩ (.int .u64 (s5 + 1))).setCell ⟨w.heap.size, 12, none⟩ (.int .i64 3)) = w2 := ⟨_, rfl⟩
  have sz2 : w2.heap.size = W3.heap.size := by rw [← hw2]; simp
  have tt2 : Touch W3 w2 (fun k => k = w.heap.size) := by rw [← hw2]; exact (Touch.setCell (S := fun k => k = w.heap.size) (Touch.setCell (S := fun k => k = w.heap.size) (Touch.refl W3 _) ⟨w.heap.size, 14, none⟩ (.inl rfl) _) ⟨w.heap.size, 12, none⟩ (.inl rfl) _)
  have HA0 := hide (show w2.rowIs w.heap.size 64 28 (lrow la) from by rw [← hw2, ← hla]; exact (rowIs.setL (rowIs.setL HR0.out (i := 14) (by simp [HL0.out]) (.int .u64 (s5 + 1))) (i := 12) (by simp [HL0.out]) (.int .i64 3)))
  have HA1 := hide (HR1.out.of_block (tt2.block _ (by omega) (by omega)))
  have HA2 := hide (HR2.out.of_block (tt2.block _ (by omega) (by omega)))
  have HA3 := hide (HR3.out.block (tt2.block g (by omega) (by omega)))
  have HGA := hide (show w.grownBy w2 (some g) from by rw [← hw2]; exact (grown_setCell (grown_setCell HG3.out _ (.inr (Nat.le_refl _)) _) _ (.inr (Nat.le_refl _)) _))
  have p5 : w2.cell? ⟨w.heap.size, 5, none⟩ = some (.int .i64 s5) := by rw [HA0.out.cell (i := 5) (by omega), lrow_of GA5.out]
  have p6 : w2.cell? ⟨w.heap.size, 6, none⟩ = some (.int .i64 hand) := by rw [HA0.out.cell (i := 6) (by omega), lrow_of GA6.out]
  have p11 : w2.cell? ⟨w.heap.size, 11, none⟩ = some (.int .u64 hh) := by rw [HA0.out.cell (i := 11) (by omega), lrow_of GA11.out]
  have p12 : w2.cell? ⟨w.heap.size, 12, none⟩ = some (.int .i64 3) := by rw [HA0.out.cell (i := 12) (by omega), lrow_of GA12.out]
  have p14 : w2.cell? ⟨w.heap.size, 14, none⟩ = some (.int .u64 (s5 + 1)) := by rw [HA0.out.cell (i := 14) (by omega), lrow_of GA14.out]
  have HSA := hide hla
  clear tt2 hla
  have hla : la = l1 := by rw [← HSA.out]; exact HSET.out
  subst hla
  have rA : w2.rangeAt w.heap.size 0 la := rowIs.range HA0.out HLA.out
  have tC : w2.there (w.heap.size + 1) 0 28 := rowIs.there HA1.out (by omega)
  have tD : w2.there (w.heap.size + 2) 0 6 := rowIs.there HA2.out (by omega)
  have HTW := hide (show Touch w w2 (fun k => k = g) from (Touch.of_grown HGA.out).mono (S' := fun k => k = g) (fun k _ h => by simpa using h))
  have q6 := GA6.out
  have q11 := GA11.out
  have STB := hide (show ∀ c w' w'', Touch w' w'' (fun k => k = w.heap.size + 1 ∨ k = w.heap.size + 2) → (fun (c : Bool) (w' : World) => w'.rangeAt w.heap.size 0 la ∧ IsRow w' g n cap (if c = true then f' else f) ∧ Touch w2 w' (fun k => k = g ∨ k = w.heap.size + 1 ∨ k = w.heap.size + 2)) c w' → (fun (c : Bool) (w' : World) => w'.rangeAt w.heap.size 0 la ∧ IsRow w' g n cap (if c = true then f' else f) ∧ Touch w2 w' (fun k => k = g ∨ k = w.heap.size + 1 ∨ k = w.heap.size + 2)) c w'' from fun c w' w'' ht ⟨p1, p2, p3⟩ => by
    have ls := p3.size
    exact ⟨rangeAt_block p1 (ht.block _ (by omega) (by omega)), p2.block (ht.block g (by omega) (by omega)), p3.trans' ht (fun k _ h => .inr h)⟩)
  have DC := hide (show ∀ w', (fun (c : Bool) (w' : World) => w'.rangeAt w.heap.size 0 la ∧ IsRow w' g n cap (if c = true then f' else f) ∧ Touch w2 w' (fun k => k = g ∨ k = w.heap.size + 1 ∨ k = w.heap.size + 2)) false w' → Calls Try.prog 55 #[.slice (some ⟨g, 0, none⟩) n cap, .int .i64 hand, .int .i64 2, .int .i64 (s5), .int .u64 0, .int .u64 hh] w' fun e w'' => e = .returned x.val ∧ (fun (c : Bool) (w' : World) => w'.rangeAt w.heap.size 0 la ∧ IsRow w' g n cap (if c = true then f' else f) ∧ Touch w2 w' (fun k => k = g ∨ k = w.heap.size + 1 ∨ k = w.heap.size + 2)) true w'' ∧ w''.heap[w.heap.size + 1]? = w'.heap[w.heap.size + 1]? ∧ w''.heap[w.heap.size + 2]? = w'.heap[w.heap.size + 2]? from fun w' ⟨p1, p2, p3⟩ => by
    have ls := p3.size
    refine (DO.out w' (by simpa using p2)).mono ?_
    rintro e w'' ⟨rfl, h1, h2⟩
    rw [HX.out]
    rw [HF.out] at h1
    exact ⟨rfl, ⟨rangeAt_block p1 (h2.block _ (by omega) (by simp; omega)), by simpa using h1, p3.trans' (Touch.of_grown h2) (fun k _ e => .inl (by simpa using e))⟩, h2.block _ (by omega) (by simp; omega), h2.block _ (by omega) (by simp; omega)⟩)
  go_enter Try.func54, Try.ntmps54
  go_wp2_with fail
  clear hw2 hW3 c5 c6 c11 c12 c14 p5 p6 p11 p12 p14
  refine RG.region (ks := [(0, 56), (1, 57), (2, 58), (3, 59), (4, 60), (5, 61), (6, 62), (7, 63), (8, 64), (11, 6)]) (vals := fun i => match i with
      | 0 => .agg la.toArray
      | 1 => .slice (some ⟨g, 0, none⟩) n cap
      | 2 => .pointer (some ⟨w.heap.size, 6, none⟩)
      | 3 => .int .i64 hand
      | 4 => .int .i64 s5
      | 5 => .pointer (some ⟨w.heap.size, 7, none⟩)
      | 6 => .pointer (some ⟨w.heap.size, 11, none⟩)
      | 7 => .int .u64 hh
      | 8 => .agg #[Value.int .i64 x.hand, .int .i64 x.act, .int .i64 x.at_, .int .u64 x.had, .int .u64 x.put, .bool x.ok]
      | 11 => .bool false
      | _ => undef) (x := 3) (WI := fun L v w' => RG.SM (fun (c : Bool) (w' : World) => w'.rangeAt w.heap.size 0 la ∧ IsRow w' g n cap (if c = true then f' else f) ∧ Touch w2 w' (fun k => k = g ∨ k = w.heap.size + 1 ∨ k = w.heap.size + 2)) (w.heap.size + 1) (w.heap.size + 2) la x (L 8) (L 9) (L 10) w') (by kernel_rfl) ?gg ?bk rfl ?dd ?xx (RG.SM.start ⟨rA, HA3.out, (Touch.refl w2 _).drew⟩ (by rw [hl1i.out.1]; exact tC) tD) ?does ?fin
  case gg =>
    intro i o ho
    have hi : i < 12 := by have := (Array.getElem?_eq_some_iff.1 ho).1; simpa using this
    match i, hi with
    | 0, _ | 1, _ | 2, _ | 3, _ | 4, _ | 5, _ | 6, _ | 7, _ | 8, _ | 9, _ | 10, _ | 11, _ => injection ho with ho; subst ho; rfl
  case bk =>
    intro i o ho
    have hi : i < 12 := by have := (Array.getElem?_eq_some_iff.1 ho).1; simpa using this
    match i, hi with
    | 0, _ | 1, _ | 2, _ | 3, _ | 4, _ | 5, _ | 6, _ | 7, _ | 8, _ | 9, _ | 10, _ | 11, _ => injection ho with ho; subst ho; simp [Region.binds]
  case dd =>
    intro k hk
    have hk' : k < 80 := by
      simp [RetN.D] at hk
      omega
    simpa using hk'
  case xx => simp
  case does =>
    intro i o ho
    have hi : i < 12 := by have := (Array.getElem?_eq_some_iff.1 ho).1; simpa using this
    match i, hi with
    | 0, _ => injection ho with ho; subst ho; exact RG.Does.read rfl (fun L v w' h => RG.SM.skip (by decide) (by decide) (by decide) h) (fun L a w' hI hd => ex_load_row rfl (hI.fix 2 (Reg.notD rfl) (by decide)) hI.world.inv.1 HD.out.1 HD.out.2.1 (by rw [hl1i.out.1]; exact size79))
    | 1, _ => injection ho with ho; subst ho; exact RG.Does.read rfl (fun L v w' h => RG.SM.skip (by decide) (by decide) (by decide) h) (fun L a w' hI hd => ex_move rfl (hI.fix 1 (Reg.notD rfl) (by decide)))
    | 2, _ => injection ho with ho; subst ho; exact RG.Does.read rfl (fun L v w' h => RG.SM.skip (by decide) (by decide) (by decide) h) (fun L a w' hI hd => ex_fieldo rfl (hI.fix 2 (Reg.notD rfl) (by decide)) (fieldK1 w' _))
    | 3, _ => injection ho with ho; subst ho; exact RG.Does.read rfl (fun L v w' h => RG.SM.skip (by decide) (by decide) (by decide) h) (fun L a w' hI hd => ex_load rfl (hI.pure 2 _ _ rfl (hd ⟨2, .data⟩ (by simp) rfl)) (agg_i w') (by have := hI.world.inv.1 6 _ q6; simpa using this))
    | 4, _ => injection ho with ho; subst ho; exact RG.Does.read rfl (fun L v w' h => RG.SM.skip (by decide) (by decide) (by decide) h) (fun L a w' hI hd => ex_move rfl (hI.fix 8 (Reg.notD rfl) (by decide)))
    | 5, _ => injection ho with ho; subst ho; exact RG.Does.read rfl (fun L v w' h => RG.SM.skip (by decide) (by decide) (by decide) h) (fun L a w' hI hd => ex_fieldo rfl (hI.fix 2 (Reg.notD rfl) (by decide)) (fieldK2 w' _))
    | 6, _ => injection ho with ho; subst ho; exact RG.Does.read rfl (fun L v w' h => RG.SM.skip (by decide) (by decide) (by decide) h) (fun L a w' hI hd => ex_fieldo rfl (hI.pure 5 _ _ rfl (hd ⟨5, .data⟩ (by simp) rfl)) (fieldJ4 w' _))
    | 7, _ => injection ho with ho; subst ho; exact RG.Does.read rfl (fun L v w' h => RG.SM.skip (by decide) (by decide) (by decide) h) (fun L a w' hI hd => ex_load rfl (hI.pure 6 _ _ rfl (hd ⟨6, .data⟩ (by simp) rfl)) (agg_u64 w') (by have := hI.world.inv.1 11 _ q11; simpa using this))
    | 8, _ => injection ho with ho; subst ho; exact RG.Does.call rfl (fun L a w' hI hd => call6 rfl (hI.pure 1 _ _ rfl (hd ⟨1, .data⟩ (by simp) rfl)) (hI.pure 3 _ _ rfl (hd ⟨3, .data⟩ (by simp) rfl)) rfl (hI.pure 4 _ _ rfl (hd ⟨4, .data⟩ (by simp) rfl)) rfl (hI.pure 7 _ _ rfl (hd ⟨7, .data⟩ (by simp) rfl)) rfl (callRDo' _ _)) (RG.SM.calls DC.out (by decide) (by decide))
    | 9, _ => injection ho with ho; subst ho; exact RG.Does.put (ls := la) rfl rfl rfl (by rw [hl1i.out.1]; exact size79) hl1i.out.2 (fun L a w' hI hL hd => ⟨(hI.pure 0 _ _ rfl (hd ⟨0, .data⟩ (by simp) rfl)), by obtain ⟨e2, e3⟩ := RG.SM.putC STB.out (by omega) hI.world; exact ⟨w.heap.size + 1, 0, hI.fix 4 (Reg.notD rfl) (by decide), e2, by show RG.SM _ _ _ _ _ (upd L 9 true 8) (upd L 9 true 9) (upd L 9 true 10) _; rw [upd_same, upd_other _ _ (show 8 ≠ 9 by decide), upd_other _ _ (show 10 ≠ 9 by decide)]; exact e3⟩⟩)
    | 10, _ => injection ho with ho; subst ho; exact RG.Does.put (ls := x.cells) rfl rfl rfl size46 (by simp [Stp.cells, Value.oneCell']) (fun L a w' hI hL hd => ⟨(hI.pure 8 _ _ rfl (hd ⟨8, .data⟩ (by simp) rfl)), by obtain ⟨e2, e3⟩ := RG.SM.putE STB.out (by omega) hI.world (hd ⟨8, .data⟩ (by simp) rfl); exact ⟨w.heap.size + 2, 0, hI.fix 5 (Reg.notD rfl) (by decide), e2, by show RG.SM _ _ _ _ _ (upd L 10 true 8) (upd L 10 true 9) (upd L 10 true 10) _; rw [upd_same, upd_other _ _ (show 8 ≠ 10 by decide), upd_other _ _ (show 9 ≠ 10 by decide)]; exact e3⟩⟩)
    | 11, _ => injection ho with ho; subst ho; exact RG.Does.read rfl (fun L v w' h => RG.SM.skip (by decide) (by decide) (by decide) h) (fun L a w' hI hd => ex_assign rfl rfl)
  case fin =>
    intro L a' w' hI hall
    rename_i K2 hK2
    refine hK2 _ _ ?_
    have hw := hI.world
    simp only [hall 8 (by decide), hall 9 (by decide), hall 10 (by decide)] at hw
    have rC := hw.stoC rfl
    have rD := hw.stoE rfl
    obtain ⟨p1, p2, p3⟩ := hw.inv
    have pC : a'.eval (.tmp 4) = .pointer (some ⟨w.heap.size + 1, 0, none⟩) := hI.fix 4 (Reg.notD rfl) (by decide)
    have pD : a'.eval (.tmp 5) = .pointer (some ⟨w.heap.size + 2, 0, none⟩) := hI.fix 5 (Reg.notD rfl) (by decide)
    have pe : a'.eval (.tmp 6) = .bool false := hI.pure 11 6 _ rfl (hall 11 (by decide))
    have hdf : a'.defers = [] := hI.df
    have hT := run_loadVar_mid (P := Try.prog) w' (w.heap.size + 1) 0 _ la dT rC HD.out.1 HD.out.2.1 (by rw [hl1i.out.1]; exact size79)
    have hS := run_loadVar_mid (P := Try.prog) w' (w.heap.size + 2) 0 _ _ dS rD HD.out.2.2.1 HD.out.2.2.2 size46
    have hres := results_cct (Q := Try.prog) (fn := Try.f54) (tmps := a'.tmps) (t := 4) (t' := 5) (t'' := 6) (W := w') (by rfl) pC hT pD hS
    rw [show a'.tmps.getD 6 undef = .bool false from pe] at hres
    go_wp2
    refine bodyPost_ret (v := .tuple #[.agg la.toArray, x.val, .bool false]) hres hdf ⟨rfl, by simpa using p2, ?_⟩
    have := HTW.out.trans' p3 (fun k hk h => by rcases h with h | h | h; exact h; omega; omega)
    exact ⟨this.os, this.tape, this.output, this.size, fun k hk hn => this.block k hk (by simpa using hn)⟩

end Seq
end Go.Proofs.Ytkiojiibppdjjaa
