/-
  Lemmas: ShadePW.
-/
import Derived.Test.YtnodkeoikamonaaGreatTp43
import Derived.Test.YtnodkeoikamonaaGreatTp46
/-
  ShadePlays: the law's own walk.
-/
namespace Go.Proofs.YtnodkeoikamonaaGreat
open Go.RowKit
set_option linter.unusedVariables false
set_option linter.unusedSimpArgs false
set_option linter.unnecessarySimpa false
set_option maxRecDepth 20000
namespace Shd
open L16
theorem fieldQ1 (w : World) (b : Nat) : (Instr.fieldAt 28 (.pointer (some ⟨b, 0, none⟩)) 1).run Tryz.prog w = .ok (.pointer (some ⟨b, 6, none⟩)) w := by simp [go_sem]
theorem fieldQ2 (w : World) (b : Nat) : (Instr.fieldAt 28 (.pointer (some ⟨b, 0, none⟩)) 2).run Tryz.prog w = .ok (.pointer (some ⟨b, 7, none⟩)) w := by simp [go_sem]
theorem fieldQ3 (w : World) (b : Nat) : (Instr.fieldAt 28 (.pointer (some ⟨b, 0, none⟩)) 3).run Tryz.prog w = .ok (.pointer (some ⟨b, 8, none⟩)) w := by simp [go_sem]
theorem aggW (w : World) : (isAgg 24).run Tryz.prog w = .ok false w := by simp [go_sem]
theorem aggH (w : World) : (isAgg 25).run Tryz.prog w = .ok false w := by simp [go_sem]
theorem aggN (w : World) : (isAgg 26).run Tryz.prog w = .ok false w := by simp [go_sem]
theorem callLent (args : Array Value) (w : World) : (callFunc 7 args).run Tryz.prog w = .ok (.enter 7 args) w := by simp [go_sem]
theorem callJobs (args : Array Value) (w : World) : (callFunc 8 args).run Tryz.prog w = .ok (.enter 8 args) w := by simp [go_sem]
theorem callNums (args : Array Value) (w : World) : (callFunc 9 args).run Tryz.prog w = .ok (.enter 9 args) w := by simp [go_sem]
theorem own_at {V : Vw} {D : Nat → Value → World → Prop} (h : L16.Owned V D) {base : Nat} {w : World} {sa wa aa : Option Addr} {sc wc ac : Nat} {en : Bool} {er : Int} (d : D base (.tuple #[.agg #[.slice sa V.k sc, .slice wa V.n wc, .bool en], .slice aa V.m ac, .int .i64 er]) w) : OV base w.heap.size w V.k V.n V.m V.dn sa wa aa := by
  obtain ⟨_, _, _, _, _, _, _, ev, ov⟩ := h.own d
  cases ev
  exact ov
variable {w : World} {ao aoh aos : Option Addr} {cap caph caps : Nat} {P : Par} {f : Nat → Int} {most : Int} {sh : Shp}
set_option maxHeartbeats 8000000 in
theorem bplays_walk (S : Sees w w.heap.size ao P.n f) (hnil : ao = none → P.n = 0 ∧ cap = 0) (hf : ∀ i, i < P.n → 0 ≤ f i ∧ f i ≤ 18446744073709551615) (SH : SeesH w w.heap.size aoh P.nh P.jn P.jb) (SI : SeesI w w.heap.size aos P.ns P.sched) (hjw : ∀ h, h < P.nh → ∀ j, j < P.jn h → (P.jb h j).wf)
    (hnlI : aos = none → P.ns = 0 ∧ caps = 0) (hnlH : ∀ h, h < P.nh → ∀ b off c, aoh = some ⟨b, off, none⟩ → w.cell? ⟨b, off + h, none⟩ = some (.slice none (P.jn h) c) → c = 0)
    (hb1 : (P.n + 1) * 8 ≤ 140737488355328) (hb2 : (P.nh + 1) * 24 ≤ 140737488355328) (hb3 : ∀ h, h < P.nh → (P.jn h + 1) * 40 ≤ 140737488355328) (hb4 : (P.ns + 1) * 8 ≤ 140737488355328) :
    Calls Tryz.prog 3 #[.agg #[.int .i64 sh.a, .int .i64 sh.b, .int .i64 sh.c, .int .i64 sh.d, .int .i64 sh.e, .int .i64 sh.f, .slice ao P.n cap, .slice aoh P.nh caph, .slice aos P.ns caps, .int .i64 most]] w fun e w' => e = .returned (.bool true) ∧ Below w.heap.size w w' := by
  obtain ⟨V, D, v1, v2, v3, v4, v7, v8, v5, v6⟩ := oviews2 sh P f most (by omega) hf hjw
  have ups : Hid (∀ w1, Below w.heap.size w w1 → Sees w1 w1.heap.size ao P.n f ∧ SeesH w1 w1.heap.size aoh P.nh P.jn P.jb ∧ SeesI w1 w1.heap.size aos P.ns P.sched) := fun w1 B1 =>
    ⟨(S.below B1 (Nat.le_refl _)).mono B1.size, (SH.below B1 (Nat.le_refl _)).up B1.size, (SI.below B1 (Nat.le_refl _)).up B1.size⟩
  have HRP := hide (fun (w1 : World) (B1 : Below w.heap.size w w1) => v5 w1 ao cap aoh caph aos caps (ups.out w1 B1).1 hnil (ups.out w1 B1).2.1 (ups.out w1 B1).2.2)
  have HPP := hide (fun (w1 : World) (B : Nat) (gw cw gh ch gs cs : Nat) (hB : B ≤ w1.heap.size) (L : Lent B w1 P f gw cw gh ch gs cs) => v6 w1 (some ⟨gw, 0, none⟩) cw (some ⟨gh, 0, none⟩) ch (some ⟨gs, 0, none⟩) cs (L.sees.mono hB) (L.seesH.up hB) (L.seesI.up hB))
  have HKP := hide (fun (w1 : World) (B : Nat) (gw cw gh ch gs cs : Nat) (hB : B ≤ w1.heap.size) (L : Lent B w1 P f gw cw gh ch gs cs) (B1 : Below w.heap.size w w1) => kept_any (cap := cap) (caph := caph) (caps := caps) L hB (ups.out w1 B1).1 (ups.out w1 B1).2.1 (ups.out w1 B1).2.2 (by omega) (by omega) (by omega) (fun h hh => by have := hb3 h hh; omega))
  have HL1 := hide (lent_c (cap := cap) S hnil hf hb1)
  have HL2 := hide (jobs_c (caph := caph) SH hnlH hb2 hb3)
  have HL3 := hide (nums_c (caps := caps) SI hnlI hb4)
  have OW := hide v8
  obtain ⟨k, s, n, f', en, m, dn, an, er⟩ := V
  simp only at v1 v2 v3 v4 v7
  have V4 := hide v4
  obtain ⟨s0, s1, s2, s3, s4, s5⟩ := sh
  simp only [Shp.val] at HRP HPP ⊢
  clear S SH SI hjw hnil hf v4 v5 v6 v8 ups hnlI hnlH hb1 hb2 hb3 hb4
  obtain ⟨W0, hW0⟩ : ∃ W0, w.alloc (.cells #[.int .i64 s0, .int .i64 s1, .int .i64 s2, .int .i64 s3, .int .i64 s4, .int .i64 s5, .slice ao P.n cap, .slice aoh P.nh caph, .slice aos P.ns caps, .int .i64 most] 28) = W0 := ⟨_, rfl⟩
  have b0 : Below w.heap.size w W0 := by rw [← hW0]; exact (Below.refl _ w).alloc (Nat.le_refl _) _
  have R0 : W0.rowIs w.heap.size 28 10 (lrow [.int .i64 s0, .int .i64 s1, .int .i64 s2, .int .i64 s3, .int .i64 s4, .int .i64 s5, .slice ao P.n cap, .slice aoh P.nh caph, .slice aos P.ns caps, .int .i64 most]) := by rw [← hW0]; exact rowL_alloc w [.int .i64 s0, .int .i64 s1, .int .i64 s2, .int .i64 s3, .int .i64 s4, .int .i64 s5, .slice ao P.n cap, .slice aoh P.nh caph, .slice aos P.ns caps, .int .i64 most] _ rfl
  have keep : Hid (∀ w' : World, Below W0.heap.size W0 w' → Below w.heap.size w w' ∧ w.heap.size < w'.heap.size ∧ w'.cell? ⟨w.heap.size, 0, none⟩ = some (.int .i64 s0) ∧ w'.cell? ⟨w.heap.size, 1, none⟩ = some (.int .i64 s1) ∧ w'.cell? ⟨w.heap.size, 2, none⟩ = some (.int .i64 s2) ∧ w'.cell? ⟨w.heap.size, 3, none⟩ = some (.int .i64 s3) ∧ w'.cell? ⟨w.heap.size, 4, none⟩ = some (.int .i64 s4) ∧ w'.cell? ⟨w.heap.size, 5, none⟩ = some (.int .i64 s5) ∧ w'.cell? ⟨w.heap.size, 6, none⟩ = some (.slice ao P.n cap) ∧ w'.cell? ⟨w.heap.size, 7, none⟩ = some (.slice aoh P.nh caph) ∧ w'.cell? ⟨w.heap.size, 8, none⟩ = some (.slice aos P.ns caps) ∧ w'.cell? ⟨w.heap.size, 9, none⟩ = some (.int .i64 most)) := fun w' hb => by
    have r := R0.of_block (hb.block w.heap.size R0.lt)
    exact ⟨b0.trans (hb.mono b0.size), r.lt, r.cell (i := 0) (by decide), r.cell (i := 1) (by decide), r.cell (i := 2) (by decide), r.cell (i := 3) (by decide), r.cell (i := 4) (by decide), r.cell (i := 5) (by decide), r.cell (i := 6) (by decide), r.cell (i := 7) (by decide), r.cell (i := 8) (by decide), r.cell (i := 9) (by decide)⟩
  have sz0 : W0.heap.size = w.heap.size + 1 := by rw [← hW0]; simp
  clear b0 R0
  go_enter Tryz.func3, Tryz.ntmps3
  go_wp2_with fail
  refine (awake_any W0).mono ?_
  rintro e w1 ⟨rfl, hb1⟩
  obtain ⟨bw1, l1, c0, c1, c2, c3, c4, c5, c6, c7, c8, c9⟩ := keep.out w1 hb1
  have HB1 := hide hb1
  have BW1 := hide bw1
  have hs1 := hb1.size
  clear hb1 bw1 hW0
  go_wp2_with fail
  refine (HRP.out w1 BW1.out).mono ?_
  rintro e w2 ⟨hb2, v, rfl, sa, sc, wa, wc, aa, ac, rfl, S2, W2, A2⟩
  have hs2 := hb2.size
  have B2 := hide (HB1.out.trans (hb2.mono hs1))
  have HS2 := hide S2
  have HW2 := hide W2
  have HA2 := hide A2
  clear hb2 S2 W2 A2 c0 c1 c2 c3 c4 c5 c6 c7 c8 c9
  simp only
  obtain ⟨W3, hW3⟩ : ∃ W3, w2.alloc (.cells #[.slice sa k sc, .slice wa n wc, .bool en] 32) = W3 := ⟨_, rfl⟩
  have B23 : Below w2.heap.size w2 W3 := by rw [← hW3]; exact (Below.refl _ w2).alloc (Nat.le_refl _) _
  have B03 := hide (B2.out.trans (B23.mono (Nat.le_trans hs1 hs2)))
  have R3 := hide (show W3.rowIs w2.heap.size 32 3 (lrow [.slice sa k sc, .slice wa n wc, .bool en]) from by rw [← hW3]; exact rowL_alloc w2 [.slice sa k sc, .slice wa n wc, .bool en] _ rfl)
  have HB23 := hide B23
  have hs3 : W3.heap.size = w2.heap.size + 1 := by rw [← hW3]; simp
  have s03 := B03.out.size
  clear B23
  go_wp2_with fail
  clear hW3
  refine RH.region (ks := [(0, 32), (1, 33), (3, 35), (4, 36), (6, 38), (7, 39)]) (vals := fun i => match i with
      | 0 => .pointer (some ⟨w.heap.size, 6, none⟩)
      | 1 => .slice ao P.n cap
      | 3 => .pointer (some ⟨w.heap.size, 7, none⟩)
      | 4 => .slice aoh P.nh caph
      | 6 => .pointer (some ⟨w.heap.size, 8, none⟩)
      | 7 => .slice aos P.ns caps
      | _ => undef) (xs := [34, 37, 40, 6, 7, 8]) (WI := fun L s w' => TW P f W3 (L 2) (L 5) (L 8) (L 9) (L 10) (L 11) s w') (by kernel_rfl) ?gg ?bk rfl ?dd ?xx (fun L s s' w' e h => h.local e) (fun s => ⟨below_drewN (Below.refl _ W3) 1, fun h => (by cases h), fun h => (by cases h), fun h => (by cases h), fun h => (by cases h), fun h => (by cases h), fun h => (by cases h)⟩) ?does ?fin
  case gg =>
    intro i o ho
    have hi : i < 12 := by have := (Array.getElem?_eq_some_iff.1 ho).1; simpa using this
    match i, hi with
    | 0, _ | 1, _ | 2, _ | 3, _ | 4, _ | 5, _ | 6, _ | 7, _ | 8, _ | 9, _ | 10, _ | 11, _ => injection ho with ho; subst ho; rfl
  case bk =>
    intro i o ho
    have hi : i < 12 := by have := (Array.getElem?_eq_some_iff.1 ho).1; simpa using this
    match i, hi with
    | 0, _ | 1, _ | 2, _ | 3, _ | 4, _ | 5, _ | 6, _ | 7, _ | 8, _ | 9, _ | 10, _ | 11, _ => injection ho with ho; subst ho; simp [Region.binds]
  case dd =>
    intro q hq
    have hq' : q < 123 := by
      simp [RetN.D] at hq
      omega
    simpa using hq'
  case xx =>
    intro q hq
    have hq' : q < 123 := by
      simp at hq
      omega
    simpa using hq'
  case does =>
    intro i o ho
    have hi : i < 12 := by have := (Array.getElem?_eq_some_iff.1 ho).1; simpa using this
    match i, hi with
    | 0, _ => injection ho with ho; subst ho; exact RH.Does.read rfl (fun L s w' h => TW.skip (by decide) (by decide) (by decide) (by decide) (by decide) (by decide) h) (fun L a w' hI hd => ex_fieldo rfl (hI.fix 1 (Reg.notD rfl) rfl) (fieldQ1 w' _))
    | 1, _ => injection ho with ho; subst ho; exact RH.Does.read rfl (fun L s w' h => TW.skip (by decide) (by decide) (by decide) (by decide) (by decide) (by decide) h) (fun L a w' hI hd => ex_load rfl (hI.pure 0 _ _ rfl (hd ⟨0, .data⟩ (by simp) rfl)) (aggW w') (by have hb := hI.world.bel; have hk := keep.out w' (B03.out.trans (hb.mono s03)); exact hk.2.2.2.2.2.2.2.2.1))
    | 2, _ => injection ho with ho; subst ho; exact RH.Does.call rfl rfl rfl (fun L a w' hI hd => call1 rfl (hI.pure 1 _ _ rfl (hd ⟨1, .data⟩ (by simp) rfl)) rfl (callLent _ _)) (fun L s w' h hL => (HL1.out w' (by have hb := h.bel; exact (keep.out w' (B03.out.trans (hb.mono s03))).1)).mono (by rintro e w'' ⟨v, rfl, hv, hbv⟩; refine ⟨v, rfl, ?_⟩; show TW P f W3 (upd L 2 true 2) (upd L 2 true 5) (upd L 2 true 8) (upd L 2 true 9) (upd L 2 true 10) (upd L 2 true 11) _ _; rw [upd_same, upd_other _ _ (show 5 ≠ 2 by decide), upd_other _ _ (show 8 ≠ 2 by decide), upd_other _ _ (show 9 ≠ 2 by decide), upd_other _ _ (show 10 ≠ 2 by decide), upd_other _ _ (show 11 ≠ 2 by decide)]; exact TW.lent h hL hbv hv))
    | 3, _ => injection ho with ho; subst ho; exact RH.Does.read rfl (fun L s w' h => TW.skip (by decide) (by decide) (by decide) (by decide) (by decide) (by decide) h) (fun L a w' hI hd => ex_fieldo rfl (hI.fix 1 (Reg.notD rfl) rfl) (fieldQ2 w' _))
    | 4, _ => injection ho with ho; subst ho; exact RH.Does.read rfl (fun L s w' h => TW.skip (by decide) (by decide) (by decide) (by decide) (by decide) (by decide) h) (fun L a w' hI hd => ex_load rfl (hI.pure 3 _ _ rfl (hd ⟨3, .data⟩ (by simp) rfl)) (aggH w') (by have hb := hI.world.bel; have hk := keep.out w' (B03.out.trans (hb.mono s03)); exact hk.2.2.2.2.2.2.2.2.2.1))
    | 5, _ => injection ho with ho; subst ho; exact RH.Does.call rfl rfl rfl (fun L a w' hI hd => call1 rfl (hI.pure 4 _ _ rfl (hd ⟨4, .data⟩ (by simp) rfl)) rfl (callJobs _ _)) (fun L s w' h hL => (HL2.out w' (by have hb := h.bel; exact (keep.out w' (B03.out.trans (hb.mono s03))).1)).mono (by rintro e w'' ⟨v, rfl, hv, hbv⟩; refine ⟨v, rfl, ?_⟩; show TW P f W3 (upd L 5 true 2) (upd L 5 true 5) (upd L 5 true 8) (upd L 5 true 9) (upd L 5 true 10) (upd L 5 true 11) _ _; rw [upd_same, upd_other _ _ (show 2 ≠ 5 by decide), upd_other _ _ (show 8 ≠ 5 by decide), upd_other _ _ (show 9 ≠ 5 by decide), upd_other _ _ (show 10 ≠ 5 by decide), upd_other _ _ (show 11 ≠ 5 by decide)]; exact TW.jobs h hL hbv hv))
    | 6, _ => injection ho with ho; subst ho; exact RH.Does.read rfl (fun L s w' h => TW.skip (by decide) (by decide) (by decide) (by decide) (by decide) (by decide) h) (fun L a w' hI hd => ex_fieldo rfl (hI.fix 1 (Reg.notD rfl) rfl) (fieldQ3 w' _))
    | 7, _ => injection ho with ho; subst ho; exact RH.Does.read rfl (fun L s w' h => TW.skip (by decide) (by decide) (by decide) (by decide) (by decide) (by decide) h) (fun L a w' hI hd => ex_load rfl (hI.pure 6 _ _ rfl (hd ⟨6, .data⟩ (by simp) rfl)) (aggN w') (by have hb := hI.world.bel; have hk := keep.out w' (B03.out.trans (hb.mono s03)); exact hk.2.2.2.2.2.2.2.2.2.2.1))
    | 8, _ => injection ho with ho; subst ho; exact RH.Does.call rfl rfl rfl (fun L a w' hI hd => call1 rfl (hI.pure 7 _ _ rfl (hd ⟨7, .data⟩ (by simp) rfl)) rfl (callNums _ _)) (fun L s w' h hL => (HL3.out w' (by have hb := h.bel; exact (keep.out w' (B03.out.trans (hb.mono s03))).1)).mono (by rintro e w'' ⟨v, rfl, hv, hbv⟩; refine ⟨v, rfl, ?_⟩; show TW P f W3 (upd L 8 true 2) (upd L 8 true 5) (upd L 8 true 8) (upd L 8 true 9) (upd L 8 true 10) (upd L 8 true 11) _ _; rw [upd_same, upd_other _ _ (show 2 ≠ 8 by decide), upd_other _ _ (show 5 ≠ 8 by decide), upd_other _ _ (show 9 ≠ 8 by decide), upd_other _ _ (show 10 ≠ 8 by decide), upd_other _ _ (show 11 ≠ 8 by decide)]; exact TW.nums h hL hbv hv))
    | 9, _ => injection ho with ho; subst ho; exact RH.Does.copy (x := 6) (y := 34) rfl rfl rfl rfl (fun ev w' => ex_assign rfl rfl) (fun L s w' h hL hd => by show TW P f W3 (upd L 9 true 2) (upd L 9 true 5) (upd L 9 true 8) (upd L 9 true 9) (upd L 9 true 10) (upd L 9 true 11) _ _; rw [upd_same, upd_other _ _ (show 2 ≠ 9 by decide), upd_other _ _ (show 5 ≠ 9 by decide), upd_other _ _ (show 8 ≠ 9 by decide), upd_other _ _ (show 10 ≠ 9 by decide), upd_other _ _ (show 11 ≠ 9 by decide)]; exact TW.c6 h (hd ⟨2, .data⟩ (by simp) rfl))
    | 10, _ => injection ho with ho; subst ho; exact RH.Does.copy (x := 7) (y := 37) rfl rfl rfl rfl (fun ev w' => ex_assign rfl rfl) (fun L s w' h hL hd => by show TW P f W3 (upd L 10 true 2) (upd L 10 true 5) (upd L 10 true 8) (upd L 10 true 9) (upd L 10 true 10) (upd L 10 true 11) _ _; rw [upd_same, upd_other _ _ (show 2 ≠ 10 by decide), upd_other _ _ (show 5 ≠ 10 by decide), upd_other _ _ (show 8 ≠ 10 by decide), upd_other _ _ (show 9 ≠ 10 by decide), upd_other _ _ (show 11 ≠ 10 by decide)]; exact TW.c7 h (hd ⟨5, .data⟩ (by simp) rfl))
    | 11, _ => injection ho with ho; subst ho; exact RH.Does.copy (x := 8) (y := 40) rfl rfl rfl rfl (fun ev w' => ex_assign rfl rfl) (fun L s w' h hL hd => by show TW P f W3 (upd L 11 true 2) (upd L 11 true 5) (upd L 11 true 8) (upd L 11 true 9) (upd L 11 true 10) (upd L 11 true 11) _ _; rw [upd_same, upd_other _ _ (show 2 ≠ 11 by decide), upd_other _ _ (show 5 ≠ 11 by decide), upd_other _ _ (show 8 ≠ 11 by decide), upd_other _ _ (show 9 ≠ 11 by decide), upd_other _ _ (show 10 ≠ 11 by decide)]; exact TW.c8 h (hd ⟨8, .data⟩ (by simp) rfl))
  case fin =>
    intro L a' w4 hI hall
    have hw := hI.world
    simp only [hall 2 (by decide), hall 5 (by decide), hall 8 (by decide), hall 9 (by decide), hall 10 (by decide), hall 11 (by decide)] at hw
    obtain ⟨gw, cw, gh, ch, gs, cs', e1, e2, e3, LT⟩ := lent_of (hw.a rfl) (hw.b rfl) (hw.c rfl)
    have e6 : a'.eval (.tmp 6) = .slice (some ⟨gw, 0, none⟩) P.n cw := (hw.d rfl).2.trans e1
    have e7 : a'.eval (.tmp 7) = .slice (some ⟨gh, 0, none⟩) P.nh ch := (hw.e rfl).2.trans e2
    have e8 : a'.eval (.tmp 8) = .slice (some ⟨gs, 0, none⟩) P.ns cs' := (hw.g rfl).2.trans e3
    have ea := act_all a' 123 (by rw [hI.sz]; rfl) hI.df
    simp only [List.range, List.range.loop, List.map] at ea
    rw [hI.fix 0 (Reg.notD rfl) rfl, hI.fix 1 (Reg.notD rfl) rfl, hI.fix 2 (Reg.notD rfl) rfl, hI.fix 3 (Reg.notD rfl) rfl, hI.fix 4 (Reg.notD rfl) rfl, hI.fix 5 (Reg.notD rfl) rfl, hI.fix 9 (Reg.notD rfl) rfl, hI.fix 10 (Reg.notD rfl) rfl, hI.fix 11 (Reg.notD rfl) rfl, hI.fix 12 (Reg.notD rfl) rfl, hI.fix 13 (Reg.notD rfl) rfl, hI.fix 14 (Reg.notD rfl) rfl, hI.fix 15 (Reg.notD rfl) rfl, hI.fix 16 (Reg.notD rfl) rfl, hI.fix 17 (Reg.notD rfl) rfl, hI.fix 18 (Reg.notD rfl) rfl, hI.fix 19 (Reg.notD rfl) rfl, hI.fix 20 (Reg.notD rfl) rfl, hI.fix 21 (Reg.notD rfl) rfl, hI.fix 22 (Reg.notD rfl) rfl, hI.fix 23 (Reg.notD rfl) rfl, hI.fix 24 (Reg.notD rfl) rfl, hI.fix 25 (Reg.notD rfl) rfl, hI.fix 26 (Reg.notD rfl) rfl, hI.fix 27 (Reg.notD rfl) rfl, hI.fix 28 (Reg.notD rfl) rfl, hI.fix 29 (Reg.notD rfl) rfl, hI.fix 30 (Reg.notD rfl) rfl, hI.fix 31 (Reg.notD rfl) rfl, hI.fix 41 (Reg.notD rfl) rfl, hI.fix 42 (Reg.notD rfl) rfl, hI.fix 43 (Reg.notD rfl) rfl, hI.fix 44 (Reg.notD rfl) rfl, hI.fix 45 (Reg.notD rfl) rfl, hI.fix 46 (Reg.notD rfl) rfl, hI.fix 47 (Reg.notD rfl) rfl, hI.fix 48 (Reg.notD rfl) rfl, hI.fix 49 (Reg.notD rfl) rfl, hI.fix 50 (Reg.notD rfl) rfl, hI.fix 51 (Reg.notD rfl) rfl, hI.fix 52 (Reg.notD rfl) rfl, hI.fix 53 (Reg.notD rfl) rfl, hI.fix 54 (Reg.notD rfl) rfl, hI.fix 55 (Reg.notD rfl) rfl, hI.fix 56 (Reg.notD rfl) rfl, hI.fix 57 (Reg.notD rfl) rfl, hI.fix 58 (Reg.notD rfl) rfl, hI.fix 59 (Reg.notD rfl) rfl, hI.fix 60 (Reg.notD rfl) rfl, hI.fix 61 (Reg.notD rfl) rfl, hI.fix 62 (Reg.notD rfl) rfl, hI.fix 63 (Reg.notD rfl) rfl, hI.fix 64 (Reg.notD rfl) rfl, hI.fix 65 (Reg.notD rfl) rfl, hI.fix 66 (Reg.notD rfl) rfl, hI.fix 67 (Reg.notD rfl) rfl, hI.fix 68 (Reg.notD rfl) rfl, hI.fix 69 (Reg.notD rfl) rfl, hI.fix 70 (Reg.notD rfl) rfl, hI.fix 71 (Reg.notD rfl) rfl, hI.fix 72 (Reg.notD rfl) rfl, hI.fix 73 (Reg.notD rfl) rfl, hI.fix 74 (Reg.notD rfl) rfl, hI.fix 75 (Reg.notD rfl) rfl, hI.fix 76 (Reg.notD rfl) rfl, hI.fix 77 (Reg.notD rfl) rfl, hI.fix 78 (Reg.notD rfl) rfl, hI.fix 79 (Reg.notD rfl) rfl, hI.fix 80 (Reg.notD rfl) rfl, hI.fix 81 (Reg.notD rfl) rfl, hI.fix 82 (Reg.notD rfl) rfl, hI.fix 83 (Reg.notD rfl) rfl, hI.fix 84 (Reg.notD rfl) rfl, hI.fix 85 (Reg.notD rfl) rfl, hI.fix 86 (Reg.notD rfl) rfl, hI.fix 87 (Reg.notD rfl) rfl, hI.fix 88 (Reg.notD rfl) rfl, hI.fix 89 (Reg.notD rfl) rfl, hI.fix 90 (Reg.notD rfl) rfl, hI.fix 91 (Reg.notD rfl) rfl, hI.fix 92 (Reg.notD rfl) rfl, hI.fix 93 (Reg.notD rfl) rfl, hI.fix 94 (Reg.notD rfl) rfl, hI.fix 95 (Reg.notD rfl) rfl, hI.fix 96 (Reg.notD rfl) rfl, hI.fix 97 (Reg.notD rfl) rfl, hI.fix 98 (Reg.notD rfl) rfl, hI.fix 99 (Reg.notD rfl) rfl, hI.fix 100 (Reg.notD rfl) rfl, hI.fix 101 (Reg.notD rfl) rfl, hI.fix 102 (Reg.notD rfl) rfl, hI.fix 103 (Reg.notD rfl) rfl, hI.fix 104 (Reg.notD rfl) rfl, hI.fix 105 (Reg.notD rfl) rfl, hI.fix 106 (Reg.notD rfl) rfl, hI.fix 107 (Reg.notD rfl) rfl, hI.fix 108 (Reg.notD rfl) rfl, hI.fix 109 (Reg.notD rfl) rfl, hI.fix 110 (Reg.notD rfl) rfl, hI.fix 111 (Reg.notD rfl) rfl, hI.fix 112 (Reg.notD rfl) rfl, hI.fix 113 (Reg.notD rfl) rfl, hI.fix 114 (Reg.notD rfl) rfl, hI.fix 115 (Reg.notD rfl) rfl, hI.fix 116 (Reg.notD rfl) rfl, hI.fix 117 (Reg.notD rfl) rfl, hI.fix 118 (Reg.notD rfl) rfl, hI.fix 119 (Reg.notD rfl) rfl, hI.fix 120 (Reg.notD rfl) rfl, hI.fix 121 (Reg.notD rfl) rfl, hI.fix 122 (Reg.notD rfl) rfl, e6, e7, e8] at ea
    have B4 := hide hw.bel
    have HLT := hide LT
    clear hI hall hw e1 e2 e3 e6 e7 e8 LT
    generalize a'.eval (.tmp 32) = u32 at ea
    generalize a'.eval (.tmp 33) = u33 at ea
    generalize a'.eval (.tmp 34) = u34 at ea
    generalize a'.eval (.tmp 35) = u35 at ea
    generalize a'.eval (.tmp 36) = u36 at ea
    generalize a'.eval (.tmp 37) = u37 at ea
    generalize a'.eval (.tmp 38) = u38 at ea
    generalize a'.eval (.tmp 39) = u39 at ea
    generalize a'.eval (.tmp 40) = u40 at ea
    simp only [show ∀ (ts : Array Value) (ds) (i : Nat), (Act.mk ts ds).eval (.tmp i) = ts.getD i undef from fun _ _ _ => rfl] at ea
    simp at ea
    subst ea
    have s34 := B4.out.size
    have B04 := hide (B03.out.trans (B4.out.mono s03))
    obtain ⟨bw4, l4, c0, c1, c2, c3, c4, c5, c6, c7, c8, c9⟩ := keep.out w4 B04.out
    have BW4 := hide bw4
    clear bw4
    go_wp2_with fail
    refine (HPP.out w4 w4.heap.size gw cw gh ch gs cs' (Nat.le_refl _) HLT.out).mono ?_
    rintro e w5 ⟨hb5, v, rfl, ⟨sa', sc', wa', wc', aa', ac', ev, S5, W5, A5⟩, hD⟩
    subst ev
    have hs5 := hb5.size
    have HB5 := hide hb5
    have HS5 := hide S5
    have HW5 := hide W5
    have HA5 := hide A5
    have HD5 := hide hD
    clear hb5 S5 W5 A5 hD c0 c1 c2 c3 c4 c5 c6 c7 c8 c9
    simp only
    obtain ⟨W6, hW6⟩ : ∃ W6, w5.alloc (.cells #[.slice sa' k sc', .slice wa' n wc', .bool en] 32) = W6 := ⟨_, rfl⟩
    have B56 : Below w5.heap.size w5 W6 := by rw [← hW6]; exact (Below.refl _ w5).alloc (Nat.le_refl _) _
    have R6 := hide (show W6.rowIs w5.heap.size 32 3 (lrow [.slice sa' k sc', .slice wa' n wc', .bool en]) from by rw [← hW6]; exact rowL_alloc w5 [.slice sa' k sc', .slice wa' n wc', .bool en] _ rfl)
    have hs6 : W6.heap.size = w5.heap.size + 1 := by rw [← hW6]; simp
    have HB56 := hide B56
    have B46 := hide (HB5.out.trans (B56.mono hs5))
    have B36 := hide (B4.out.trans (B46.out.mono s34))
    have B26 := hide (HB23.out.trans (B36.out.mono (by omega)))
    have B06 := hide (B03.out.trans (B36.out.mono s03))
    have s06 := B06.out.size
    have s46 := B46.out.size
    have l56 : w5.heap.size ≤ W6.heap.size := by omega
    have l26 : w2.heap.size ≤ W6.heap.size := by omega
    have HLT6 := hide (HLT.out.keep (fun q hq => B46.out.block q hq))
    have R36 := hide (R3.out.of_block (B36.out.block _ (by omega)))
    obtain ⟨bw6, l6, c0, c1, c2, c3, c4, c5, c6, c7, c8, c9⟩ := keep.out W6 B06.out
    have BW6 := hide bw6
    have e0 : W6.cell? ⟨w2.heap.size, 0, none⟩ = some (.slice sa k sc) := R36.out.cell (i := 0) (by omega)
    have e1 : W6.cell? ⟨w2.heap.size, 1, none⟩ = some (.slice wa n wc) := R36.out.cell (i := 1) (by omega)
    have e2 : W6.cell? ⟨w2.heap.size, 2, none⟩ = some (.bool en) := R36.out.cell (i := 2) (by omega)
    have d0 : W6.cell? ⟨w5.heap.size, 0, none⟩ = some (.slice sa' k sc') := R6.out.cell (i := 0) (by omega)
    have d1 : W6.cell? ⟨w5.heap.size, 1, none⟩ = some (.slice wa' n wc') := R6.out.cell (i := 1) (by omega)
    have d2 : W6.cell? ⟨w5.heap.size, 2, none⟩ = some (.bool en) := R6.out.cell (i := 2) (by omega)
    clear B56 bw6
    by_cases her : er = 0
    · subst her
      go_wp2_with (first
        | (go_at_call 11; refine (same_trace ((HS5.out.below HB56.out (Nat.le_refl _)).mono l56) ((HS2.out.below B26.out (Nat.le_refl _)).mono l26) ((HW5.out.below HB56.out (Nat.le_refl _)).mono l56) ((HW2.out.below B26.out (Nat.le_refl _)).mono l26) v2 v1).mono ?_; rintro e w7 ⟨rfl, hb7⟩; have HB7 := hide hb7; have hs7 := hb7.size; obtain ⟨bw7, l7, q0, q1, q2, q3, q4, q5, q6, q7, q8, q9⟩ := keep.out w7 (B06.out.trans (hb7.mono s06)); have BW7 := hide bw7; clear hb7 bw7)
        | (go_at_call 12; refine (HKP.out w7 w4.heap.size gw cw gh ch gs cs' (Nat.le_trans s46 hs7) (HLT6.out.keep (fun q hq => HB7.out.block q (Nat.lt_of_lt_of_le hq s46))) BW7.out).mono ?_; rintro e w8 ⟨rfl, hb8⟩; have HB8 := hide hb8; have hs8 := hb8.size; clear hb8 q0 q1 q2 q3 q4 q5 q6 q7 q8 q9)
        | (go_at_call 13; refine (same_answers ((((HA5.out.below HB56.out (Nat.le_refl _)).mono l56).below HB7.out (Nat.le_refl _)).mono hs7 |>.below HB8.out (Nat.le_refl _)) ((((HA2.out.below B26.out (Nat.le_refl _)).mono l26).below HB7.out (Nat.le_refl _)).mono hs7 |>.below HB8.out (Nat.le_refl _)) v3 V4.out).mono ?_; rintro e w9 ⟨rfl, m9, hw9⟩; have HB9 := hide (show Below w8.heap.size w8 w9 from by rw [hw9]; exact below_drewN (Below.refl _ w8) _); have hs9 := HB9.out.size; obtain ⟨bw9, l9, q0, q1, q2, q3, q4, q5, q6, q7, q8, q9⟩ := keep.out w9 (B06.out.trans (((HB7.out.trans (HB8.out.mono hs7)).trans (HB9.out.mono (Nat.le_trans hs7 hs8))).mono s06)); have BW9 := hide bw9; clear bw9 hw9))
      have B69 := hide (HB7.out.trans ((HB8.out.trans (HB9.out.mono hs8)).mono hs7))
      have s69 := B69.out.size
      have HLT9 := hide (HLT6.out.keep (fun q hq => B69.out.block q (by omega)))
      refine (HPP.out w9 w4.heap.size gw cw gh ch gs cs' (by omega) HLT9.out).mono ?_
      rintro e w10 ⟨hb10, v, rfl, ⟨su, tu, wu, xu, au, bu, ev, S10, W10, A10⟩, hD10⟩
      subst ev
      have hs10 := hb10.size
      have HB10 := hide hb10
      have HD10 := hide (hD10 (by simp))
      clear hb10 S10 W10 A10 hD10 q0 q1 q2 q3 q4 q5 q6 q7 q8 q9 c0 c1 c2 c3 c4 c5 c6 c7 c8 c9 e0 e1 e2 d0 d1 d2
      simp only
      obtain ⟨W11, hW11⟩ : ∃ W11, w10.alloc (.cells #[.slice su k tu, .slice wu n xu, .bool en] 32) = W11 := ⟨_, rfl⟩
      have B1011 : Below w10.heap.size w10 W11 := by rw [← hW11]; exact (Below.refl _ w10).alloc (Nat.le_refl _) _
      have R11 := hide (show W11.rowIs w10.heap.size 32 3 (lrow [.slice su k tu, .slice wu n xu, .bool en]) from by rw [← hW11]; exact rowL_alloc w10 [.slice su k tu, .slice wu n xu, .bool en] _ rfl)
      have hs11 : W11.heap.size = w10.heap.size + 1 := by rw [← hW11]; simp
      have T1011 := hide (show Touch w10 W11 (fun _ => False) from by rw [← hW11]; exact (Touch.refl w10 _).alloc _)
      have B911 := hide (HB10.out.trans (B1011.mono hs10))
      have B611 := hide (B69.out.trans (B911.out.mono s69))
      have HOV := hide ((own_at OW.out (HD5.out (by simp))).below (HB56.out.trans (B611.out.mono l56)))
      have R611 := hide (R6.out.of_block (B611.out.block _ (by omega)))
      have d0 : W11.cell? ⟨w5.heap.size, 0, none⟩ = some (.slice sa' k sc') := R611.out.cell (i := 0) (by omega)
      have d1 : W11.cell? ⟨w5.heap.size, 1, none⟩ = some (.slice wa' n wc') := R611.out.cell (i := 1) (by omega)
      have d2 : W11.cell? ⟨w5.heap.size, 2, none⟩ = some (.bool en) := R611.out.cell (i := 2) (by omega)
      clear B1011
      go_wp2_with fail
      refine (spoilt_any HOV.out v1 v2 v3 V4.out).mono ?_
      rintro e w12 ⟨rfl, t12⟩
      have hs12 := t12.size
      have B12 := hide (show Below w4.heap.size W11 w12 from ⟨t12.os, t12.tape, t12.output, t12.size, fun q hq => t12.block q (by omega) (by omega)⟩)
      have D12 := hide (OW.out.keep (OW.out.keep HD10.out T1011.out (fun q h => h.elim)) t12 (fun q h => by omega))
      obtain ⟨su', tu', wu', xu', au', bu', ev, Su, Wu, Au⟩ := OW.out.sees D12.out
      cases ev
      have HSu := hide Su
      have HWu := hide Wu
      have HAu := hide Au
      have RU := hide (R11.out.of_block (t12.block _ (by omega) (by omega)))
      have B0w := hide (show Below W0.heap.size W0 w12 from (B06.out.trans (B611.out.mono s06)).trans (B12.out.mono (by omega)))
      have B212 := hide (show Below w2.heap.size w2 w12 from (B26.out.trans (B611.out.mono l26)).trans (B12.out.mono (by omega)))
      have R312 := hide ((R36.out.of_block (B611.out.block _ (by omega))).of_block (B12.out.block _ (by omega)))
      have HLT12 := hide ((HLT9.out.keep (fun q hq => B911.out.block q (by omega))).keep (fun q hq => B12.out.block q hq))
      obtain ⟨bw12, l12, c0, c1, c2, c3, c4, c5, c6, c7, c8, c9⟩ := keep.out w12 B0w.out
      have BW12 := hide bw12
      have e0 : w12.cell? ⟨w2.heap.size, 0, none⟩ = some (.slice sa k sc) := R312.out.cell (i := 0) (by omega)
      have e1 : w12.cell? ⟨w2.heap.size, 1, none⟩ = some (.slice wa n wc) := R312.out.cell (i := 1) (by omega)
      have e2 : w12.cell? ⟨w2.heap.size, 2, none⟩ = some (.bool en) := R312.out.cell (i := 2) (by omega)
      have g0 : w12.cell? ⟨w10.heap.size, 0, none⟩ = some (.slice su k tu) := RU.out.cell (i := 0) (by omega)
      have g1 : w12.cell? ⟨w10.heap.size, 1, none⟩ = some (.slice wu n xu) := RU.out.cell (i := 1) (by omega)
      have g2 : w12.cell? ⟨w10.heap.size, 2, none⟩ = some (.bool en) := RU.out.cell (i := 2) (by omega)
      have l212 : w2.heap.size ≤ w12.heap.size := by omega
      have l412 : w4.heap.size ≤ w12.heap.size := by omega
      clear t12 bw12 d0 d1 d2
      go_wp2_with (first
        | (go_at_call 11; refine (same_trace HSu.out ((HS2.out.below B212.out (Nat.le_refl _)).mono l212) HWu.out ((HW2.out.below B212.out (Nat.le_refl _)).mono l212) v2 v1).mono ?_; rintro e w13 ⟨rfl, hb13⟩; have HB13 := hide hb13; have hs13 := hb13.size; clear hb13)
        | (go_at_call 13; refine (same_answers (HAu.out.below HB13.out (Nat.le_refl _)) (((HA2.out.below B212.out (Nat.le_refl _)).mono l212).below HB13.out (Nat.le_refl _)) v3 V4.out).mono ?_; rintro e w14 ⟨rfl, m14, hw14⟩; have HB14 := hide (show Below w13.heap.size w13 w14 from by rw [hw14]; exact below_drewN (Below.refl _ w13) _); have hs14 := HB14.out.size; obtain ⟨bw14, l14, q0, q1, q2, q3, q4, q5, q6, q7, q8, q9⟩ := keep.out w14 (B0w.out.trans ((HB13.out.trans (HB14.out.mono hs13)).mono B0w.out.size)); have BW14 := hide bw14; clear bw14 hw14)
        | (go_at_call 12; refine (HKP.out w14 w4.heap.size gw cw gh ch gs cs' (Nat.le_trans l412 (Nat.le_trans hs13 hs14)) (HLT12.out.keep (fun q hq => (HB13.out.trans (HB14.out.mono hs13)).block q (Nat.lt_of_lt_of_le hq l412))) BW14.out).mono ?_; rintro e w15 ⟨rfl, hb15⟩; have HB15 := hide hb15; clear hb15))
      go_ret
      exact ⟨rfl, BW14.out.trans (HB15.out.mono BW14.out.size)⟩
    · have hm0 := v7 her
      go_wp2_with (first
        | (go_at_call 11; refine (same_trace ((HS5.out.below HB56.out (Nat.le_refl _)).mono l56) ((HS2.out.below B26.out (Nat.le_refl _)).mono l26) ((HW5.out.below HB56.out (Nat.le_refl _)).mono l56) ((HW2.out.below B26.out (Nat.le_refl _)).mono l26) v2 v1).mono ?_; rintro e w7 ⟨rfl, hb7⟩; have HB7 := hide hb7; have hs7 := hb7.size; obtain ⟨bw7, l7, q0, q1, q2, q3, q4, q5, q6, q7, q8, q9⟩ := keep.out w7 (B06.out.trans (hb7.mono s06)); have BW7 := hide bw7; clear hb7 bw7)
        | (go_at_call 12; refine (HKP.out w7 w4.heap.size gw cw gh ch gs cs' (Nat.le_trans s46 hs7) (HLT6.out.keep (fun q hq => HB7.out.block q (Nat.lt_of_lt_of_le hq s46))) BW7.out).mono ?_; rintro e w8 ⟨rfl, hb8⟩; have HB8 := hide hb8; have hs8 := hb8.size; clear hb8 q0 q1 q2 q3 q4 q5 q6 q7 q8 q9))
      subst hm0
      go_ret
      exact ⟨rfl, BW7.out.trans (HB8.out.mono BW7.out.size)⟩
end Shd
end Go.Proofs.YtnodkeoikamonaaGreat
