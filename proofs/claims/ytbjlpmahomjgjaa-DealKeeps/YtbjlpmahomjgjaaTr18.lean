/-
  Lemmas: DealRB.
-/
import Derived.Test.YtbjlpmahomjgjaaTr16
set_option linter.unusedVariables false
set_option linter.unusedSimpArgs false
set_option linter.unnecessarySimpa false
set_option maxRecDepth 20000
namespace Go.Proofs.Ytbjlpmahomjgjaa
open Go.RowKit
namespace Deal

set_option maxHeartbeats 8000000 in
theorem rl3 {w : World} {g n cap : Nat} {f f' : Nat → Int} {x : Stp} {s0 s1 s2 s3 s4 s5 hand a b c hh r0 r1 r2 r3 val : Int} {ok : Bool} (hr : IsRow w g n cap f) {pl : Int} (hs : 1 ≤ s5 ∧ s5 ≤ 64) (h0 : 0 ≤ r0 ∧ r0 ≤ 18446744073709551615) (hpl : plc s5 r0 = pl) (hv : 0 ≤ hh ∧ hh ≤ 18446744073709551615)  (hx : stepOf n f ⟨hand, 2, pl, 0, hh, true⟩ = x) (hf' : wordsOf n f ⟨hand, 2, pl, 0, hh, true⟩ = f') :
    Calls Try.prog 85 #[.agg (tk ⟨s0, s1, s2, s3, s4, s5⟩ hand ⟨1, a, b, c, hh⟩ 3 ⟨r0, r1, r2, r3, 0, 0, 0, 0⟩ ⟨ok, val⟩).toArray, .slice (some ⟨g, 0, none⟩) n cap] w fun e w' =>
      e = .returned (.tuple #[.agg (tk ⟨s0, s1, s2, s3, s4, s5⟩ hand ⟨1, a, b, c, hh⟩ 4 ⟨r0, r1, r2, r3, 0, 0, 0, 0⟩ ⟨ok, val⟩).toArray, x.val, .bool false]) ∧ IsRow w' g n cap f' ∧ w.grownBy w' (some g) := by
  have DO := hide (fun (w' : World) (hr' : IsRow w' g n cap f) => ref_do (s := ⟨hand, 2, pl, 0, hh, true⟩) hr' hv ⟨by show (1 : Int) ≤ 2; decide, by show (2 : Int) ≤ 5; decide⟩)
  have HX := hide hx
  have HF := hide hf'
  have lg := hr.lt
  obtain ⟨l0, hl0⟩ : ∃ l, tk ⟨s0, s1, s2, s3, s4, s5⟩ hand ⟨1, a, b, c, hh⟩ 3 ⟨r0, r1, r2, r3, 0, 0, 0, 0⟩ ⟨ok, val⟩ = l := ⟨_, rfl⟩
  have hl0' : l0.length = 28 := by rw [← hl0]; rfl
  have hl0i := hide (show IsTk l0 from by rw [← hl0]; exact tk_is _ _ _ _ _ _)
  have hset : (l0.set 12 (.int .i64 4)) = tk ⟨s0, s1, s2, s3, s4, s5⟩ hand ⟨1, a, b, c, hh⟩ 4 ⟨r0, r1, r2, r3, 0, 0, 0, 0⟩ ⟨ok, val⟩ := by rw [← hl0] <;> rfl
  obtain ⟨l1, hl1⟩ : ∃ l, tk ⟨s0, s1, s2, s3, s4, s5⟩ hand ⟨1, a, b, c, hh⟩ 4 ⟨r0, r1, r2, r3, 0, 0, 0, 0⟩ ⟨ok, val⟩ = l := ⟨_, rfl⟩
  rw [hl0, hl1]
  rw [hl1] at hset
  have hl1i := hide (show IsTk l1 from by rw [← hl1]; exact tk_is _ _ _ _ _ _)
  obtain ⟨W3, hW3, sz3, R0, R1, R2, R3, G3, R4, cell⟩ := RPre.pre hr hl0'
  have HR3 := hide R4
  have g5 : l0[5]? = some (.int .i64 s5) := by rw [← hl0]; rfl
  have g6 : l0[6]? = some (.int .i64 hand) := by rw [← hl0]; rfl
  have g11 : l0[11]? = some (.int .u64 hh) := by rw [← hl0]; rfl
  have g12 : l0[12]? = some (.int .i64 3) := by rw [← hl0]; rfl
  have g13 : l0[13]? = some (.int .u64 r0) := by rw [← hl0]; rfl
  have c5 := cell 5 _ g5
  have c6 := cell 6 _ g6
  have c11 := cell 11 _ g11
  have c12 := cell 12 _ g12
  have c13 := cell 13 _ g13
  have G5 := hide g5
  have G6 := hide g6
  have G11 := hide g11
  have G12 := hide g12
  have G13 := hide g13
  obtain ⟨dT, hdT1, hdT2⟩ := row79
  obtain ⟨dS, hdS1, hdS2⟩ := row46
  have HD := hide (And.intro hdT1 (And.intro hdT2 (And.intro hdS1 hdS2)))
  have HR0 := hide R0
  have HR1 := hide R1
  have HR2 := hide R2
  have HRS := hide R3
  have HG3 := hide G3
  have HSET := hide hset
  have HL0 := hide hl0'
  have v2 : wrap64 2 = 2 := by unfold wrap64; omega
  have v3 : wrap64 3 = 3 := by unfold wrap64; omega
  have v4 : wrap64 4 = 4 := by unfold wrap64; omega
  have HSS := hide hs
  have HPB := hide h0
  have HPL := hide hpl
  clear hx hf' hr R0 R1 R2 R3 R4 G3 cell hset hl0' hl0 hl1 hdT1 hdT2 hdS1 hdS2 hs h0 hpl hv g5 g6 g11 g12 g13
  simp only [tk0, RPre.ZL] at hW3
  have STB := hide (show ∀ c w' w'', Below W3.heap.size w' w'' → W3.heap.size ≤ w'.heap.size → (fun (c : Bool) (w' : World) => w'.rowIs w.heap.size 91 28 (lrow l0) ∧ w'.rowIs (w.heap.size + 1) 91 28 (lrow tk0) ∧ w'.rowIs (w.heap.size + 2) 63 6 (lrow [Value.int .i64 0, .int .i64 0, .int .i64 0, .int .u64 0, .int .u64 0, .bool false]) ∧ IsRow w' g n cap (if c = true then f' else f) ∧ Touch W3 w' (fun k => k = g ∨ k = w.heap.size + 3)) c w' → (fun (c : Bool) (w' : World) => w'.rowIs w.heap.size 91 28 (lrow l0) ∧ w'.rowIs (w.heap.size + 1) 91 28 (lrow tk0) ∧ w'.rowIs (w.heap.size + 2) 63 6 (lrow [Value.int .i64 0, .int .i64 0, .int .i64 0, .int .u64 0, .int .u64 0, .bool false]) ∧ IsRow w' g n cap (if c = true then f' else f) ∧ Touch W3 w' (fun k => k = g ∨ k = w.heap.size + 3)) c w'' from fun c w' w'' hb hs ⟨p1, p2, p3, p4, p5⟩ =>
    ⟨p1.of_block (hb.block _ (by omega)), p2.of_block (hb.block _ (by omega)), p3.of_block (hb.block _ (by omega)), p4.block (hb.block g (by omega)), ⟨hb.os.trans p5.os, hb.tape.trans p5.tape, hb.output.trans p5.output, Nat.le_trans p5.size hb.size, fun k hk hn => (hb.block k hk).trans (p5.block k hk hn)⟩⟩)
  have STT := hide (show ∀ c w' w'', Touch w' w'' (fun k => k = w.heap.size + 3) → (fun (c : Bool) (w' : World) => w'.rowIs w.heap.size 91 28 (lrow l0) ∧ w'.rowIs (w.heap.size + 1) 91 28 (lrow tk0) ∧ w'.rowIs (w.heap.size + 2) 63 6 (lrow [Value.int .i64 0, .int .i64 0, .int .i64 0, .int .u64 0, .int .u64 0, .bool false]) ∧ IsRow w' g n cap (if c = true then f' else f) ∧ Touch W3 w' (fun k => k = g ∨ k = w.heap.size + 3)) c w' → (fun (c : Bool) (w' : World) => w'.rowIs w.heap.size 91 28 (lrow l0) ∧ w'.rowIs (w.heap.size + 1) 91 28 (lrow tk0) ∧ w'.rowIs (w.heap.size + 2) 63 6 (lrow [Value.int .i64 0, .int .i64 0, .int .i64 0, .int .u64 0, .int .u64 0, .bool false]) ∧ IsRow w' g n cap (if c = true then f' else f) ∧ Touch W3 w' (fun k => k = g ∨ k = w.heap.size + 3)) c w'' from fun c w' w'' hb ⟨p1, p2, p3, p4, p5⟩ =>
    ⟨p1.of_block (hb.block _ p1.lt (by omega)), p2.of_block (hb.block _ p2.lt (by omega)), p3.of_block (hb.block _ p3.lt (by omega)), p4.block (hb.block g p4.lt (by omega)), p5.trans' hb (fun k _ h => .inr h)⟩)
  have DC := hide (show ∀ w', (fun (c : Bool) (w' : World) => w'.rowIs w.heap.size 91 28 (lrow l0) ∧ w'.rowIs (w.heap.size + 1) 91 28 (lrow tk0) ∧ w'.rowIs (w.heap.size + 2) 63 6 (lrow [Value.int .i64 0, .int .i64 0, .int .i64 0, .int .u64 0, .int .u64 0, .bool false]) ∧ IsRow w' g n cap (if c = true then f' else f) ∧ Touch W3 w' (fun k => k = g ∨ k = w.heap.size + 3)) false w' → W3.heap.size ≤ w'.heap.size → Calls Try.prog 75 #[.slice (some ⟨g, 0, none⟩) n cap, .int .i64 hand, .int .i64 2, .int .i64 (pl), .int .u64 0, .int .u64 hh] w' fun e w'' => e = .returned x.val ∧ (fun (c : Bool) (w' : World) => w'.rowIs w.heap.size 91 28 (lrow l0) ∧ w'.rowIs (w.heap.size + 1) 91 28 (lrow tk0) ∧ w'.rowIs (w.heap.size + 2) 63 6 (lrow [Value.int .i64 0, .int .i64 0, .int .i64 0, .int .u64 0, .int .u64 0, .bool false]) ∧ IsRow w' g n cap (if c = true then f' else f) ∧ Touch W3 w' (fun k => k = g ∨ k = w.heap.size + 3)) true w'' ∧ w''.heap[w.heap.size + 3]? = w'.heap[w.heap.size + 3]? ∧ W3.heap.size ≤ w''.heap.size from fun w' ⟨p1, p2, p3, p4, p5⟩ ls => by
    refine (DO.out w' (by simpa using p4)).mono ?_
    rintro e w'' ⟨rfl, h1, h2⟩
    rw [HX.out]
    rw [HF.out] at h1
    exact ⟨rfl, ⟨p1.of_block (h2.block _ (by omega) (by simp; omega)), p2.of_block (h2.block _ (by omega) (by simp; omega)), p3.of_block (h2.block _ (by omega) (by simp; omega)), by simpa using h1, p5.trans' (Touch.of_grown h2) (fun k _ e => .inl (by simpa using e))⟩, h2.block _ (by omega) (by simp; omega), Nat.le_trans ls h2.size⟩)
  go_enter Try.func85, Try.ntmps85
  go_wp2_with fail
  clear hW3 c5 c6 c11 c12 c13
  refine RG.region (ks := [(0, 55), (1, 56), (2, 57), (3, 58), (4, 59), (5, 60), (6, 61), (7, 62), (8, 63), (9, 64), (10, 65), (11, 66)]) (vals := fun i => match i with
      | 0 => .slice (some ⟨g, 0, none⟩) n cap
      | 1 => .pointer (some ⟨w.heap.size, 6, none⟩)
      | 2 => .int .i64 hand
      | 3 => .agg l0.toArray
      | 4 => .pointer (some ⟨w.heap.size, 13, none⟩)
      | 5 => .pointer (some ⟨w.heap.size, 13, none⟩)
      | 6 => .int .u64 r0
      | 7 => .int .i64 pl
      | 8 => .pointer (some ⟨w.heap.size, 7, none⟩)
      | 9 => .pointer (some ⟨w.heap.size, 11, none⟩)
      | 10 => .int .u64 hh
      | 11 => .agg #[Value.int .i64 x.hand, .int .i64 x.act, .int .i64 x.at_, .int .u64 x.had, .int .u64 x.put, .bool x.ok]
      | _ => undef) (x := 3) (WI := fun L v w' => RG.SN (fun (c : Bool) (w' : World) => w'.rowIs w.heap.size 91 28 (lrow l0) ∧ w'.rowIs (w.heap.size + 1) 91 28 (lrow tk0) ∧ w'.rowIs (w.heap.size + 2) 63 6 (lrow [Value.int .i64 0, .int .i64 0, .int .i64 0, .int .u64 0, .int .u64 0, .bool false]) ∧ IsRow w' g n cap (if c = true then f' else f) ∧ Touch W3 w' (fun k => k = g ∨ k = w.heap.size + 3)) W3.heap.size (w.heap.size + 3) x (L 11) (L 12) w') (by kernel_rfl) ?gg ?bk rfl ?dd ?xx (RG.SN.start ⟨HR0.out.drew, HR1.out.drew, HR2.out.drew, HR3.out.block rfl, (Touch.refl W3 _).drew⟩ (Nat.le_refl _) (rowIs.there (HRS.out.drew) (by simp [Stp.cells]))) ?does ?fin
  case gg =>
    intro i o ho
    have hi : i < 13 := by have := (Array.getElem?_eq_some_iff.1 ho).1; simpa using this
    match i, hi with
    | 0, _ | 1, _ | 2, _ | 3, _ | 4, _ | 5, _ | 6, _ | 7, _ | 8, _ | 9, _ | 10, _ | 11, _ | 12, _ => injection ho with ho; subst ho; rfl
  case bk =>
    intro i o ho
    have hi : i < 13 := by have := (Array.getElem?_eq_some_iff.1 ho).1; simpa using this
    match i, hi with
    | 0, _ | 1, _ | 2, _ | 3, _ | 4, _ | 5, _ | 6, _ | 7, _ | 8, _ | 9, _ | 10, _ | 11, _ | 12, _ => injection ho with ho; subst ho; simp [Region.binds]
  case dd =>
    intro k hk
    have hk' : k < 73 := by
      simp [RetN.D] at hk
      omega
    simpa using hk'
  case xx => simp
  case does =>
    intro i o ho
    have hi : i < 13 := by have := (Array.getElem?_eq_some_iff.1 ho).1; simpa using this
    match i, hi with
    | 0, _ => injection ho with ho; subst ho; exact RG.Does.read rfl (fun L v w' h => RG.SN.skip (by decide) (by decide) h) (fun L a w' hI hd => ex_move rfl (hI.fix 1 (Reg.notD rfl) (by decide)))
    | 1, _ => injection ho with ho; subst ho; exact RG.Does.read rfl (fun L v w' h => RG.SN.skip (by decide) (by decide) h) (fun L a w' hI hd => ex_fieldo rfl (hI.fix 2 (Reg.notD rfl) (by decide)) (fieldK1 w' _))
    | 2, _ => injection ho with ho; subst ho; exact RG.Does.read rfl (fun L v w' h => RG.SN.skip (by decide) (by decide) h) (fun L a w' hI hd => ex_load rfl (hI.pure 1 _ _ rfl (hd ⟨1, .data⟩ (by simp) rfl)) (agg_i w') ((hI.world.inv.1.cell (i := 6) (by omega)).trans (congrArg some (lrow_of G6.out))))
    | 3, _ => injection ho with ho; subst ho; exact RG.Does.read rfl (fun L v w' h => RG.SN.skip (by decide) (by decide) h) (fun L a w' hI hd => ex_load_row rfl (hI.fix 2 (Reg.notD rfl) (by decide)) (rowIs.range hI.world.inv.1 HL0.out) HD.out.1 HD.out.2.1 (by rw [HL0.out]; exact size79))
    | 4, _ => injection ho with ho; subst ho; exact RG.Does.read rfl (fun L v w' h => RG.SN.skip (by decide) (by decide) h) (fun L a w' hI hd => ex_fieldo rfl (hI.fix 2 (Reg.notD rfl) (by decide)) (fieldK4 w' _))
    | 5, _ => injection ho with ho; subst ho; exact RG.Does.read rfl (fun L v w' h => RG.SN.skip (by decide) (by decide) h) (fun L a w' hI hd => ex_r0 rfl (hI.pure 4 _ _ rfl (hd ⟨4, .data⟩ (by simp) rfl)) rfl)
    | 6, _ => injection ho with ho; subst ho; exact RG.Does.read rfl (fun L v w' h => RG.SN.skip (by decide) (by decide) h) (fun L a w' hI hd => ex_load rfl (hI.pure 5 _ _ rfl (hd ⟨5, .data⟩ (by simp) rfl)) (agg_u64 w') ((hI.world.inv.1.cell (i := 13) (by omega)).trans (congrArg some (lrow_of G13.out))))
    | 7, _ => injection ho with ho; subst ho; exact RG.Does.call rfl (fun L a w' hI hd => call2 rfl (hI.pure 3 _ _ rfl (hd ⟨3, .data⟩ (by simp) rfl)) (hI.pure 6 _ _ rfl (hd ⟨6, .data⟩ (by simp) rfl)) rfl (callRPlace _ _)) (fun L v w' h hL => (rplace_any hl0i.out G5.out HSS.out HPB.out w').mono (by rintro e w'' ⟨rfl, hg⟩; exact ⟨congrArg (fun z => Ending.returned (.int .i64 z)) HPL.out, RG.SN.skip (by decide) (by decide) (RG.SN.grow STB.out (by omega) h (below_of_grown_none hg _ h.le))⟩))
    | 8, _ => injection ho with ho; subst ho; exact RG.Does.read rfl (fun L v w' h => RG.SN.skip (by decide) (by decide) h) (fun L a w' hI hd => ex_fieldo rfl (hI.fix 2 (Reg.notD rfl) (by decide)) (fieldK2 w' _))
    | 9, _ => injection ho with ho; subst ho; exact RG.Does.read rfl (fun L v w' h => RG.SN.skip (by decide) (by decide) h) (fun L a w' hI hd => ex_fieldo rfl (hI.pure 8 _ _ rfl (hd ⟨8, .data⟩ (by simp) rfl)) (fieldJ4 w' _))
    | 10, _ => injection ho with ho; subst ho; exact RG.Does.read rfl (fun L v w' h => RG.SN.skip (by decide) (by decide) h) (fun L a w' hI hd => ex_load rfl (hI.pure 9 _ _ rfl (hd ⟨9, .data⟩ (by simp) rfl)) (agg_u64 w') ((hI.world.inv.1.cell (i := 11) (by omega)).trans (congrArg some (lrow_of G11.out))))
    | 11, _ => injection ho with ho; subst ho; exact RG.Does.call rfl (fun L a w' hI hd => call6 rfl (hI.pure 0 _ _ rfl (hd ⟨0, .data⟩ (by simp) rfl)) (hI.pure 2 _ _ rfl (hd ⟨2, .data⟩ (by simp) rfl)) rfl (hI.pure 7 _ _ rfl (hd ⟨7, .data⟩ (by simp) rfl)) rfl (hI.pure 10 _ _ rfl (hd ⟨10, .data⟩ (by simp) rfl)) rfl (callRDo' _ _)) (RG.SN.calls DC.out (by decide))
    | 12, _ => injection ho with ho; subst ho; exact RG.Does.put (ls := x.cells) rfl rfl rfl size46 (by simp [Stp.cells, Value.oneCell']) (fun L a w' hI hL hd => ⟨(hI.pure 11 _ _ rfl (hd ⟨11, .data⟩ (by simp) rfl)), by obtain ⟨e2, e3⟩ := RG.SN.put STT.out hI.world (hd ⟨11, .data⟩ (by simp) rfl); exact ⟨w.heap.size + 3, 0, hI.fix 7 (Reg.notD rfl) (by decide), e2, by show RG.SN _ _ _ _ (upd L 12 true 11) (upd L 12 true 12) _; rw [upd_same, upd_other _ _ (show 11 ≠ 12 by decide)]; exact e3⟩⟩)
  case fin =>
    intro L a' V1 hI hall
    have hw := hI.world
    simp only [hall 11 (by decide), hall 12 (by decide)] at hw
    have hrq := hw.sto rfl
    obtain ⟨p1, p2, p3, p4, p5⟩ := hw.inv
    have lV := hw.le
    have ea := act_all a' 73 (by rw [hI.sz]; rfl) hI.df
    simp only [List.range, List.range.loop, List.map] at ea
    rw [hI.fix 0 (Reg.notD rfl) (by decide), hI.fix 1 (Reg.notD rfl) (by decide), hI.fix 2 (Reg.notD rfl) (by decide), hI.fix 4 (Reg.notD rfl) (by decide), hI.fix 5 (Reg.notD rfl) (by decide), hI.fix 6 (Reg.notD rfl) (by decide), hI.fix 7 (Reg.notD rfl) (by decide), hI.fix 8 (Reg.notD rfl) (by decide), hI.fix 9 (Reg.notD rfl) (by decide), hI.fix 10 (Reg.notD rfl) (by decide), hI.fix 11 (Reg.notD rfl) (by decide), hI.fix 12 (Reg.notD rfl) (by decide), hI.fix 13 (Reg.notD rfl) (by decide), hI.fix 14 (Reg.notD rfl) (by decide), hI.fix 15 (Reg.notD rfl) (by decide), hI.fix 16 (Reg.notD rfl) (by decide), hI.fix 17 (Reg.notD rfl) (by decide), hI.fix 18 (Reg.notD rfl) (by decide), hI.fix 19 (Reg.notD rfl) (by decide), hI.fix 20 (Reg.notD rfl) (by decide), hI.fix 21 (Reg.notD rfl) (by decide), hI.fix 22 (Reg.notD rfl) (by decide), hI.fix 23 (Reg.notD rfl) (by decide), hI.fix 24 (Reg.notD rfl) (by decide), hI.fix 25 (Reg.notD rfl) (by decide), hI.fix 26 (Reg.notD rfl) (by decide), hI.fix 27 (Reg.notD rfl) (by decide), hI.fix 28 (Reg.notD rfl) (by decide), hI.fix 29 (Reg.notD rfl) (by decide), hI.fix 30 (Reg.notD rfl) (by decide), hI.fix 31 (Reg.notD rfl) (by decide), hI.fix 32 (Reg.notD rfl) (by decide), hI.fix 33 (Reg.notD rfl) (by decide), hI.fix 34 (Reg.notD rfl) (by decide), hI.fix 35 (Reg.notD rfl) (by decide), hI.fix 36 (Reg.notD rfl) (by decide), hI.fix 37 (Reg.notD rfl) (by decide), hI.fix 38 (Reg.notD rfl) (by decide), hI.fix 39 (Reg.notD rfl) (by decide), hI.fix 40 (Reg.notD rfl) (by decide), hI.fix 41 (Reg.notD rfl) (by decide), hI.fix 42 (Reg.notD rfl) (by decide), hI.fix 43 (Reg.notD rfl) (by decide), hI.fix 44 (Reg.notD rfl) (by decide), hI.fix 45 (Reg.notD rfl) (by decide), hI.fix 46 (Reg.notD rfl) (by decide), hI.fix 47 (Reg.notD rfl) (by decide), hI.fix 48 (Reg.notD rfl) (by decide), hI.fix 49 (Reg.notD rfl) (by decide), hI.fix 50 (Reg.notD rfl) (by decide), hI.fix 51 (Reg.notD rfl) (by decide), hI.fix 52 (Reg.notD rfl) (by decide), hI.fix 53 (Reg.notD rfl) (by decide), hI.fix 54 (Reg.notD rfl) (by decide), hI.fix 67 (Reg.notD rfl) (by decide), hI.fix 68 (Reg.notD rfl) (by decide), hI.fix 69 (Reg.notD rfl) (by decide), hI.fix 70 (Reg.notD rfl) (by decide), hI.fix 71 (Reg.notD rfl) (by decide), hI.fix 72 (Reg.notD rfl) (by decide)] at ea
    clear hI hall
    generalize a'.eval (.tmp 3) = u3 at ea
    generalize a'.eval (.tmp 55) = u55 at ea
    generalize a'.eval (.tmp 56) = u56 at ea
    generalize a'.eval (.tmp 57) = u57 at ea
    generalize a'.eval (.tmp 58) = u58 at ea
    generalize a'.eval (.tmp 59) = u59 at ea
    generalize a'.eval (.tmp 60) = u60 at ea
    generalize a'.eval (.tmp 61) = u61 at ea
    generalize a'.eval (.tmp 62) = u62 at ea
    generalize a'.eval (.tmp 63) = u63 at ea
    generalize a'.eval (.tmp 64) = u64 at ea
    generalize a'.eval (.tmp 65) = u65 at ea
    generalize a'.eval (.tmp 66) = u66 at ea
    simp only [show ∀ (ts : Array Value) (ds) (i : Nat), (Act.mk ts ds).eval (.tmp i) = ts.getD i undef from fun _ _ _ => rfl] at ea
    simp at ea
    subst ea
    have HR4 := hide p1
    have HR5 := hide p2
    have HR6 := hide p3
    have HR1' := hide (show IsRow V1 g n cap f' from by simpa using p4)
    have HRQ := hide (show V1.rangeAt (w.heap.size + 3) 0 [Value.int .i64 x.hand, .int .i64 x.act, .int .i64 x.at_, .int .u64 x.had, .int .u64 x.put, .bool x.ok] from hrq)
    have HT1 := hide (show Touch w V1 (fun k => k = g) from ((Touch.of_grown HG3.out).mono (S' := fun k => k = g) (fun k _ h => by simpa using h)).trans' p5 (fun k hk h => by rcases h with h | h; exact h; omega))
    have lV' : w.heap.size + 3 < V1.heap.size := by omega
    have lV0 : w.heap.size < V1.heap.size := by omega
    clear hw hrq p1 p2 p3 p4 p5 STB STT DC
    have y0 : V1.cell? ⟨w.heap.size + 3, 0, none⟩ = some (.int .i64 x.hand) := by have := HRQ.out 0 _ rfl; simpa using this
    have y1 : V1.cell? ⟨w.heap.size + 3, 1, none⟩ = some (.int .i64 x.act) := by have := HRQ.out 1 _ rfl; simpa using this
    have y2 : V1.cell? ⟨w.heap.size + 3, 2, none⟩ = some (.int .i64 x.at_) := by have := HRQ.out 2 _ rfl; simpa using this
    have y3 : V1.cell? ⟨w.heap.size + 3, 3, none⟩ = some (.int .u64 x.had) := by have := HRQ.out 3 _ rfl; simpa using this
    have y4 : V1.cell? ⟨w.heap.size + 3, 4, none⟩ = some (.int .u64 x.put) := by have := HRQ.out 4 _ rfl; simpa using this
    have y5 : V1.cell? ⟨w.heap.size + 3, 5, none⟩ = some (.bool x.ok) := by have := HRQ.out 5 _ rfl; simpa using this
    have e5 : V1.cell? ⟨w.heap.size, 5, none⟩ = some (.int .i64 s5) := by rw [HR4.out.cell (i := 5) (by omega), lrow_of G5.out]
    have f5 := HR4.out.frozen 5
    have e6 : V1.cell? ⟨w.heap.size, 6, none⟩ = some (.int .i64 hand) := by rw [HR4.out.cell (i := 6) (by omega), lrow_of G6.out]
    have f6 := HR4.out.frozen 6
    have e11 : V1.cell? ⟨w.heap.size, 11, none⟩ = some (.int .u64 hh) := by rw [HR4.out.cell (i := 11) (by omega), lrow_of G11.out]
    have f11 := HR4.out.frozen 11
    have e12 : V1.cell? ⟨w.heap.size, 12, none⟩ = some (.int .i64 3) := by rw [HR4.out.cell (i := 12) (by omega), lrow_of G12.out]
    have f12 := HR4.out.frozen 12
    have e13 : V1.cell? ⟨w.heap.size, 13, none⟩ = some (.int .u64 r0) := by rw [HR4.out.cell (i := 13) (by omega), lrow_of G13.out]
    have f13 := HR4.out.frozen 13
    go_wp2_with fail
    obtain ⟨WA, hWA⟩ : ∃ W, (V1.setCell ⟨w.heap.size, 12, none⟩ (.int .i64 4)) = W := ⟨_, rfl⟩
    have tt0 : Touch V1 WA (fun k => k = w.heap.size) := by
      rw [← hWA]
      exact Touch.trans' (S' := fun k => k = w.heap.size) (⟨rfl, rfl, rfl, Nat.le_refl _, fun _ _ _ => rfl⟩ : Touch V1 V1 (fun k => k = w.heap.size)) (Touch.setCell (S := fun k => k = w.heap.size) (Touch.refl V1 _) ⟨w.heap.size, 12, none⟩ (.inl rfl) _) (fun k _ h => h)
    have szA : WA.heap.size = V1.heap.size := by
      rw [← hWA] <;> first | (simp; done) | rfl | (simp; rfl)
    have rA : WA.rangeAt w.heap.size 0 l1 := by
      have := rowIs.range (rowIs.setL (show World.rowIs V1 w.heap.size 91 28 (lrow l0) from HR4.out) (i := 12) (by simp [HL0.out]) (.int .i64 4)) (by simp [HL0.out])
      rw [HSET.out, hWA] at this
      exact this
    have rB : WA.rangeAt (w.heap.size + 3) 0 [Value.int .i64 x.hand, .int .i64 x.act, .int .i64 x.at_, .int .u64 x.had, .int .u64 x.put, .bool x.ok] := rangeAt_block HRQ.out (tt0.block _ (by omega) (by omega))
    have tC : WA.there (w.heap.size + 1) 0 28 := rowIs.there (HR5.out.of_block (tt0.block _ (by omega) (by omega))) (by omega)
    have tD : WA.there (w.heap.size + 2) 0 6 := rowIs.there (HR6.out.of_block (tt0.block _ (by omega) (by omega))) (by omega)
    have rW : IsRow WA g n cap f' := HR1'.out.block (tt0.block g (by omega) (by omega))
    have TW : Touch w WA (fun k => k = g) := HT1.out.trans' tt0 (fun k hk h => absurd hk (by omega))
    first | rw [hWA] | skip
    have HTW := hide TW
    have HRW := hide rW
    clear TW rW hWA tt0
    refine RetN.region (ks := [(0, 71), (1, 72), (4, 6)]) (vals := fun i => match i with
        | 0 => .agg l1.toArray
        | 1 => .agg #[Value.int .i64 x.hand, .int .i64 x.act, .int .i64 x.at_, .int .u64 x.had, .int .u64 x.put, .bool x.ok]
        | 4 => .bool false
        | _ => undef) (C := w.heap.size + 1) (E := w.heap.size + 2) (iC := 2) (iE := 3) (lt := l1) (ls := [Value.int .i64 x.hand, .int .i64 x.act, .int .i64 x.at_, .int .u64 x.had, .int .u64 x.put, .bool x.ok]) (by kernel_rfl) ?g2 ?b2 rfl (by omega) (by decide) ?dd2 hl1i.out.2 (by simp [Value.oneCell']) (by rw [hl1i.out.1]; exact tC) tD ?kinds2 ?fin2
    case g2 =>
      intro i o ho
      have hi : i < 5 := by have := (Array.getElem?_eq_some_iff.1 ho).1; simpa using this
      match i, hi with
      | 0, _ | 1, _ | 2, _ | 3, _ | 4, _ => injection ho with ho; subst ho; rfl
    case b2 =>
      intro i o ho
      have hi : i < 5 := by have := (Array.getElem?_eq_some_iff.1 ho).1; simpa using this
      match i, hi with
      | 0, _ | 1, _ | 2, _ | 3, _ | 4, _ => injection ho with ho; subst ho; simp [Region.binds]
    case dd2 =>
      intro k hk
      have hk' : k < 73 := by
        simp [RetN.D] at hk
        omega
      simpa using hk'
    case kinds2 =>
      intro i o ho
      have hi : i < 5 := by have := (Array.getElem?_eq_some_iff.1 ho).1; simpa using this
      match i, hi with
      | 0, _ => injection ho with ho; subst ho; exact .inl ⟨71, _, rfl, rfl, fun L a w' hI hd => ex_load_row rfl (hI.fix 2 (Reg.notD rfl)) (rangeAt_block rA (hI.tch.block _ (by omega) (by omega))) HD.out.1 HD.out.2.1 (by rw [hl1i.out.1]; exact size79)⟩
      | 1, _ => injection ho with ho; subst ho; exact .inl ⟨72, _, rfl, rfl, fun L a w' hI hd => ex_load_row rfl (hI.fix 7 (Reg.notD rfl)) (rangeAt_block rB (hI.tch.block _ (by omega) (by omega))) HD.out.2.2.1 HD.out.2.2.2 size46⟩
      | 2, _ => injection ho with ho; subst ho; exact .inr (.inl ⟨rfl, rfl, _, _, _, rfl, (by rw [hl1i.out.1]; exact size79), fun L a w' hI hd => ⟨hI.fix 4 (Reg.notD rfl), (hI.pure 0 _ _ rfl (hd ⟨0, .data⟩ (by simp) rfl))⟩⟩)
      | 3, _ => injection ho with ho; subst ho; exact .inr (.inr ⟨rfl, rfl, _, _, _, rfl, size46, fun L a w' hI hd => ⟨hI.fix 5 (Reg.notD rfl), (hI.pure 1 _ _ rfl (hd ⟨1, .data⟩ (by simp) rfl))⟩⟩)
      | 4, _ => injection ho with ho; subst ho; exact .inl ⟨6, _, rfl, rfl, fun L a w' hI hd => ex_assign rfl rfl⟩
    case fin2 =>
      intro L a' w' hI hall
      rename_i K2 hK2
      refine hK2 _ _ ?_
      have rC := hI.sC (hall 2 (by decide))
      have rD := hI.sE (hall 3 (by decide))
      have pC : a'.eval (.tmp 4) = .pointer (some ⟨w.heap.size + 1, 0, none⟩) := hI.fix 4 (Reg.notD rfl)
      have pD : a'.eval (.tmp 5) = .pointer (some ⟨w.heap.size + 2, 0, none⟩) := hI.fix 5 (Reg.notD rfl)
      have pe : a'.eval (.tmp 6) = .bool false := hI.pure 4 6 _ rfl (hall 4 (by decide))
      have tch := hI.tch
      have hdf : a'.defers = [] := hI.df
      have hT := run_loadVar_mid (P := Try.prog) w' (w.heap.size + 1) 0 _ l1 dT rC HD.out.1 HD.out.2.1 (by rw [hl1i.out.1]; exact size79)
      have hS := run_loadVar_mid (P := Try.prog) w' (w.heap.size + 2) 0 _ _ dS rD HD.out.2.2.1 HD.out.2.2.2 size46
      have hres := results_cct (Q := Try.prog) (fn := Try.f85) (tmps := a'.tmps) (t := 4) (t' := 5) (t'' := 6) (W := w') (by rfl) pC hT pD hS
      rw [show a'.tmps.getD 6 undef = .bool false from pe] at hres
      go_wp2
      refine bodyPost_ret (v := .tuple #[.agg l1.toArray, x.val, .bool false]) hres hdf ⟨rfl, HRW.out.block (tch.block g HRW.out.lt (by omega)), ?_⟩
      have := HTW.out.trans' tch (fun k hk h => absurd hk (by omega))
      exact ⟨this.os, this.tape, this.output, this.size, fun k hk hn => this.block k hk (by simpa using hn)⟩

set_option maxHeartbeats 8000000 in
theorem rl4 {w : World} {g n cap : Nat} {f f' : Nat → Int} {x : Stp} {s0 s1 s2 s3 s4 s5 hand a b c hh r0 r1 r2 r3 val : Int} {ok : Bool} (hr : IsRow w g n cap f) {e2 : Int} (he2 : u64 (r0 + 1) = e2)  (hx : stepOf n f ⟨hand, 2, 1, 0, e2, true⟩ = x) (hf' : wordsOf n f ⟨hand, 2, 1, 0, e2, true⟩ = f') :
    Calls Try.prog 85 #[.agg (tk ⟨s0, s1, s2, s3, s4, s5⟩ hand ⟨1, a, b, c, hh⟩ 4 ⟨r0, r1, r2, r3, 0, 0, 0, 0⟩ ⟨ok, val⟩).toArray, .slice (some ⟨g, 0, none⟩) n cap] w fun e w' =>
      e = .returned (.tuple #[.agg (tk ⟨s0, s1, s2, s3, s4, s5⟩ hand ⟨1, a, b, c, hh⟩ 4 ⟨r0, r1, r2, r3, 0, 0, 0, 0⟩ ⟨true, hh⟩).toArray, x.val, .bool true]) ∧ IsRow w' g n cap f' ∧ w.grownBy w' (some g) := by
  have DO := hide (fun (w' : World) (hr' : IsRow w' g n cap f) => ref_do (s := ⟨hand, 2, 1, 0, e2, true⟩) hr' (by rw [← he2]; exact ⟨u64_lo _, u64_hi _⟩) ⟨by show (1 : Int) ≤ 2; decide, by show (2 : Int) ≤ 5; decide⟩)
  have HX := hide hx
  have HF := hide hf'
  have lg := hr.lt
  obtain ⟨l0, hl0⟩ : ∃ l, tk ⟨s0, s1, s2, s3, s4, s5⟩ hand ⟨1, a, b, c, hh⟩ 4 ⟨r0, r1, r2, r3, 0, 0, 0, 0⟩ ⟨ok, val⟩ = l := ⟨_, rfl⟩
  have hl0' : l0.length = 28 := by rw [← hl0]; rfl
  have hl0i := hide (show IsTk l0 from by rw [← hl0]; exact tk_is _ _ _ _ _ _)
  have hset : ((l0.set 22 (.bool true)).set 23 (.int .u64 hh)) = tk ⟨s0, s1, s2, s3, s4, s5⟩ hand ⟨1, a, b, c, hh⟩ 4 ⟨r0, r1, r2, r3, 0, 0, 0, 0⟩ ⟨true, hh⟩ := by rw [← hl0] <;> rfl
  obtain ⟨l1, hl1⟩ : ∃ l, tk ⟨s0, s1, s2, s3, s4, s5⟩ hand ⟨1, a, b, c, hh⟩ 4 ⟨r0, r1, r2, r3, 0, 0, 0, 0⟩ ⟨true, hh⟩ = l := ⟨_, rfl⟩
  rw [hl0, hl1]
  rw [hl1] at hset
  have hl1i := hide (show IsTk l1 from by rw [← hl1]; exact tk_is _ _ _ _ _ _)
  obtain ⟨W3, hW3, sz3, R0, R1, R2, R3, G3, R4, cell⟩ := RPre.pre hr hl0'
  have HR3 := hide R4
  have g6 : l0[6]? = some (.int .i64 hand) := by rw [← hl0]; rfl
  have g11 : l0[11]? = some (.int .u64 hh) := by rw [← hl0]; rfl
  have g12 : l0[12]? = some (.int .i64 4) := by rw [← hl0]; rfl
  have g13 : l0[13]? = some (.int .u64 r0) := by rw [← hl0]; rfl
  have g22 : l0[22]? = some (.bool ok) := by rw [← hl0]; rfl
  have g23 : l0[23]? = some (.int .u64 val) := by rw [← hl0]; rfl
  have c6 := cell 6 _ g6
  have c11 := cell 11 _ g11
  have c12 := cell 12 _ g12
  have c13 := cell 13 _ g13
  have c22 := cell 22 _ g22
  have c23 := cell 23 _ g23
  have G6 := hide g6
  have G11 := hide g11
  have G12 := hide g12
  have G13 := hide g13
  have G22 := hide g22
  have G23 := hide g23
  obtain ⟨dT, hdT1, hdT2⟩ := row79
  obtain ⟨dS, hdS1, hdS2⟩ := row46
  have HD := hide (And.intro hdT1 (And.intro hdT2 (And.intro hdS1 hdS2)))
  have HR0 := hide R0
  have HR1 := hide R1
  have HR2 := hide R2
  have HRS := hide R3
  have HG3 := hide G3
  have HSET := hide hset
  have HL0 := hide hl0'
  have v2 : wrap64 2 = 2 := by unfold wrap64; omega
  have v3 : wrap64 3 = 3 := by unfold wrap64; omega
  have v4 : wrap64 4 = 4 := by unfold wrap64; omega
  have q1 := rwrap_u64 (r0 + 1)
  rw [he2] at q1
  clear hx hf' hr R0 R1 R2 R3 R4 G3 cell hset hl0' hl0 hl1 hdT1 hdT2 hdS1 hdS2 he2 g6 g11 g12 g13 g22 g23
  simp only [tk0, RPre.ZL] at hW3
  go_enter Try.func85, Try.ntmps85
  go_wp2_with fail
  refine (DO.out _ HR3.out).mono ?_
  rintro e w1 ⟨rfl, hr1, hg1⟩
  rw [HX.out]
  rw [HF.out] at hr1
  simp only [Stp.val]
  have sz1 := hg1.size
  obtain ⟨V1, hV1, szV, q1', q2', q3', q4', q5', q6', ⟨⟨z0, zf0⟩, ⟨z1, zf1⟩, ⟨z2, zf2⟩, ⟨z3, zf3⟩, ⟨z4, zf4⟩, z5, zf5⟩, y0, y1, y2, y3, y4, y5⟩ := RPre.aft x HR0.out HR1.out HR2.out HRS.out HG3.out lg sz3 hr1 hg1
  try simp only at hV1 y0 y1 y2 y3 y4 y5
  have HRQ := hide (show V1.rangeAt (w.heap.size + 3) 0 [Value.int .i64 x.hand, .int .i64 x.act, .int .i64 x.at_, .int .u64 x.had, .int .u64 x.put, .bool x.ok] from q1')
  have HR4 := hide q2'
  have HR5 := hide q3'
  have HR6 := hide q4'
  have HR1' := hide q5'
  have HT1 := hide q6'
  have lV : w.heap.size + 3 < V1.heap.size := by omega
  have lV0 : w.heap.size < V1.heap.size := by omega
  have e6 : V1.cell? ⟨w.heap.size, 6, none⟩ = some (.int .i64 hand) := by rw [HR4.out.cell (i := 6) (by omega), lrow_of G6.out]
  have f6 := HR4.out.frozen 6
  have e11 : V1.cell? ⟨w.heap.size, 11, none⟩ = some (.int .u64 hh) := by rw [HR4.out.cell (i := 11) (by omega), lrow_of G11.out]
  have f11 := HR4.out.frozen 11
  have e12 : V1.cell? ⟨w.heap.size, 12, none⟩ = some (.int .i64 4) := by rw [HR4.out.cell (i := 12) (by omega), lrow_of G12.out]
  have f12 := HR4.out.frozen 12
  have e13 : V1.cell? ⟨w.heap.size, 13, none⟩ = some (.int .u64 r0) := by rw [HR4.out.cell (i := 13) (by omega), lrow_of G13.out]
  have f13 := HR4.out.frozen 13
  have e22 : V1.cell? ⟨w.heap.size, 22, none⟩ = some (.bool ok) := by rw [HR4.out.cell (i := 22) (by omega), lrow_of G22.out]
  have f22 := HR4.out.frozen 22
  have e23 : V1.cell? ⟨w.heap.size, 23, none⟩ = some (.int .u64 val) := by rw [HR4.out.cell (i := 23) (by omega), lrow_of G23.out]
  have f23 := HR4.out.frozen 23
  have l1w : w.heap.size + 3 < w1.heap.size := by omega
  clear hr1 hg1 q1' q2' q3' q4' q5' q6' hW3 c6 c11 c12 c13 c22 c23
  go_wp2_with fail
  clear hV1 z0 zf0 z1 zf1 z2 zf2 z3 zf3 z4 zf4 z5 zf5
  obtain ⟨WA, hWA⟩ : ∃ W, ((V1.setCell ⟨w.heap.size, 22, none⟩ (.bool true)).setCell ⟨w.heap.size, 23, none⟩ (.int .u64 hh)) = W := ⟨_, rfl⟩
  have tt0 : Touch V1 WA (fun k => k = w.heap.size) := by
    rw [← hWA]
    exact Touch.trans' (S' := fun k => k = w.heap.size) (⟨rfl, rfl, rfl, Nat.le_refl _, fun _ _ _ => rfl⟩ : Touch V1 V1 (fun k => k = w.heap.size)) (Touch.setCell (S := fun k => k = w.heap.size) (Touch.setCell (S := fun k => k = w.heap.size) (Touch.refl V1 _) ⟨w.heap.size, 22, none⟩ (.inl rfl) _) ⟨w.heap.size, 23, none⟩ (.inl rfl) _) (fun k _ h => h)
  have szA : WA.heap.size = V1.heap.size := by
    rw [← hWA] <;> first | (simp; done) | rfl | (simp; rfl)
  have rA : WA.rangeAt w.heap.size 0 l1 := by
    have := rowIs.range (rowIs.setL (rowIs.setL (show World.rowIs V1 w.heap.size 91 28 (lrow l0) from HR4.out) (i := 22) (by simp [HL0.out]) (.bool true)) (i := 23) (by simp [HL0.out]) (.int .u64 hh)) (by simp [HL0.out])
    rw [HSET.out, hWA] at this
    exact this
  have rB : WA.rangeAt (w.heap.size + 3) 0 [Value.int .i64 x.hand, .int .i64 x.act, .int .i64 x.at_, .int .u64 x.had, .int .u64 x.put, .bool x.ok] := rangeAt_block HRQ.out (tt0.block _ (by omega) (by omega))
  have tC : WA.there (w.heap.size + 1) 0 28 := rowIs.there (HR5.out.of_block (tt0.block _ (by omega) (by omega))) (by omega)
  have tD : WA.there (w.heap.size + 2) 0 6 := rowIs.there (HR6.out.of_block (tt0.block _ (by omega) (by omega))) (by omega)
  have rW : IsRow WA g n cap f' := HR1'.out.block (tt0.block g (by omega) (by omega))
  have TW : Touch w WA (fun k => k = g) := HT1.out.trans' tt0 (fun k hk h => absurd hk (by omega))
  first | rw [hWA] | skip
  have HTW := hide TW
  have HRW := hide rW
  clear TW rW hWA tt0
  refine RetN.region (ks := [(0, 23), (1, 24), (4, 6)]) (vals := fun i => match i with
      | 0 => .agg l1.toArray
      | 1 => .agg #[Value.int .i64 x.hand, .int .i64 x.act, .int .i64 x.at_, .int .u64 x.had, .int .u64 x.put, .bool x.ok]
      | 4 => .bool true
      | _ => undef) (C := w.heap.size + 1) (E := w.heap.size + 2) (iC := 2) (iE := 3) (lt := l1) (ls := [Value.int .i64 x.hand, .int .i64 x.act, .int .i64 x.at_, .int .u64 x.had, .int .u64 x.put, .bool x.ok]) (by kernel_rfl) ?g ?b rfl (by omega) (by decide) ?dd hl1i.out.2 (by simp [Value.oneCell']) (by rw [hl1i.out.1]; exact tC) tD ?kinds ?fin
  case g =>
    intro i o ho
    have hi : i < 5 := by have := (Array.getElem?_eq_some_iff.1 ho).1; simpa using this
    match i, hi with
    | 0, _ | 1, _ | 2, _ | 3, _ | 4, _ => injection ho with ho; subst ho; rfl
  case b =>
    intro i o ho
    have hi : i < 5 := by have := (Array.getElem?_eq_some_iff.1 ho).1; simpa using this
    match i, hi with
    | 0, _ | 1, _ | 2, _ | 3, _ | 4, _ => injection ho with ho; subst ho; simp [Region.binds]
  case dd =>
    intro k hk
    have hk' : k < 73 := by
      simp [RetN.D] at hk
      omega
    simpa using hk'
  case kinds =>
    intro i o ho
    have hi : i < 5 := by have := (Array.getElem?_eq_some_iff.1 ho).1; simpa using this
    match i, hi with
    | 0, _ => injection ho with ho; subst ho; exact .inl ⟨23, _, rfl, rfl, fun L a w' hI hd => ex_load_row rfl (hI.fix 2 (Reg.notD rfl)) (rangeAt_block rA (hI.tch.block _ (by omega) (by omega))) HD.out.1 HD.out.2.1 (by rw [hl1i.out.1]; exact size79)⟩
    | 1, _ => injection ho with ho; subst ho; exact .inl ⟨24, _, rfl, rfl, fun L a w' hI hd => ex_load_row rfl (hI.fix 7 (Reg.notD rfl)) (rangeAt_block rB (hI.tch.block _ (by omega) (by omega))) HD.out.2.2.1 HD.out.2.2.2 size46⟩
    | 2, _ => injection ho with ho; subst ho; exact .inr (.inl ⟨rfl, rfl, _, _, _, rfl, (by rw [hl1i.out.1]; exact size79), fun L a w' hI hd => ⟨hI.fix 4 (Reg.notD rfl), (hI.pure 0 _ _ rfl (hd ⟨0, .data⟩ (by simp) rfl))⟩⟩)
    | 3, _ => injection ho with ho; subst ho; exact .inr (.inr ⟨rfl, rfl, _, _, _, rfl, size46, fun L a w' hI hd => ⟨hI.fix 5 (Reg.notD rfl), (hI.pure 1 _ _ rfl (hd ⟨1, .data⟩ (by simp) rfl))⟩⟩)
    | 4, _ => injection ho with ho; subst ho; exact .inl ⟨6, _, rfl, rfl, fun L a w' hI hd => ex_assign rfl rfl⟩
  case fin =>
    intro L a' w' hI hall
    rename_i K2 hK2
    refine hK2 _ _ ?_
    have rC := hI.sC (hall 2 (by decide))
    have rD := hI.sE (hall 3 (by decide))
    have pC : a'.eval (.tmp 4) = .pointer (some ⟨w.heap.size + 1, 0, none⟩) := hI.fix 4 (Reg.notD rfl)
    have pD : a'.eval (.tmp 5) = .pointer (some ⟨w.heap.size + 2, 0, none⟩) := hI.fix 5 (Reg.notD rfl)
    have pe : a'.eval (.tmp 6) = .bool true := hI.pure 4 6 _ rfl (hall 4 (by decide))
    have tch := hI.tch
    have hdf : a'.defers = [] := hI.df
    have hT := run_loadVar_mid (P := Try.prog) w' (w.heap.size + 1) 0 _ l1 dT rC HD.out.1 HD.out.2.1 (by rw [hl1i.out.1]; exact size79)
    have hS := run_loadVar_mid (P := Try.prog) w' (w.heap.size + 2) 0 _ _ dS rD HD.out.2.2.1 HD.out.2.2.2 size46
    have hres := results_cct (Q := Try.prog) (fn := Try.f85) (tmps := a'.tmps) (t := 4) (t' := 5) (t'' := 6) (W := w') (by rfl) pC hT pD hS
    rw [show a'.tmps.getD 6 undef = .bool true from pe] at hres
    go_wp2
    refine bodyPost_ret (v := .tuple #[.agg l1.toArray, x.val, .bool true]) hres hdf ⟨rfl, HRW.out.block (tch.block g HRW.out.lt (by omega)), ?_⟩
    have := HTW.out.trans' tch (fun k hk h => absurd hk (by omega))
    exact ⟨this.os, this.tape, this.output, this.size, fun k hk hn => this.block k hk (by simpa using hn)⟩

end Deal
end Go.Proofs.Ytbjlpmahomjgjaa
