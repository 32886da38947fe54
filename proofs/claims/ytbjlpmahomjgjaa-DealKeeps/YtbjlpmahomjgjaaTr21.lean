/-
  Lemmas: DealRE.
-/
import Derived.Test.YtbjlpmahomjgjaaTr16
set_option linter.unusedVariables false
set_option linter.unusedSimpArgs false
set_option linter.unnecessarySimpa false
set_option maxRecDepth 20000
namespace Go.Proofs.Ytbjlpmahomjgjaa
open Go.RowKit
namespace Deal

set_option maxHeartbeats 8000000 in
theorem rd5_ok {w : World} {g n cap : Nat} {f f' : Nat → Int} {xh xa xt xd xp : Int} {s0 s1 s2 s3 s4 s5 hand a b c hh r0 r1 r2 r3 val : Int} {ok : Bool} (hr : IsRow w g n cap f) {e2 : Int} (he2 : u64 (r1 + 1) = e2)   (hx : stepOf n f ⟨hand, 5, 0, r1, e2, true⟩ = ⟨xh, xa, xt, xd, xp, true⟩) (hf' : wordsOf n f ⟨hand, 5, 0, r1, e2, true⟩ = f') :
    Calls Try.prog 86 #[.agg (tk ⟨s0, s1, s2, s3, s4, s5⟩ hand ⟨2, a, b, c, hh⟩ 5 ⟨r0, r1, r2, r3, 0, 0, 0, 0⟩ ⟨ok, val⟩).toArray, .slice (some ⟨g, 0, none⟩) n cap] w fun e w' =>
      e = .returned (.tuple #[.agg (tk ⟨s0, s1, s2, s3, s4, s5⟩ hand ⟨2, a, b, c, hh⟩ 6 ⟨r0, r1, r2, 1, 0, 0, 0, 0⟩ ⟨ok, val⟩).toArray, (⟨xh, xa, xt, xd, xp, true⟩ : Stp).val, .bool false]) ∧ IsRow w' g n cap f' ∧ w.grownBy w' (some g) := by
  have DO := hide (fun (w' : World) (hr' : IsRow w' g n cap f) => ref_do (s := ⟨hand, 5, 0, r1, e2, true⟩) hr' (by rw [← he2]; exact ⟨u64_lo _, u64_hi _⟩) ⟨by show (1 : Int) ≤ 5; decide, by show (5 : Int) ≤ 5; decide⟩)
  have HX := hide hx
  have HF := hide hf'
  have lg := hr.lt
  obtain ⟨l0, hl0⟩ : ∃ l, tk ⟨s0, s1, s2, s3, s4, s5⟩ hand ⟨2, a, b, c, hh⟩ 5 ⟨r0, r1, r2, r3, 0, 0, 0, 0⟩ ⟨ok, val⟩ = l := ⟨_, rfl⟩
  have hl0' : l0.length = 28 := by rw [← hl0]; rfl
  have hl0i := hide (show IsTk l0 from by rw [← hl0]; exact tk_is _ _ _ _ _ _)
  have hset : ((l0.set 16 (.int .u64 1)).set 12 (.int .i64 6)) = tk ⟨s0, s1, s2, s3, s4, s5⟩ hand ⟨2, a, b, c, hh⟩ 6 ⟨r0, r1, r2, 1, 0, 0, 0, 0⟩ ⟨ok, val⟩ := by rw [← hl0] <;> rfl
  obtain ⟨l1, hl1⟩ : ∃ l, tk ⟨s0, s1, s2, s3, s4, s5⟩ hand ⟨2, a, b, c, hh⟩ 6 ⟨r0, r1, r2, 1, 0, 0, 0, 0⟩ ⟨ok, val⟩ = l := ⟨_, rfl⟩
  rw [hl0, hl1]
  rw [hl1] at hset
  have hl1i := hide (show IsTk l1 from by rw [← hl1]; exact tk_is _ _ _ _ _ _)
  obtain ⟨W3, hW3, sz3, R0, R1, R2, R3, G3, R4, cell⟩ := RPre.pre hr hl0'
  have HR3 := hide R4
  have g6 : l0[6]? = some (.int .i64 hand) := by rw [← hl0]; rfl
  have g12 : l0[12]? = some (.int .i64 5) := by rw [← hl0]; rfl
  have g13 : l0[13]? = some (.int .u64 r0) := by rw [← hl0]; rfl
  have g14 : l0[14]? = some (.int .u64 r1) := by rw [← hl0]; rfl
  have g16 : l0[16]? = some (.int .u64 r3) := by rw [← hl0]; rfl
  have c6 := cell 6 _ g6
  have c12 := cell 12 _ g12
  have c13 := cell 13 _ g13
  have c14 := cell 14 _ g14
  have c16 := cell 16 _ g16
  have G6 := hide g6
  have G12 := hide g12
  have G13 := hide g13
  have G14 := hide g14
  have G16 := hide g16
  obtain ⟨dT, hdT1, hdT2⟩ := row79
  obtain ⟨dS, hdS1, hdS2⟩ := row46
  have HD := hide (And.intro hdT1 (And.intro hdT2 (And.intro hdS1 hdS2)))
  have HR0 := hide R0
  have HR1 := hide R1
  have HR2 := hide R2
  have HRS := hide R3
  have HG3 := hide G3
  have HSET := hide hset
  have HL0 := hide hl0'
  have v2 : wrap64 2 = 2 := by unfold wrap64; omega
  have v3 : wrap64 3 = 3 := by unfold wrap64; omega
  have v4 : wrap64 4 = 4 := by unfold wrap64; omega
  have q2 := rwrap_u64 (r1 + 1)
  rw [he2] at q2
  clear hx hf' hr R0 R1 R2 R3 R4 G3 cell hset hl0' hl0 hl1 hdT1 hdT2 hdS1 hdS2 he2 g6 g12 g13 g14 g16
  simp only [tk0, RPre.ZL] at hW3
  go_enter Try.func86, Try.ntmps86
  go_wp2_with fail
  refine (DO.out _ HR3.out).mono ?_
  rintro e w1 ⟨rfl, hr1, hg1⟩
  rw [HX.out]
  rw [HF.out] at hr1
  simp only [Stp.val]
  have sz1 := hg1.size
  obtain ⟨V1, hV1, szV, q1', q2', q3', q4', q5', q6', ⟨⟨z0, zf0⟩, ⟨z1, zf1⟩, ⟨z2, zf2⟩, ⟨z3, zf3⟩, ⟨z4, zf4⟩, z5, zf5⟩, y0, y1, y2, y3, y4, y5⟩ := RPre.aft ⟨xh, xa, xt, xd, xp, true⟩ HR0.out HR1.out HR2.out HRS.out HG3.out lg sz3 hr1 hg1
  try simp only at hV1 y0 y1 y2 y3 y4 y5
  have HRQ := hide (show V1.rangeAt (w.heap.size + 3) 0 [Value.int .i64 xh, .int .i64 xa, .int .i64 xt, .int .u64 xd, .int .u64 xp, .bool true] from q1')
  have HR4 := hide q2'
  have HR5 := hide q3'
  have HR6 := hide q4'
  have HR1' := hide q5'
  have HT1 := hide q6'
  have lV : w.heap.size + 3 < V1.heap.size := by omega
  have lV0 : w.heap.size < V1.heap.size := by omega
  have e6 : V1.cell? ⟨w.heap.size, 6, none⟩ = some (.int .i64 hand) := by rw [HR4.out.cell (i := 6) (by omega), lrow_of G6.out]
  have f6 := HR4.out.frozen 6
  have e12 : V1.cell? ⟨w.heap.size, 12, none⟩ = some (.int .i64 5) := by rw [HR4.out.cell (i := 12) (by omega), lrow_of G12.out]
  have f12 := HR4.out.frozen 12
  have e13 : V1.cell? ⟨w.heap.size, 13, none⟩ = some (.int .u64 r0) := by rw [HR4.out.cell (i := 13) (by omega), lrow_of G13.out]
  have f13 := HR4.out.frozen 13
  have e14 : V1.cell? ⟨w.heap.size, 14, none⟩ = some (.int .u64 r1) := by rw [HR4.out.cell (i := 14) (by omega), lrow_of G14.out]
  have f14 := HR4.out.frozen 14
  have e16 : V1.cell? ⟨w.heap.size, 16, none⟩ = some (.int .u64 r3) := by rw [HR4.out.cell (i := 16) (by omega), lrow_of G16.out]
  have f16 := HR4.out.frozen 16
  have l1w : w.heap.size + 3 < w1.heap.size := by omega
  clear hr1 hg1 q1' q2' q3' q4' q5' q6' hW3 c6 c12 c13 c14 c16
  go_wp2_with fail
  clear hV1 z0 zf0 z1 zf1 z2 zf2 z3 zf3 z4 zf4 z5 zf5
  obtain ⟨WA, hWA⟩ : ∃ W, ((V1.setCell ⟨w.heap.size, 16, none⟩ (.int .u64 1)).setCell ⟨w.heap.size, 12, none⟩ (.int .i64 6)) = W := ⟨_, rfl⟩
  have tt0 : Touch V1 WA (fun k => k = w.heap.size) := by
    rw [← hWA]
    exact Touch.trans' (S' := fun k => k = w.heap.size) (⟨rfl, rfl, rfl, Nat.le_refl _, fun _ _ _ => rfl⟩ : Touch V1 V1 (fun k => k = w.heap.size)) (Touch.setCell (S := fun k => k = w.heap.size) (Touch.setCell (S := fun k => k = w.heap.size) (Touch.refl V1 _) ⟨w.heap.size, 16, none⟩ (.inl rfl) _) ⟨w.heap.size, 12, none⟩ (.inl rfl) _) (fun k _ h => h)
  have szA : WA.heap.size = V1.heap.size := by
    rw [← hWA] <;> first | (simp; done) | rfl | (simp; rfl)
  have rA : WA.rangeAt w.heap.size 0 l1 := by
    have := rowIs.range (rowIs.setL (rowIs.setL (show World.rowIs V1 w.heap.size 91 28 (lrow l0) from HR4.out) (i := 16) (by simp [HL0.out]) (.int .u64 1)) (i := 12) (by simp [HL0.out]) (.int .i64 6)) (by simp [HL0.out])
    rw [HSET.out, hWA] at this
    exact this
  have rB : WA.rangeAt (w.heap.size + 3) 0 [Value.int .i64 xh, .int .i64 xa, .int .i64 xt, .int .u64 xd, .int .u64 xp, .bool true] := rangeAt_block HRQ.out (tt0.block _ (by omega) (by omega))
  have tC : WA.there (w.heap.size + 1) 0 28 := rowIs.there (HR5.out.of_block (tt0.block _ (by omega) (by omega))) (by omega)
  have tD : WA.there (w.heap.size + 2) 0 6 := rowIs.there (HR6.out.of_block (tt0.block _ (by omega) (by omega))) (by omega)
  have rW : IsRow WA g n cap f' := HR1'.out.block (tt0.block g (by omega) (by omega))
  have TW : Touch w WA (fun k => k = g) := HT1.out.trans' tt0 (fun k hk h => absurd hk (by omega))
  first | rw [hWA] | skip
  have HTW := hide TW
  have HRW := hide rW
  clear TW rW hWA tt0
  refine RetN.region (ks := [(0, 114), (1, 115), (4, 6)]) (vals := fun i => match i with
      | 0 => .agg l1.toArray
      | 1 => .agg #[Value.int .i64 xh, .int .i64 xa, .int .i64 xt, .int .u64 xd, .int .u64 xp, .bool true]
      | 4 => .bool false
      | _ => undef) (C := w.heap.size + 1) (E := w.heap.size + 2) (iC := 2) (iE := 3) (lt := l1) (ls := [Value.int .i64 xh, .int .i64 xa, .int .i64 xt, .int .u64 xd, .int .u64 xp, .bool true]) (by kernel_rfl) ?g ?b rfl (by omega) (by decide) ?dd hl1i.out.2 (by simp [Value.oneCell']) (by rw [hl1i.out.1]; exact tC) tD ?kinds ?fin
  case g =>
    intro i o ho
    have hi : i < 5 := by have := (Array.getElem?_eq_some_iff.1 ho).1; simpa using this
    match i, hi with
    | 0, _ | 1, _ | 2, _ | 3, _ | 4, _ => injection ho with ho; subst ho; rfl
  case b =>
    intro i o ho
    have hi : i < 5 := by have := (Array.getElem?_eq_some_iff.1 ho).1; simpa using this
    match i, hi with
    | 0, _ | 1, _ | 2, _ | 3, _ | 4, _ => injection ho with ho; subst ho; simp [Region.binds]
  case dd =>
    intro k hk
    have hk' : k < 116 := by
      simp [RetN.D] at hk
      omega
    simpa using hk'
  case kinds =>
    intro i o ho
    have hi : i < 5 := by have := (Array.getElem?_eq_some_iff.1 ho).1; simpa using this
    match i, hi with
    | 0, _ => injection ho with ho; subst ho; exact .inl ⟨114, _, rfl, rfl, fun L a w' hI hd => ex_load_row rfl (hI.fix 2 (Reg.notD rfl)) (rangeAt_block rA (hI.tch.block _ (by omega) (by omega))) HD.out.1 HD.out.2.1 (by rw [hl1i.out.1]; exact size79)⟩
    | 1, _ => injection ho with ho; subst ho; exact .inl ⟨115, _, rfl, rfl, fun L a w' hI hd => ex_load_row rfl (hI.fix 7 (Reg.notD rfl)) (rangeAt_block rB (hI.tch.block _ (by omega) (by omega))) HD.out.2.2.1 HD.out.2.2.2 size46⟩
    | 2, _ => injection ho with ho; subst ho; exact .inr (.inl ⟨rfl, rfl, _, _, _, rfl, (by rw [hl1i.out.1]; exact size79), fun L a w' hI hd => ⟨hI.fix 4 (Reg.notD rfl), (hI.pure 0 _ _ rfl (hd ⟨0, .data⟩ (by simp) rfl))⟩⟩)
    | 3, _ => injection ho with ho; subst ho; exact .inr (.inr ⟨rfl, rfl, _, _, _, rfl, size46, fun L a w' hI hd => ⟨hI.fix 5 (Reg.notD rfl), (hI.pure 1 _ _ rfl (hd ⟨1, .data⟩ (by simp) rfl))⟩⟩)
    | 4, _ => injection ho with ho; subst ho; exact .inl ⟨6, _, rfl, rfl, fun L a w' hI hd => ex_assign rfl rfl⟩
  case fin =>
    intro L a' w' hI hall
    rename_i K2 hK2
    refine hK2 _ _ ?_
    have rC := hI.sC (hall 2 (by decide))
    have rD := hI.sE (hall 3 (by decide))
    have pC : a'.eval (.tmp 4) = .pointer (some ⟨w.heap.size + 1, 0, none⟩) := hI.fix 4 (Reg.notD rfl)
    have pD : a'.eval (.tmp 5) = .pointer (some ⟨w.heap.size + 2, 0, none⟩) := hI.fix 5 (Reg.notD rfl)
    have pe : a'.eval (.tmp 6) = .bool false := hI.pure 4 6 _ rfl (hall 4 (by decide))
    have tch := hI.tch
    have hdf : a'.defers = [] := hI.df
    have hT := run_loadVar_mid (P := Try.prog) w' (w.heap.size + 1) 0 _ l1 dT rC HD.out.1 HD.out.2.1 (by rw [hl1i.out.1]; exact size79)
    have hS := run_loadVar_mid (P := Try.prog) w' (w.heap.size + 2) 0 _ _ dS rD HD.out.2.2.1 HD.out.2.2.2 size46
    have hres := results_cct (Q := Try.prog) (fn := Try.f86) (tmps := a'.tmps) (t := 4) (t' := 5) (t'' := 6) (W := w') (by rfl) pC hT pD hS
    rw [show a'.tmps.getD 6 undef = .bool false from pe] at hres
    go_wp2
    refine bodyPost_ret (v := .tuple #[.agg l1.toArray, (⟨xh, xa, xt, xd, xp, true⟩ : Stp).val, .bool false]) hres hdf ⟨rfl, HRW.out.block (tch.block g HRW.out.lt (by omega)), ?_⟩
    have := HTW.out.trans' tch (fun k hk h => absurd hk (by omega))
    exact ⟨this.os, this.tape, this.output, this.size, fun k hk hn => this.block k hk (by simpa using hn)⟩

set_option maxHeartbeats 8000000 in
theorem rd5_no {w : World} {g n cap : Nat} {f f' : Nat → Int} {xh xa xt xd xp : Int} {s0 s1 s2 s3 s4 s5 hand a b c hh r0 r1 r2 r3 val : Int} {ok : Bool} (hr : IsRow w g n cap f) {e2 : Int} (he2 : u64 (r1 + 1) = e2)   (hx : stepOf n f ⟨hand, 5, 0, r1, e2, true⟩ = ⟨xh, xa, xt, xd, xp, false⟩) (hf' : wordsOf n f ⟨hand, 5, 0, r1, e2, true⟩ = f') :
    Calls Try.prog 86 #[.agg (tk ⟨s0, s1, s2, s3, s4, s5⟩ hand ⟨2, a, b, c, hh⟩ 5 ⟨r0, r1, r2, r3, 0, 0, 0, 0⟩ ⟨ok, val⟩).toArray, .slice (some ⟨g, 0, none⟩) n cap] w fun e w' =>
      e = .returned (.tuple #[.agg (tk ⟨s0, s1, s2, s3, s4, s5⟩ hand ⟨2, a, b, c, hh⟩ 6 ⟨r0, r1, r2, r3, 0, 0, 0, 0⟩ ⟨ok, val⟩).toArray, (⟨xh, xa, xt, xd, xp, false⟩ : Stp).val, .bool false]) ∧ IsRow w' g n cap f' ∧ w.grownBy w' (some g) := by
  have DO := hide (fun (w' : World) (hr' : IsRow w' g n cap f) => ref_do (s := ⟨hand, 5, 0, r1, e2, true⟩) hr' (by rw [← he2]; exact ⟨u64_lo _, u64_hi _⟩) ⟨by show (1 : Int) ≤ 5; decide, by show (5 : Int) ≤ 5; decide⟩)
  have HX := hide hx
  have HF := hide hf'
  have lg := hr.lt
  obtain ⟨l0, hl0⟩ : ∃ l, tk ⟨s0, s1, s2, s3, s4, s5⟩ hand ⟨2, a, b, c, hh⟩ 5 ⟨r0, r1, r2, r3, 0, 0, 0, 0⟩ ⟨ok, val⟩ = l := ⟨_, rfl⟩
  have hl0' : l0.length = 28 := by rw [← hl0]; rfl
  have hl0i := hide (show IsTk l0 from by rw [← hl0]; exact tk_is _ _ _ _ _ _)
  have hset : (l0.set 12 (.int .i64 6)) = tk ⟨s0, s1, s2, s3, s4, s5⟩ hand ⟨2, a, b, c, hh⟩ 6 ⟨r0, r1, r2, r3, 0, 0, 0, 0⟩ ⟨ok, val⟩ := by rw [← hl0] <;> rfl
  obtain ⟨l1, hl1⟩ : ∃ l, tk ⟨s0, s1, s2, s3, s4, s5⟩ hand ⟨2, a, b, c, hh⟩ 6 ⟨r0, r1, r2, r3, 0, 0, 0, 0⟩ ⟨ok, val⟩ = l := ⟨_, rfl⟩
  rw [hl0, hl1]
  rw [hl1] at hset
  have hl1i := hide (show IsTk l1 from by rw [← hl1]; exact tk_is _ _ _ _ _ _)
  obtain ⟨W3, hW3, sz3, R0, R1, R2, R3, G3, R4, cell⟩ := RPre.pre hr hl0'
  have HR3 := hide R4
  have g6 : l0[6]? = some (.int .i64 hand) := by rw [← hl0]; rfl
  have g12 : l0[12]? = some (.int .i64 5) := by rw [← hl0]; rfl
  have g13 : l0[13]? = some (.int .u64 r0) := by rw [← hl0]; rfl
  have g14 : l0[14]? = some (.int .u64 r1) := by rw [← hl0]; rfl
  have c6 := cell 6 _ g6
  have c12 := cell 12 _ g12
  have c13 := cell 13 _ g13
  have c14 := cell 14 _ g14
  have G6 := hide g6
  have G12 := hide g12
  have G13 := hide g13
  have G14 := hide g14
  obtain ⟨dT, hdT1, hdT2⟩ := row79
  obtain ⟨dS, hdS1, hdS2⟩ := row46
  have HD := hide (And.intro hdT1 (And.intro hdT2 (And.intro hdS1 hdS2)))
  have HR0 := hide R0
  have HR1 := hide R1
  have HR2 := hide R2
  have HRS := hide R3
  have HG3 := hide G3
  have HSET := hide hset
  have HL0 := hide hl0'
  have v2 : wrap64 2 = 2 := by unfold wrap64; omega
  have v3 : wrap64 3 = 3 := by unfold wrap64; omega
  have v4 : wrap64 4 = 4 := by unfold wrap64; omega
  have q2 := rwrap_u64 (r1 + 1)
  rw [he2] at q2
  clear hx hf' hr R0 R1 R2 R3 R4 G3 cell hset hl0' hl0 hl1 hdT1 hdT2 hdS1 hdS2 he2 g6 g12 g13 g14
  simp only [tk0, RPre.ZL] at hW3
  go_enter Try.func86, Try.ntmps86
  go_wp2_with fail
  refine (DO.out _ HR3.out).mono ?_
  rintro e w1 ⟨rfl, hr1, hg1⟩
  rw [HX.out]
  rw [HF.out] at hr1
  simp only [Stp.val]
  have sz1 := hg1.size
  obtain ⟨V1, hV1, szV, q1', q2', q3', q4', q5', q6', ⟨⟨z0, zf0⟩, ⟨z1, zf1⟩, ⟨z2, zf2⟩, ⟨z3, zf3⟩, ⟨z4, zf4⟩, z5, zf5⟩, y0, y1, y2, y3, y4, y5⟩ := RPre.aft ⟨xh, xa, xt, xd, xp, false⟩ HR0.out HR1.out HR2.out HRS.out HG3.out lg sz3 hr1 hg1
  try simp only at hV1 y0 y1 y2 y3 y4 y5
  have HRQ := hide (show V1.rangeAt (w.heap.size + 3) 0 [Value.int .i64 xh, .int .i64 xa, .int .i64 xt, .int .u64 xd, .int .u64 xp, .bool false] from q1')
  have HR4 := hide q2'
  have HR5 := hide q3'
  have HR6 := hide q4'
  have HR1' := hide q5'
  have HT1 := hide q6'
  have lV : w.heap.size + 3 < V1.heap.size := by omega
  have lV0 : w.heap.size < V1.heap.size := by omega
  have e6 : V1.cell? ⟨w.heap.size, 6, none⟩ = some (.int .i64 hand) := by rw [HR4.out.cell (i := 6) (by omega), lrow_of G6.out]
  have f6 := HR4.out.frozen 6
  have e12 : V1.cell? ⟨w.heap.size, 12, none⟩ = some (.int .i64 5) := by rw [HR4.out.cell (i := 12) (by omega), lrow_of G12.out]
  have f12 := HR4.out.frozen 12
  have e13 : V1.cell? ⟨w.heap.size, 13, none⟩ = some (.int .u64 r0) := by rw [HR4.out.cell (i := 13) (by omega), lrow_of G13.out]
  have f13 := HR4.out.frozen 13
  have e14 : V1.cell? ⟨w.heap.size, 14, none⟩ = some (.int .u64 r1) := by rw [HR4.out.cell (i := 14) (by omega), lrow_of G14.out]
  have f14 := HR4.out.frozen 14
  have l1w : w.heap.size + 3 < w1.heap.size := by omega
  clear hr1 hg1 q1' q2' q3' q4' q5' q6' hW3 c6 c12 c13 c14
  go_wp2_with fail
  clear hV1 z0 zf0 z1 zf1 z2 zf2 z3 zf3 z4 zf4 z5 zf5
  obtain ⟨WA, hWA⟩ : ∃ W, (V1.setCell ⟨w.heap.size, 12, none⟩ (.int .i64 6)) = W := ⟨_, rfl⟩
  have tt0 : Touch V1 WA (fun k => k = w.heap.size) := by
    rw [← hWA]
    exact Touch.trans' (S' := fun k => k = w.heap.size) (⟨rfl, rfl, rfl, Nat.le_refl _, fun _ _ _ => rfl⟩ : Touch V1 V1 (fun k => k = w.heap.size)) (Touch.setCell (S := fun k => k = w.heap.size) (Touch.refl V1 _) ⟨w.heap.size, 12, none⟩ (.inl rfl) _) (fun k _ h => h)
  have szA : WA.heap.size = V1.heap.size := by
    rw [← hWA] <;> first | (simp; done) | rfl | (simp; rfl)
  have rA : WA.rangeAt w.heap.size 0 l1 := by
    have := rowIs.range (rowIs.setL (show World.rowIs V1 w.heap.size 91 28 (lrow l0) from HR4.out) (i := 12) (by simp [HL0.out]) (.int .i64 6)) (by simp [HL0.out])
    rw [HSET.out, hWA] at this
    exact this
  have rB : WA.rangeAt (w.heap.size + 3) 0 [Value.int .i64 xh, .int .i64 xa, .int .i64 xt, .int .u64 xd, .int .u64 xp, .bool false] := rangeAt_block HRQ.out (tt0.block _ (by omega) (by omega))
  have tC : WA.there (w.heap.size + 1) 0 28 := rowIs.there (HR5.out.of_block (tt0.block _ (by omega) (by omega))) (by omega)
  have tD : WA.there (w.heap.size + 2) 0 6 := rowIs.there (HR6.out.of_block (tt0.block _ (by omega) (by omega))) (by omega)
  have rW : IsRow WA g n cap f' := HR1'.out.block (tt0.block g (by omega) (by omega))
  have TW : Touch w WA (fun k => k = g) := HT1.out.trans' tt0 (fun k hk h => absurd hk (by omega))
  first | rw [hWA] | skip
  have HTW := hide TW
  have HRW := hide rW
  clear TW rW hWA tt0
  refine RetN.region (ks := [(0, 114), (1, 115), (4, 6)]) (vals := fun i => match i with
      | 0 => .agg l1.toArray
      | 1 => .agg #[Value.int .i64 xh, .int .i64 xa, .int .i64 xt, .int .u64 xd, .int .u64 xp, .bool false]
      | 4 => .bool false
      | _ => undef) (C := w.heap.size + 1) (E := w.heap.size + 2) (iC := 2) (iE := 3) (lt := l1) (ls := [Value.int .i64 xh, .int .i64 xa, .int .i64 xt, .int .u64 xd, .int .u64 xp, .bool false]) (by kernel_rfl) ?g ?b rfl (by omega) (by decide) ?dd hl1i.out.2 (by simp [Value.oneCell']) (by rw [hl1i.out.1]; exact tC) tD ?kinds ?fin
  case g =>
    intro i o ho
    have hi : i < 5 := by have := (Array.getElem?_eq_some_iff.1 ho).1; simpa using this
    match i, hi with
    | 0, _ | 1, _ | 2, _ | 3, _ | 4, _ => injection ho with ho; subst ho; rfl
  case b =>
    intro i o ho
    have hi : i < 5 := by have := (Array.getElem?_eq_some_iff.1 ho).1; simpa using this
    match i, hi with
    | 0, _ | 1, _ | 2, _ | 3, _ | 4, _ => injection ho with ho; subst ho; simp [Region.binds]
  case dd =>
    intro k hk
    have hk' : k < 116 := by
      simp [RetN.D] at hk
      omega
    simpa using hk'
  case kinds =>
    intro i o ho
    have hi : i < 5 := by have := (Array.getElem?_eq_some_iff.1 ho).1; simpa using this
    match i, hi with
    | 0, _ => injection ho with ho; subst ho; exact .inl ⟨114, _, rfl, rfl, fun L a w' hI hd => ex_load_row rfl (hI.fix 2 (Reg.notD rfl)) (rangeAt_block rA (hI.tch.block _ (by omega) (by omega))) HD.out.1 HD.out.2.1 (by rw [hl1i.out.1]; exact size79)⟩
    | 1, _ => injection ho with ho; subst ho; exact .inl ⟨115, _, rfl, rfl, fun L a w' hI hd => ex_load_row rfl (hI.fix 7 (Reg.notD rfl)) (rangeAt_block rB (hI.tch.block _ (by omega) (by omega))) HD.out.2.2.1 HD.out.2.2.2 size46⟩
    | 2, _ => injection ho with ho; subst ho; exact .inr (.inl ⟨rfl, rfl, _, _, _, rfl, (by rw [hl1i.out.1]; exact size79), fun L a w' hI hd => ⟨hI.fix 4 (Reg.notD rfl), (hI.pure 0 _ _ rfl (hd ⟨0, .data⟩ (by simp) rfl))⟩⟩)
    | 3, _ => injection ho with ho; subst ho; exact .inr (.inr ⟨rfl, rfl, _, _, _, rfl, size46, fun L a w' hI hd => ⟨hI.fix 5 (Reg.notD rfl), (hI.pure 1 _ _ rfl (hd ⟨1, .data⟩ (by simp) rfl))⟩⟩)
    | 4, _ => injection ho with ho; subst ho; exact .inl ⟨6, _, rfl, rfl, fun L a w' hI hd => ex_assign rfl rfl⟩
  case fin =>
    intro L a' w' hI hall
    rename_i K2 hK2
    refine hK2 _ _ ?_
    have rC := hI.sC (hall 2 (by decide))
    have rD := hI.sE (hall 3 (by decide))
    have pC : a'.eval (.tmp 4) = .pointer (some ⟨w.heap.size + 1, 0, none⟩) := hI.fix 4 (Reg.notD rfl)
    have pD : a'.eval (.tmp 5) = .pointer (some ⟨w.heap.size + 2, 0, none⟩) := hI.fix 5 (Reg.notD rfl)
    have pe : a'.eval (.tmp 6) = .bool false := hI.pure 4 6 _ rfl (hall 4 (by decide))
    have tch := hI.tch
    have hdf : a'.defers = [] := hI.df
    have hT := run_loadVar_mid (P := Try.prog) w' (w.heap.size + 1) 0 _ l1 dT rC HD.out.1 HD.out.2.1 (by rw [hl1i.out.1]; exact size79)
    have hS := run_loadVar_mid (P := Try.prog) w' (w.heap.size + 2) 0 _ _ dS rD HD.out.2.2.1 HD.out.2.2.2 size46
    have hres := results_cct (Q := Try.prog) (fn := Try.f86) (tmps := a'.tmps) (t := 4) (t' := 5) (t'' := 6) (W := w') (by rfl) pC hT pD hS
    rw [show a'.tmps.getD 6 undef = .bool false from pe] at hres
    go_wp2
    refine bodyPost_ret (v := .tuple #[.agg l1.toArray, (⟨xh, xa, xt, xd, xp, false⟩ : Stp).val, .bool false]) hres hdf ⟨rfl, HRW.out.block (tch.block g HRW.out.lt (by omega)), ?_⟩
    have := HTW.out.trans' tch (fun k hk h => absurd hk (by omega))
    exact ⟨this.os, this.tape, this.output, this.size, fun k hk hn => this.block k hk (by simpa using hn)⟩

set_option maxHeartbeats 8000000 in
theorem rd6_ok {w : World} {g n cap : Nat} {f f' : Nat → Int} {x : Stp} {s0 s1 s2 s3 s4 s5 hand a b c hh r0 r1 r2 r3 val : Int} {ok : Bool} (hr : IsRow w g n cap f) (h0 : 0 ≤ r0 ∧ r0 ≤ 18446744073709551615) (a1 : r3 = 1)  (hx : stepOf n f ⟨hand, 2, 1, 0, r0, true⟩ = x) (hf' : wordsOf n f ⟨hand, 2, 1, 0, r0, true⟩ = f') :
    Calls Try.prog 86 #[.agg (tk ⟨s0, s1, s2, s3, s4, s5⟩ hand ⟨2, a, b, c, hh⟩ 6 ⟨r0, r1, r2, r3, 0, 0, 0, 0⟩ ⟨ok, val⟩).toArray, .slice (some ⟨g, 0, none⟩) n cap] w fun e w' =>
      e = .returned (.tuple #[.agg (tk ⟨s0, s1, s2, s3, s4, s5⟩ hand ⟨2, a, b, c, hh⟩ 6 ⟨r0, r1, r2, r3, 0, 0, 0, 0⟩ ⟨true, r2⟩).toArray, x.val, .bool true]) ∧ IsRow w' g n cap f' ∧ w.grownBy w' (some g) := by
  have DO := hide (fun (w' : World) (hr' : IsRow w' g n cap f) => ref_do (s := ⟨hand, 2, 1, 0, r0, true⟩) hr' h0 ⟨by show (1 : Int) ≤ 2; decide, by show (2 : Int) ≤ 5; decide⟩)
  have HX := hide hx
  have HF := hide hf'
  have lg := hr.lt
  obtain ⟨l0, hl0⟩ : ∃ l, tk ⟨s0, s1, s2, s3, s4, s5⟩ hand ⟨2, a, b, c, hh⟩ 6 ⟨r0, r1, r2, r3, 0, 0, 0, 0⟩ ⟨ok, val⟩ = l := ⟨_, rfl⟩
  have hl0' : l0.length = 28 := by rw [← hl0]; rfl
  have hl0i := hide (show IsTk l0 from by rw [← hl0]; exact tk_is _ _ _ _ _ _)
  have hset : ((l0.set 22 (.bool true)).set 23 (.int .u64 r2)) = tk ⟨s0, s1, s2, s3, s4, s5⟩ hand ⟨2, a, b, c, hh⟩ 6 ⟨r0, r1, r2, r3, 0, 0, 0, 0⟩ ⟨true, r2⟩ := by rw [← hl0] <;> rfl
  obtain ⟨l1, hl1⟩ : ∃ l, tk ⟨s0, s1, s2, s3, s4, s5⟩ hand ⟨2, a, b, c, hh⟩ 6 ⟨r0, r1, r2, r3, 0, 0, 0, 0⟩ ⟨true, r2⟩ = l := ⟨_, rfl⟩
  rw [hl0, hl1]
  rw [hl1] at hset
  have hl1i := hide (show IsTk l1 from by rw [← hl1]; exact tk_is _ _ _ _ _ _)
  obtain ⟨W3, hW3, sz3, R0, R1, R2, R3, G3, R4, cell⟩ := RPre.pre hr hl0'
  have HR3 := hide R4
  have g6 : l0[6]? = some (.int .i64 hand) := by rw [← hl0]; rfl
  have g12 : l0[12]? = some (.int .i64 6) := by rw [← hl0]; rfl
  have g13 : l0[13]? = some (.int .u64 r0) := by rw [← hl0]; rfl
  have g15 : l0[15]? = some (.int .u64 r2) := by rw [← hl0]; rfl
  have g16 : l0[16]? = some (.int .u64 r3) := by rw [← hl0]; rfl
  have g22 : l0[22]? = some (.bool ok) := by rw [← hl0]; rfl
  have g23 : l0[23]? = some (.int .u64 val) := by rw [← hl0]; rfl
  have c6 := cell 6 _ g6
  have c12 := cell 12 _ g12
  have c13 := cell 13 _ g13
  have c15 := cell 15 _ g15
  have c16 := cell 16 _ g16
  have c22 := cell 22 _ g22
  have c23 := cell 23 _ g23
  have G6 := hide g6
  have G12 := hide g12
  have G13 := hide g13
  have G15 := hide g15
  have G16 := hide g16
  have G22 := hide g22
  have G23 := hide g23
  obtain ⟨dT, hdT1, hdT2⟩ := row79
  obtain ⟨dS, hdS1, hdS2⟩ := row46
  have HD := hide (And.intro hdT1 (And.intro hdT2 (And.intro hdS1 hdS2)))
  have HR0 := hide R0
  have HR1 := hide R1
  have HR2 := hide R2
  have HRS := hide R3
  have HG3 := hide G3
  have HSET := hide hset
  have HL0 := hide hl0'
  have v2 : wrap64 2 = 2 := by unfold wrap64; omega
  have v3 : wrap64 3 = 3 := by unfold wrap64; omega
  have v4 : wrap64 4 = 4 := by unfold wrap64; omega
  clear hx hf' hr R0 R1 R2 R3 R4 G3 cell hset hl0' hl0 hl1 hdT1 hdT2 hdS1 hdS2 h0 g6 g12 g13 g15 g16 g22 g23
  simp only [tk0, RPre.ZL] at hW3
  go_enter Try.func86, Try.ntmps86
  go_wp2_with fail
  refine (DO.out _ HR3.out).mono ?_
  rintro e w1 ⟨rfl, hr1, hg1⟩
  rw [HX.out]
  rw [HF.out] at hr1
  simp only [Stp.val]
  have sz1 := hg1.size
  obtain ⟨V1, hV1, szV, q1', q2', q3', q4', q5', q6', ⟨⟨z0, zf0⟩, ⟨z1, zf1⟩, ⟨z2, zf2⟩, ⟨z3, zf3⟩, ⟨z4, zf4⟩, z5, zf5⟩, y0, y1, y2, y3, y4, y5⟩ := RPre.aft x HR0.out HR1.out HR2.out HRS.out HG3.out lg sz3 hr1 hg1
  try simp only at hV1 y0 y1 y2 y3 y4 y5
  have HRQ := hide (show V1.rangeAt (w.heap.size + 3) 0 [Value.int .i64 x.hand, .int .i64 x.act, .int .i64 x.at_, .int .u64 x.had, .int .u64 x.put, .bool x.ok] from q1')
  have HR4 := hide q2'
  have HR5 := hide q3'
  have HR6 := hide q4'
  have HR1' := hide q5'
  have HT1 := hide q6'
  have lV : w.heap.size + 3 < V1.heap.size := by omega
  have lV0 : w.heap.size < V1.heap.size := by omega
  have e6 : V1.cell? ⟨w.heap.size, 6, none⟩ = some (.int .i64 hand) := by rw [HR4.out.cell (i := 6) (by omega), lrow_of G6.out]
  have f6 := HR4.out.frozen 6
  have e12 : V1.cell? ⟨w.heap.size, 12, none⟩ = some (.int .i64 6) := by rw [HR4.out.cell (i := 12) (by omega), lrow_of G12.out]
  have f12 := HR4.out.frozen 12
  have e13 : V1.cell? ⟨w.heap.size, 13, none⟩ = some (.int .u64 r0) := by rw [HR4.out.cell (i := 13) (by omega), lrow_of G13.out]
  have f13 := HR4.out.frozen 13
  have e15 : V1.cell? ⟨w.heap.size, 15, none⟩ = some (.int .u64 r2) := by rw [HR4.out.cell (i := 15) (by omega), lrow_of G15.out]
  have f15 := HR4.out.frozen 15
  have e16 : V1.cell? ⟨w.heap.size, 16, none⟩ = some (.int .u64 r3) := by rw [HR4.out.cell (i := 16) (by omega), lrow_of G16.out]
  have f16 := HR4.out.frozen 16
  have e22 : V1.cell? ⟨w.heap.size, 22, none⟩ = some (.bool ok) := by rw [HR4.out.cell (i := 22) (by omega), lrow_of G22.out]
  have f22 := HR4.out.frozen 22
  have e23 : V1.cell? ⟨w.heap.size, 23, none⟩ = some (.int .u64 val) := by rw [HR4.out.cell (i := 23) (by omega), lrow_of G23.out]
  have f23 := HR4.out.frozen 23
  have l1w : w.heap.size + 3 < w1.heap.size := by omega
  clear hr1 hg1 q1' q2' q3' q4' q5' q6' hW3 c6 c12 c13 c15 c16 c22 c23
  go_wp2_with fail
  clear hV1 z0 zf0 z1 zf1 z2 zf2 z3 zf3 z4 zf4 z5 zf5
  obtain ⟨WA, hWA⟩ : ∃ W, ((V1.setCell ⟨w.heap.size, 22, none⟩ (.bool true)).setCell ⟨w.heap.size, 23, none⟩ (.int .u64 r2)) = W := ⟨_, rfl⟩
  have tt0 : Touch V1 WA (fun k => k = w.heap.size) := by
    rw [← hWA]
    exact Touch.trans' (S' := fun k => k = w.heap.size) (⟨rfl, rfl, rfl, Nat.le_refl _, fun _ _ _ => rfl⟩ : Touch V1 V1 (fun k => k = w.heap.size)) (Touch.setCell (S := fun k => k = w.heap.size) (Touch.setCell (S := fun k => k = w.heap.size) (Touch.refl V1 _) ⟨w.heap.size, 22, none⟩ (.inl rfl) _) ⟨w.heap.size, 23, none⟩ (.inl rfl) _) (fun k _ h => h)
  have szA : WA.heap.size = V1.heap.size := by
    rw [← hWA] <;> first | (simp; done) | rfl | (simp; rfl)
  have rA : WA.rangeAt w.heap.size 0 l1 := by
    have := rowIs.range (rowIs.setL (rowIs.setL (show World.rowIs V1 w.heap.size 91 28 (lrow l0) from HR4.out) (i := 22) (by simp [HL0.out]) (.bool true)) (i := 23) (by simp [HL0.out]) (.int .u64 r2)) (by simp [HL0.out])
    rw [HSET.out, hWA] at this
    exact this
  have rB : WA.rangeAt (w.heap.size + 3) 0 [Value.int .i64 x.hand, .int .i64 x.act, .int .i64 x.at_, .int .u64 x.had, .int .u64 x.put, .bool x.ok] := rangeAt_block HRQ.out (tt0.block _ (by omega) (by omega))
  have tC : WA.there (w.heap.size + 1) 0 28 := rowIs.there (HR5.out.of_block (tt0.block _ (by omega) (by omega))) (by omega)
  have tD : WA.there (w.heap.size + 2) 0 6 := rowIs.there (HR6.out.of_block (tt0.block _ (by omega) (by omega))) (by omega)
  have rW : IsRow WA g n cap f' := HR1'.out.block (tt0.block g (by omega) (by omega))
  have TW : Touch w WA (fun k => k = g) := HT1.out.trans' tt0 (fun k hk h => absurd hk (by omega))
  first | rw [hWA] | skip
  have HTW := hide TW
  have HRW := hide rW
  clear TW rW hWA tt0
  refine RetN.region (ks := [(0, 28), (1, 29), (4, 6)]) (vals := fun i => match i with
      | 0 => .agg l1.toArray
      | 1 => .agg #[Value.int .i64 x.hand, .int .i64 x.act, .int .i64 x.at_, .int .u64 x.had, .int .u64 x.put, .bool x.ok]
      | 4 => .bool true
      | _ => undef) (C := w.heap.size + 1) (E := w.heap.size + 2) (iC := 2) (iE := 3) (lt := l1) (ls := [Value.int .i64 x.hand, .int .i64 x.act, .int .i64 x.at_, .int .u64 x.had, .int .u64 x.put, .bool x.ok]) (by kernel_rfl) ?g ?b rfl (by omega) (by decide) ?dd hl1i.out.2 (by simp [Value.oneCell']) (by rw [hl1i.out.1]; exact tC) tD ?kinds ?fin
  case g =>
    intro i o ho
    have hi : i < 5 := by have := (Array.getElem?_eq_some_iff.1 ho).1; simpa using this
    match i, hi with
    | 0, _ | 1, _ | 2, _ | 3, _ | 4, _ => injection ho with ho; subst ho; rfl
  case b =>
    intro i o ho
    have hi : i < 5 := by have := (Array.getElem?_eq_some_iff.1 ho).1; simpa using this
    match i, hi with
    | 0, _ | 1, _ | 2, _ | 3, _ | 4, _ => injection ho with ho; subst ho; simp [Region.binds]
  case dd =>
    intro k hk
    have hk' : k < 116 := by
      simp [RetN.D] at hk
      omega
    simpa using hk'
  case kinds =>
    intro i o ho
    have hi : i < 5 := by have := (Array.getElem?_eq_some_iff.1 ho).1; simpa using this
    match i, hi with
    | 0, _ => injection ho with ho; subst ho; exact .inl ⟨28, _, rfl, rfl, fun L a w' hI hd => ex_load_row rfl (hI.fix 2 (Reg.notD rfl)) (rangeAt_block rA (hI.tch.block _ (by omega) (by omega))) HD.out.1 HD.out.2.1 (by rw [hl1i.out.1]; exact size79)⟩
    | 1, _ => injection ho with ho; subst ho; exact .inl ⟨29, _, rfl, rfl, fun L a w' hI hd => ex_load_row rfl (hI.fix 7 (Reg.notD rfl)) (rangeAt_block rB (hI.tch.block _ (by omega) (by omega))) HD.out.2.2.1 HD.out.2.2.2 size46⟩
    | 2, _ => injection ho with ho; subst ho; exact .inr (.inl ⟨rfl, rfl, _, _, _, rfl, (by rw [hl1i.out.1]; exact size79), fun L a w' hI hd => ⟨hI.fix 4 (Reg.notD rfl), (hI.pure 0 _ _ rfl (hd ⟨0, .data⟩ (by simp) rfl))⟩⟩)
    | 3, _ => injection ho with ho; subst ho; exact .inr (.inr ⟨rfl, rfl, _, _, _, rfl, size46, fun L a w' hI hd => ⟨hI.fix 5 (Reg.notD rfl), (hI.pure 1 _ _ rfl (hd ⟨1, .data⟩ (by simp) rfl))⟩⟩)
    | 4, _ => injection ho with ho; subst ho; exact .inl ⟨6, _, rfl, rfl, fun L a w' hI hd => ex_assign rfl rfl⟩
  case fin =>
    intro L a' w' hI hall
    rename_i K2 hK2
    refine hK2 _ _ ?_
    have rC := hI.sC (hall 2 (by decide))
    have rD := hI.sE (hall 3 (by decide))
    have pC : a'.eval (.tmp 4) = .pointer (some ⟨w.heap.size + 1, 0, none⟩) := hI.fix 4 (Reg.notD rfl)
    have pD : a'.eval (.tmp 5) = .pointer (some ⟨w.heap.size + 2, 0, none⟩) := hI.fix 5 (Reg.notD rfl)
    have pe : a'.eval (.tmp 6) = .bool true := hI.pure 4 6 _ rfl (hall 4 (by decide))
    have tch := hI.tch
    have hdf : a'.defers = [] := hI.df
    have hT := run_loadVar_mid (P := Try.prog) w' (w.heap.size + 1) 0 _ l1 dT rC HD.out.1 HD.out.2.1 (by rw [hl1i.out.1]; exact size79)
    have hS := run_loadVar_mid (P := Try.prog) w' (w.heap.size + 2) 0 _ _ dS rD HD.out.2.2.1 HD.out.2.2.2 size46
    have hres := results_cct (Q := Try.prog) (fn := Try.f86) (tmps := a'.tmps) (t := 4) (t' := 5) (t'' := 6) (W := w') (by rfl) pC hT pD hS
    rw [show a'.tmps.getD 6 undef = .bool true from pe] at hres
    go_wp2
    refine bodyPost_ret (v := .tuple #[.agg l1.toArray, x.val, .bool true]) hres hdf ⟨rfl, HRW.out.block (tch.block g HRW.out.lt (by omega)), ?_⟩
    have := HTW.out.trans' tch (fun k hk h => absurd hk (by omega))
    exact ⟨this.os, this.tape, this.output, this.size, fun k hk hn => this.block k hk (by simpa using hn)⟩

set_option maxHeartbeats 8000000 in
theorem rd6_no {w : World} {g n cap : Nat} {f f' : Nat → Int} {x : Stp} {s0 s1 s2 s3 s4 s5 hand a b c hh r0 r1 r2 r3 val : Int} {ok : Bool} (hr : IsRow w g n cap f) (h0 : 0 ≤ r0 ∧ r0 ≤ 18446744073709551615) (a1 : ¬ r3 = 1)  (hx : stepOf n f ⟨hand, 2, 1, 0, r0, true⟩ = x) (hf' : wordsOf n f ⟨hand, 2, 1, 0, r0, true⟩ = f') :
    Calls Try.prog 86 #[.agg (tk ⟨s0, s1, s2, s3, s4, s5⟩ hand ⟨2, a, b, c, hh⟩ 6 ⟨r0, r1, r2, r3, 0, 0, 0, 0⟩ ⟨ok, val⟩).toArray, .slice (some ⟨g, 0, none⟩) n cap] w fun e w' =>
      e = .returned (.tuple #[.agg (tk ⟨s0, s1, s2, s3, s4, s5⟩ hand ⟨2, a, b, c, hh⟩ 6 ⟨r0, r1, r2, r3, 0, 0, 0, 0⟩ ⟨ok, val⟩).toArray, x.val, .bool true]) ∧ IsRow w' g n cap f' ∧ w.grownBy w' (some g) := by
  have DO := hide (fun (w' : World) (hr' : IsRow w' g n cap f) => ref_do (s := ⟨hand, 2, 1, 0, r0, true⟩) hr' h0 ⟨by show (1 : Int) ≤ 2; decide, by show (2 : Int) ≤ 5; decide⟩)
  have HX := hide hx
  have HF := hide hf'
  have lg := hr.lt
  obtain ⟨l0, hl0⟩ : ∃ l, tk ⟨s0, s1, s2, s3, s4, s5⟩ hand ⟨2, a, b, c, hh⟩ 6 ⟨r0, r1, r2, r3, 0, 0, 0, 0⟩ ⟨ok, val⟩ = l := ⟨_, rfl⟩
  have hl0' : l0.length = 28 := by rw [← hl0]; rfl
  have hl0i := hide (show IsTk l0 from by rw [← hl0]; exact tk_is _ _ _ _ _ _)
  have hset : l0 = l0 := rfl
  rw [hl0]
  obtain ⟨W3, hW3, sz3, R0, R1, R2, R3, G3, R4, cell⟩ := RPre.pre hr hl0'
  have HR3 := hide R4
  have g6 : l0[6]? = some (.int .i64 hand) := by rw [← hl0]; rfl
  have g12 : l0[12]? = some (.int .i64 6) := by rw [← hl0]; rfl
  have g13 : l0[13]? = some (.int .u64 r0) := by rw [← hl0]; rfl
  have g16 : l0[16]? = some (.int .u64 r3) := by rw [← hl0]; rfl
  have c6 := cell 6 _ g6
  have c12 := cell 12 _ g12
  have c13 := cell 13 _ g13
  have c16 := cell 16 _ g16
  have G6 := hide g6
  have G12 := hide g12
  have G13 := hide g13
  have G16 := hide g16
  obtain ⟨dT, hdT1, hdT2⟩ := row79
  obtain ⟨dS, hdS1, hdS2⟩ := row46
  have HD := hide (And.intro hdT1 (And.intro hdT2 (And.intro hdS1 hdS2)))
  have HR0 := hide R0
  have HR1 := hide R1
  have HR2 := hide R2
  have HRS := hide R3
  have HG3 := hide G3
  have HSET := hide hset
  have HL0 := hide hl0'
  have v2 : wrap64 2 = 2 := by unfold wrap64; omega
  have v3 : wrap64 3 = 3 := by unfold wrap64; omega
  have v4 : wrap64 4 = 4 := by unfold wrap64; omega
  clear hx hf' hr R0 R1 R2 R3 R4 G3 cell hset hl0' hl0  hdT1 hdT2 hdS1 hdS2 h0 g6 g12 g13 g16
  simp only [tk0, RPre.ZL] at hW3
  go_enter Try.func86, Try.ntmps86
  go_wp2_with fail
  refine (DO.out _ HR3.out).mono ?_
  rintro e w1 ⟨rfl, hr1, hg1⟩
  rw [HX.out]
  rw [HF.out] at hr1
  simp only [Stp.val]
  have sz1 := hg1.size
  obtain ⟨V1, hV1, szV, q1', q2', q3', q4', q5', q6', ⟨⟨z0, zf0⟩, ⟨z1, zf1⟩, ⟨z2, zf2⟩, ⟨z3, zf3⟩, ⟨z4, zf4⟩, z5, zf5⟩, y0, y1, y2, y3, y4, y5⟩ := RPre.aft x HR0.out HR1.out HR2.out HRS.out HG3.out lg sz3 hr1 hg1
  try simp only at hV1 y0 y1 y2 y3 y4 y5
  have HRQ := hide (show V1.rangeAt (w.heap.size + 3) 0 [Value.int .i64 x.hand, .int .i64 x.act, .int .i64 x.at_, .int .u64 x.had, .int .u64 x.put, .bool x.ok] from q1')
  have HR4 := hide q2'
  have HR5 := hide q3'
  have HR6 := hide q4'
  have HR1' := hide q5'
  have HT1 := hide q6'
  have lV : w.heap.size + 3 < V1.heap.size := by omega
  have lV0 : w.heap.size < V1.heap.size := by omega
  have e6 : V1.cell? ⟨w.heap.size, 6, none⟩ = some (.int .i64 hand) := by rw [HR4.out.cell (i := 6) (by omega), lrow_of G6.out]
  have f6 := HR4.out.frozen 6
  have e12 : V1.cell? ⟨w.heap.size, 12, none⟩ = some (.int .i64 6) := by rw [HR4.out.cell (i := 12) (by omega), lrow_of G12.out]
  have f12 := HR4.out.frozen 12
  have e13 : V1.cell? ⟨w.heap.size, 13, none⟩ = some (.int .u64 r0) := by rw [HR4.out.cell (i := 13) (by omega), lrow_of G13.out]
  have f13 := HR4.out.frozen 13
  have e16 : V1.cell? ⟨w.heap.size, 16, none⟩ = some (.int .u64 r3) := by rw [HR4.out.cell (i := 16) (by omega), lrow_of G16.out]
  have f16 := HR4.out.frozen 16
  have l1w : w.heap.size + 3 < w1.heap.size := by omega
  clear hr1 hg1 q1' q2' q3' q4' q5' q6' hW3 c6 c12 c13 c16
  go_wp2_with fail
  clear hV1 z0 zf0 z1 zf1 z2 zf2 z3 zf3 z4 zf4 z5 zf5
  obtain ⟨WA, hWA⟩ : ∃ W, V1 = W := ⟨_, rfl⟩
  have tt0 : Touch V1 WA (fun k => k = w.heap.size) := by
    rw [← hWA]
    exact Touch.trans' (S' := fun k => k = w.heap.size) (⟨rfl, rfl, rfl, Nat.le_refl _, fun _ _ _ => rfl⟩ : Touch V1 V1 (fun k => k = w.heap.size)) (Touch.refl V1 _) (fun k _ h => h)
  have szA : WA.heap.size = V1.heap.size := by
    rw [← hWA] <;> first | (simp; done) | rfl | (simp; rfl)
  have rA : WA.rangeAt w.heap.size 0 l0 := by
    have := rowIs.range (show World.rowIs V1 w.heap.size 91 28 (lrow l0) from HR4.out) (by simp [HL0.out])
    rw [hWA] at this
    exact this
  have rB : WA.rangeAt (w.heap.size + 3) 0 [Value.int .i64 x.hand, .int .i64 x.act, .int .i64 x.at_, .int .u64 x.had, .int .u64 x.put, .bool x.ok] := rangeAt_block HRQ.out (tt0.block _ (by omega) (by omega))
  have tC : WA.there (w.heap.size + 1) 0 28 := rowIs.there (HR5.out.of_block (tt0.block _ (by omega) (by omega))) (by omega)
  have tD : WA.there (w.heap.size + 2) 0 6 := rowIs.there (HR6.out.of_block (tt0.block _ (by omega) (by omega))) (by omega)
  have rW : IsRow WA g n cap f' := HR1'.out.block (tt0.block g (by omega) (by omega))
  have TW : Touch w WA (fun k => k = g) := HT1.out.trans' tt0 (fun k hk h => absurd hk (by omega))
  first | rw [hWA] | skip
  have HTW := hide TW
  have HRW := hide rW
  clear TW rW hWA tt0
  refine RetN.region (ks := [(0, 28), (1, 29), (4, 6)]) (vals := fun i => match i with
      | 0 => .agg l0.toArray
      | 1 => .agg #[Value.int .i64 x.hand, .int .i64 x.act, .int .i64 x.at_, .int .u64 x.had, .int .u64 x.put, .bool x.ok]
      | 4 => .bool true
      | _ => undef) (C := w.heap.size + 1) (E := w.heap.size + 2) (iC := 2) (iE := 3) (lt := l0) (ls := [Value.int .i64 x.hand, .int .i64 x.act, .int .i64 x.at_, .int .u64 x.had, .int .u64 x.put, .bool x.ok]) (by kernel_rfl) ?g ?b rfl (by omega) (by decide) ?dd hl0i.out.2 (by simp [Value.oneCell']) (by rw [hl0i.out.1]; exact tC) tD ?kinds ?fin
  case g =>
    intro i o ho
    have hi : i < 5 := by have := (Array.getElem?_eq_some_iff.1 ho).1; simpa using this
    match i, hi with
    | 0, _ | 1, _ | 2, _ | 3, _ | 4, _ => injection ho with ho; subst ho; rfl
  case b =>
    intro i o ho
    have hi : i < 5 := by have := (Array.getElem?_eq_some_iff.1 ho).1; simpa using this
    match i, hi with
    | 0, _ | 1, _ | 2, _ | 3, _ | 4, _ => injection ho with ho; subst ho; simp [Region.binds]
  case dd =>
    intro k hk
    have hk' : k < 116 := by
      simp [RetN.D] at hk
      omega
    simpa using hk'
  case kinds =>
    intro i o ho
    have hi : i < 5 := by have := (Array.getElem?_eq_some_iff.1 ho).1; simpa using this
    match i, hi with
    | 0, _ => injection ho with ho; subst ho; exact .inl ⟨28, _, rfl, rfl, fun L a w' hI hd => ex_load_row rfl (hI.fix 2 (Reg.notD rfl)) (rangeAt_block rA (hI.tch.block _ (by omega) (by omega))) HD.out.1 HD.out.2.1 (by rw [hl0i.out.1]; exact size79)⟩
    | 1, _ => injection ho with ho; subst ho; exact .inl ⟨29, _, rfl, rfl, fun L a w' hI hd => ex_load_row rfl (hI.fix 7 (Reg.notD rfl)) (rangeAt_block rB (hI.tch.block _ (by omega) (by omega))) HD.out.2.2.1 HD.out.2.2.2 size46⟩
    | 2, _ => injection ho with ho; subst ho; exact .inr (.inl ⟨rfl, rfl, _, _, _, rfl, (by rw [hl0i.out.1]; exact size79), fun L a w' hI hd => ⟨hI.fix 4 (Reg.notD rfl), (hI.pure 0 _ _ rfl (hd ⟨0, .data⟩ (by simp) rfl))⟩⟩)
    | 3, _ => injection ho with ho; subst ho; exact .inr (.inr ⟨rfl, rfl, _, _, _, rfl, size46, fun L a w' hI hd => ⟨hI.fix 5 (Reg.notD rfl), (hI.pure 1 _ _ rfl (hd ⟨1, .data⟩ (by simp) rfl))⟩⟩)
    | 4, _ => injection ho with ho; subst ho; exact .inl ⟨6, _, rfl, rfl, fun L a w' hI hd => ex_assign rfl rfl⟩
  case fin =>
    intro L a' w' hI hall
    rename_i K2 hK2
    refine hK2 _ _ ?_
    have rC := hI.sC (hall 2 (by decide))
    have rD := hI.sE (hall 3 (by decide))
    have pC : a'.eval (.tmp 4) = .pointer (some ⟨w.heap.size + 1, 0, none⟩) := hI.fix 4 (Reg.notD rfl)
    have pD : a'.eval (.tmp 5) = .pointer (some ⟨w.heap.size + 2, 0, none⟩) := hI.fix 5 (Reg.notD rfl)
    have pe : a'.eval (.tmp 6) = .bool true := hI.pure 4 6 _ rfl (hall 4 (by decide))
    have tch := hI.tch
    have hdf : a'.defers = [] := hI.df
    have hT := run_loadVar_mid (P := Try.prog) w' (w.heap.size + 1) 0 _ l0 dT rC HD.out.1 HD.out.2.1 (by rw [hl0i.out.1]; exact size79)
    have hS := run_loadVar_mid (P := Try.prog) w' (w.heap.size + 2) 0 _ _ dS rD HD.out.2.2.1 HD.out.2.2.2 size46
    have hres := results_cct (Q := Try.prog) (fn := Try.f86) (tmps := a'.tmps) (t := 4) (t' := 5) (t'' := 6) (W := w') (by rfl) pC hT pD hS
    rw [show a'.tmps.getD 6 undef = .bool true from pe] at hres
    go_wp2
    refine bodyPost_ret (v := .tuple #[.agg l0.toArray, x.val, .bool true]) hres hdf ⟨rfl, HRW.out.block (tch.block g HRW.out.lt (by omega)), ?_⟩
    have := HTW.out.trans' tch (fun k hk h => absurd hk (by omega))
    exact ⟨this.os, this.tape, this.output, this.size, fun k hk hn => this.block k hk (by simpa using hn)⟩

end Deal
end Go.Proofs.Ytbjlpmahomjgjaa
