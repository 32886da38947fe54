/-
  Lemmas: DealRA.
-/
import Derived.Test.YtbjlpmahomjgjaaTr01
import Derived.Test.YtbjlpmahomjgjaaTr15
set_option linter.unusedVariables false
set_option linter.unusedSimpArgs false
set_option linter.unnecessarySimpa false
set_option maxRecDepth 20000
namespace Go.Proofs.Ytbjlpmahomjgjaa
open Go.RowKit
namespace Deal

theorem rwrap_u64 (x : Int) : IntKind.u64.wrap x = u64 x := by rw [IntKind.wrap_u64]; rfl
theorem ex_sub1 {ev : Operand → Value} {o : Oper} {w : World} {x y : Operand} {v u : Int} (ho : o.op = .binOp .sub 42 x y 42) (hx : ev x = .int .u64 v) (hy : ev y = .int .u64 1) (hu : u64 (v - 1) = u) : (execOp ev o).run Try.prog w = .ok (.value (.int .u64 u)) w := by
  have := rwrap_u64 (v - 1)
  rw [hu] at this
  simp [execOp, ho, hx, hy, go_sem, this]
theorem callRPlace (args : Array Value) (w : World) : (callFunc 97 args).run Try.prog w = .ok (.enter 97 args) w := by simp [go_sem]
set_option maxHeartbeats 1000000 in
theorem rless_any (x y : Int) (w : World) : Calls Try.prog 96 #[.int .u64 x, .int .u64 y] w fun e w' => e = .returned (.int .i64 (ahd x y)) ∧ w' = w := by
  have g1 := rwrap_u64 (x - y)
  have g2 : IntKind.i64.wrap (u64 (x - y)) = ahd x y := by rw [IntKind.wrap_i64]; unfold ahd wrap64; omega
  have g3 : wrap64 (u64 (x - y)) = ahd x y := rfl
  go_enter Try.func96, Try.ntmps96
  go_wp2_with fail
  go_ret
  exact ⟨rfl, rfl⟩
set_option maxHeartbeats 2000000 in
theorem rplace_any {l : List Value} {s5 p : Int} (hl : IsTk l) (h5 : l[5]? = some (.int .i64 s5)) (hs : 1 ≤ s5 ∧ s5 ≤ 64) (hp : 0 ≤ p ∧ p ≤ 18446744073709551615) (w : World) : Calls Try.prog 97 #[.agg l.toArray, .int .u64 p] w fun e w' => e = .returned (.int .i64 (plc s5 p)) ∧ w.grownBy w' none := by
  have hb := plc_bounds p hs.1 hs.2
  have hmo : 0 ≤ p % s5 ∧ p % s5 < 64 := by unfold plc at hb; omega
  have b0 : IntKind.u64.wrap s5 = s5 := by rw [IntKind.wrap_u64]; omega
  have b1 : p.tmod s5 = p % s5 := Int.tmod_eq_emod_of_nonneg hp.1
  have b00 : ¬ s5 = 0 := by omega
  have b2 : wrap64 (p % s5) = p % s5 := by unfold wrap64; omega
  have b2' : IntKind.i64.wrap (p % s5) = p % s5 := by rw [IntKind.wrap_i64]; omega
  have b3 : wrap64 (2 + p % s5) = plc s5 p := by unfold plc wrap64; omega
  obtain ⟨W1, hW1⟩ : ∃ W1, w.alloc (.cells l.toArray 91) = W1 := ⟨_, rfl⟩
  have c5 : W1.cell? ⟨w.heap.size, 5, none⟩ = some (.int .i64 s5) := by
    rw [← hW1]
    have := (rowL_alloc w l 91 hl.1).cell (i := 5) (by omega)
    rw [this, lrow_of h5]
  have hg := hide (show w.grownBy W1 none from by rw [← hW1]; exact grown_alloc (grown_refl _ _) _)
  have hl1 : l.length = 28 := hl.1
  clear hb hmo
  go_enter Try.func97, Try.ntmps97
  go_wp2_with fail
  go_ret
  first
  | exact ⟨rfl, hg.out⟩
  | exact ⟨congrArg (fun z => Ending.returned (.int .i64 z)) b3, hg.out⟩

set_option maxHeartbeats 8000000 in
theorem rl1 {w : World} {g n cap : Nat} {f f' : Nat → Int} {x : Stp} {s0 s1 s2 s3 s4 s5 hand a b c hh r0 r1 r2 r3 val : Int} {ok : Bool} (hr : IsRow w g n cap f)  (hx : stepOf n f ⟨hand, 1, 1, 0, 0, true⟩ = x) (hf' : wordsOf n f ⟨hand, 1, 1, 0, 0, true⟩ = f') :
    Calls Try.prog 85 #[.agg (tk ⟨s0, s1, s2, s3, s4, s5⟩ hand ⟨1, a, b, c, hh⟩ 1 ⟨r0, r1, r2, r3, 0, 0, 0, 0⟩ ⟨ok, val⟩).toArray, .slice (some ⟨g, 0, none⟩) n cap] w fun e w' =>
      e = .returned (.tuple #[.agg (tk ⟨s0, s1, s2, s3, s4, s5⟩ hand ⟨1, a, b, c, hh⟩ 2 ⟨x.had, r1, r2, r3, 0, 0, 0, 0⟩ ⟨ok, val⟩).toArray, x.val, .bool false]) ∧ IsRow w' g n cap f' ∧ w.grownBy w' (some g) := by
  have DO := hide (fun (w' : World) (hr' : IsRow w' g n cap f) => ref_do (s := ⟨hand, 1, 1, 0, 0, true⟩) hr' ⟨by show (0 : Int) ≤ 0; omega, by show (0 : Int) ≤ 18446744073709551615; omega⟩ ⟨by show (1 : Int) ≤ 1; decide, by show (1 : Int) ≤ 5; decide⟩)
  have HX := hide hx
  have HF := hide hf'
  have lg := hr.lt
  obtain ⟨l0, hl0⟩ : ∃ l, tk ⟨s0, s1, s2, s3, s4, s5⟩ hand ⟨1, a, b, c, hh⟩ 1 ⟨r0, r1, r2, r3, 0, 0, 0, 0⟩ ⟨ok, val⟩ = l := ⟨_, rfl⟩
  have hl0' : l0.length = 28 := by rw [← hl0]; rfl
  have hl0i := hide (show IsTk l0 from by rw [← hl0]; exact tk_is _ _ _ _ _ _)
  have hset : ((l0.set 13 (.int .u64 x.had)).set 12 (.int .i64 2)) = tk ⟨s0, s1, s2, s3, s4, s5⟩ hand ⟨1, a, b, c, hh⟩ 2 ⟨x.had, r1, r2, r3, 0, 0, 0, 0⟩ ⟨ok, val⟩ := by rw [← hl0] <;> rfl
  obtain ⟨l1, hl1⟩ : ∃ l, tk ⟨s0, s1, s2, s3, s4, s5⟩ hand ⟨1, a, b, c, hh⟩ 2 ⟨x.had, r1, r2, r3, 0, 0, 0, 0⟩ ⟨ok, val⟩ = l := ⟨_, rfl⟩
  rw [hl0, hl1]
  rw [hl1] at hset
  have hl1i := hide (show IsTk l1 from by rw [← hl1]; exact tk_is _ _ _ _ _ _)
  obtain ⟨W3, hW3, sz3, R0, R1, R2, R3, G3, R4, cell⟩ := RPre.pre hr hl0'
  have HR3 := hide R4
  have g6 : l0[6]? = some (.int .i64 hand) := by rw [← hl0]; rfl
  have g12 : l0[12]? = some (.int .i64 1) := by rw [← hl0]; rfl
  have g13 : l0[13]? = some (.int .u64 r0) := by rw [← hl0]; rfl
  have c6 := cell 6 _ g6
  have c12 := cell 12 _ g12
  have c13 := cell 13 _ g13
  have G6 := hide g6
  have G12 := hide g12
  have G13 := hide g13
  obtain ⟨dT, hdT1, hdT2⟩ := row79
  obtain ⟨dS, hdS1, hdS2⟩ := row46
  have HD := hide (And.intro hdT1 (And.intro hdT2 (And.intro hdS1 hdS2)))
  have HR0 := hide R0
  have HR1 := hide R1
  have HR2 := hide R2
  have HRS := hide R3
  have HG3 := hide G3
  have HSET := hide hset
  have HL0 := hide hl0'
  have v2 : wrap64 2 = 2 := by unfold wrap64; omega
  have v3 : wrap64 3 = 3 := by unfold wrap64; omega
  have v4 : wrap64 4 = 4 := by unfold wrap64; omega
  clear hx hf' hr R0 R1 R2 R3 R4 G3 cell hset hl0' hl0 hl1 hdT1 hdT2 hdS1 hdS2  g6 g12 g13
  simp only [tk0, RPre.ZL] at hW3
  go_enter Try.func85, Try.ntmps85
  go_wp2_with fail
  refine (DO.out _ HR3.out).mono ?_
  rintro e w1 ⟨rfl, hr1, hg1⟩
  rw [HX.out]
  rw [HF.out] at hr1
  simp only [Stp.val]
  have sz1 := hg1.size
  obtain ⟨V1, hV1, szV, q1', q2', q3', q4', q5', q6', ⟨⟨z0, zf0⟩, ⟨z1, zf1⟩, ⟨z2, zf2⟩, ⟨z3, zf3⟩, ⟨z4, zf4⟩, z5, zf5⟩, y0, y1, y2, y3, y4, y5⟩ := RPre.aft x HR0.out HR1.out HR2.out HRS.out HG3.out lg sz3 hr1 hg1
  try simp only at hV1 y0 y1 y2 y3 y4 y5
  have HRQ := hide (show V1.rangeAt (w.heap.size + 3) 0 [Value.int .i64 x.hand, .int .i64 x.act, .int .i64 x.at_, .int .u64 x.had, .int .u64 x.put, .bool x.ok] from q1')
  have HR4 := hide q2'
  have HR5 := hide q3'
  have HR6 := hide q4'
  have HR1' := hide q5'
  have HT1 := hide q6'
  have lV : w.heap.size + 3 < V1.heap.size := by omega
  have lV0 : w.heap.size < V1.heap.size := by omega
  have e6 : V1.cell? ⟨w.heap.size, 6, none⟩ = some (.int .i64 hand) := by rw [HR4.out.cell (i := 6) (by omega), lrow_of G6.out]
  have f6 := HR4.out.frozen 6
  have e12 : V1.cell? ⟨w.heap.size, 12, none⟩ = some (.int .i64 1) := by rw [HR4.out.cell (i := 12) (by omega), lrow_of G12.out]
  have f12 := HR4.out.frozen 12
  have e13 : V1.cell? ⟨w.heap.size, 13, none⟩ = some (.int .u64 r0) := by rw [HR4.out.cell (i := 13) (by omega), lrow_of G13.out]
  have f13 := HR4.out.frozen 13
  have l1w : w.heap.size + 3 < w1.heap.size := by omega
  clear hr1 hg1 q1' q2' q3' q4' q5' q6' hW3 c6 c12 c13
  go_wp2_with fail
  clear hV1 z0 zf0 z1 zf1 z2 zf2 z3 zf3 z4 zf4 z5 zf5
  obtain ⟨WA, hWA⟩ : ∃ W, ((V1.setCell ⟨w.heap.size, 13, none⟩ (.int .u64 x.had)).setCell ⟨w.heap.size, 12, none⟩ (.int .i64 2)) = W := ⟨_, rfl⟩
  have tt0 : Touch V1 WA (fun k => k = w.heap.size) := by
    rw [← hWA]
    exact Touch.trans' (S' := fun k => k = w.heap.size) (⟨rfl, rfl, rfl, Nat.le_refl _, fun _ _ _ => rfl⟩ : Touch V1 V1 (fun k => k = w.heap.size)) (Touch.setCell (S := fun k => k = w.heap.size) (Touch.setCell (S := fun k => k = w.heap.size) (Touch.refl V1 _) ⟨w.heap.size, 13, none⟩ (.inl rfl) _) ⟨w.heap.size, 12, none⟩ (.inl rfl) _) (fun k _ h => h)
  have szA : WA.heap.size = V1.heap.size := by
    rw [← hWA] <;> first | (simp; done) | rfl | (simp; rfl)
  have rA : WA.rangeAt w.heap.size 0 l1 := by
    have := rowIs.range (rowIs.setL (rowIs.setL (show World.rowIs V1 w.heap.size 91 28 (lrow l0) from HR4.out) (i := 13) (by simp [HL0.out]) (.int .u64 x.had)) (i := 12) (by simp [HL0.out]) (.int .i64 2)) (by simp [HL0.out])
    rw [HSET.out, hWA] at this
    exact this
  have rB : WA.rangeAt (w.heap.size + 3) 0 [Value.int .i64 x.hand, .int .i64 x.act, .int .i64 x.at_, .int .u64 x.had, .int .u64 x.put, .bool x.ok] := rangeAt_block HRQ.out (tt0.block _ (by omega) (by omega))
  have tC : WA.there (w.heap.size + 1) 0 28 := rowIs.there (HR5.out.of_block (tt0.block _ (by omega) (by omega))) (by omega)
  have tD : WA.there (w.heap.size + 2) 0 6 := rowIs.there (HR6.out.of_block (tt0.block _ (by omega) (by omega))) (by omega)
  have rW : IsRow WA g n cap f' := HR1'.out.block (tt0.block g (by omega) (by omega))
  have TW : Touch w WA (fun k => k = g) := HT1.out.trans' tt0 (fun k hk h => absurd hk (by omega))
  first | rw [hWA] | skip
  have HTW := hide TW
  have HRW := hide rW
  clear TW rW hWA tt0
  refine RetN.region (ks := [(0, 71), (1, 72), (4, 6)]) (vals := fun i => match i with
      | 0 => .agg l1.toArray
      | 1 => .agg #[Value.int .i64 x.hand, .int .i64 x.act, .int .i64 x.at_, .int .u64 x.had, .int .u64 x.put, .bool x.ok]
      | 4 => .bool false
      | _ => undef) (C := w.heap.size + 1) (E := w.heap.size + 2) (iC := 2) (iE := 3) (lt := l1) (ls := [Value.int .i64 x.hand, .int .i64 x.act, .int .i64 x.at_, .int .u64 x.had, .int .u64 x.put, .bool x.ok]) (by kernel_rfl) ?g ?b rfl (by omega) (by decide) ?dd hl1i.out.2 (by simp [Value.oneCell']) (by rw [hl1i.out.1]; exact tC) tD ?kinds ?fin
  case g =>
    intro i o ho
    have hi : i < 5 := by have := (Array.getElem?_eq_some_iff.1 ho).1; simpa using this
    match i, hi with
    | 0, _ | 1, _ | 2, _ | 3, _ | 4, _ => injection ho with ho; subst ho; rfl
  case b =>
    intro i o ho
    have hi : i < 5 := by have := (Array.getElem?_eq_some_iff.1 ho).1; simpa using this
    match i, hi with
    | 0, _ | 1, _ | 2, _ | 3, _ | 4, _ => injection ho with ho; subst ho; simp [Region.binds]
  case dd =>
    intro k hk
    have hk' : k < 73 := by
      simp [RetN.D] at hk
      omega
    simpa using hk'
  case kinds =>
    intro i o ho
    have hi : i < 5 := by have := (Array.getElem?_eq_some_iff.1 ho).1; simpa using this
    match i, hi with
    | 0, _ => injection ho with ho; subst ho; exact .inl ⟨71, _, rfl, rfl, fun L a w' hI hd => ex_load_row rfl (hI.fix 2 (Reg.notD rfl)) (rangeAt_block rA (hI.tch.block _ (by omega) (by omega))) HD.out.1 HD.out.2.1 (by rw [hl1i.out.1]; exact size79)⟩
    | 1, _ => injection ho with ho; subst ho; exact .inl ⟨72, _, rfl, rfl, fun L a w' hI hd => ex_load_row rfl (hI.fix 7 (Reg.notD rfl)) (rangeAt_block rB (hI.tch.block _ (by omega) (by omega))) HD.out.2.2.1 HD.out.2.2.2 size46⟩
    | 2, _ => injection ho with ho; subst ho; exact .inr (.inl ⟨rfl, rfl, _, _, _, rfl, (by rw [hl1i.out.1]; exact size79), fun L a w' hI hd => ⟨hI.fix 4 (Reg.notD rfl), (hI.pure 0 _ _ rfl (hd ⟨0, .data⟩ (by simp) rfl))⟩⟩)
    | 3, _ => injection ho with ho; subst ho; exact .inr (.inr ⟨rfl, rfl, _, _, _, rfl, size46, fun L a w' hI hd => ⟨hI.fix 5 (Reg.notD rfl), (hI.pure 1 _ _ rfl (hd ⟨1, .data⟩ (by simp) rfl))⟩⟩)
    | 4, _ => injection ho with ho; subst ho; exact .inl ⟨6, _, rfl, rfl, fun L a w' hI hd => ex_assign rfl rfl⟩
  case fin =>
    intro L a' w' hI hall
    rename_i K2 hK2
    refine hK2 _ _ ?_
    have rC := hI.sC (hall 2 (by decide))
    have rD := hI.sE (hall 3 (by decide))
    have pC : a'.eval (.tmp 4) = .pointer (some ⟨w.heap.size + 1, 0, none⟩) := hI.fix 4 (Reg.notD rfl)
    have pD : a'.eval (.tmp 5) = .pointer (some ⟨w.heap.size + 2, 0, none⟩) := hI.fix 5 (Reg.notD rfl)
    have pe : a'.eval (.tmp 6) = .bool false := hI.pure 4 6 _ rfl (hall 4 (by decide))
    have tch := hI.tch
    have hdf : a'.defers = [] := hI.df
    have hT := run_loadVar_mid (P := Try.prog) w' (w.heap.size + 1) 0 _ l1 dT rC HD.out.1 HD.out.2.1 (by rw [hl1i.out.1]; exact size79)
    have hS := run_loadVar_mid (P := Try.prog) w' (w.heap.size + 2) 0 _ _ dS rD HD.out.2.2.1 HD.out.2.2.2 size46
    have hres := results_cct (Q := Try.prog) (fn := Try.f85) (tmps := a'.tmps) (t := 4) (t' := 5) (t'' := 6) (W := w') (by rfl) pC hT pD hS
    rw [show a'.tmps.getD 6 undef = .bool false from pe] at hres
    go_wp2
    refine bodyPost_ret (v := .tuple #[.agg l1.toArray, x.val, .bool false]) hres hdf ⟨rfl, HRW.out.block (tch.block g HRW.out.lt (by omega)), ?_⟩
    have := HTW.out.trans' tch (fun k hk h => absurd hk (by omega))
    exact ⟨this.os, this.tape, this.output, this.size, fun k hk hn => this.block k hk (by simpa using hn)⟩

set_option maxHeartbeats 8000000 in
theorem rl2_full {w : World} {g n cap : Nat} {f f' : Nat → Int} {x : Stp} {s0 s1 s2 s3 s4 s5 hand a b c hh r0 r1 r2 r3 val : Int} {ok : Bool} (hr : IsRow w g n cap f) {ah : Int} (hah : ahd r0 x.had = ah) (a1 : s5 ≤ ah)  (hx : stepOf n f ⟨hand, 1, 0, 0, 0, true⟩ = x) (hf' : wordsOf n f ⟨hand, 1, 0, 0, 0, true⟩ = f') :
    Calls Try.prog 85 #[.agg (tk ⟨s0, s1, s2, s3, s4, s5⟩ hand ⟨1, a, b, c, hh⟩ 2 ⟨r0, r1, r2, r3, 0, 0, 0, 0⟩ ⟨ok, val⟩).toArray, .slice (some ⟨g, 0, none⟩) n cap] w fun e w' =>
      e = .returned (.tuple #[.agg (tk ⟨s0, s1, s2, s3, s4, s5⟩ hand ⟨1, a, b, c, hh⟩ 2 ⟨r0, r1, r2, r3, 0, 0, 0, 0⟩ ⟨ok, val⟩).toArray, x.val, .bool true]) ∧ IsRow w' g n cap f' ∧ w.grownBy w' (some g) := by
  have DO := hide (fun (w' : World) (hr' : IsRow w' g n cap f) => ref_do (s := ⟨hand, 1, 0, 0, 0, true⟩) hr' ⟨by show (0 : Int) ≤ 0; omega, by show (0 : Int) ≤ 18446744073709551615; omega⟩ ⟨by show (1 : Int) ≤ 1; decide, by show (1 : Int) ≤ 5; decide⟩)
  have HX := hide hx
  have HF := hide hf'
  have lg := hr.lt
  obtain ⟨l0, hl0⟩ : ∃ l, tk ⟨s0, s1, s2, s3, s4, s5⟩ hand ⟨1, a, b, c, hh⟩ 2 ⟨r0, r1, r2, r3, 0, 0, 0, 0⟩ ⟨ok, val⟩ = l := ⟨_, rfl⟩
  have hl0' : l0.length = 28 := by rw [← hl0]; rfl
  have hl0i := hide (show IsTk l0 from by rw [← hl0]; exact tk_is _ _ _ _ _ _)
  have hset : l0 = l0 := rfl
  rw [hl0]
  obtain ⟨W3, hW3, sz3, R0, R1, R2, R3, G3, R4, cell⟩ := RPre.pre hr hl0'
  have HR3 := hide R4
  have g5 : l0[5]? = some (.int .i64 s5) := by rw [← hl0]; rfl
  have g6 : l0[6]? = some (.int .i64 hand) := by rw [← hl0]; rfl
  have g12 : l0[12]? = some (.int .i64 2) := by rw [← hl0]; rfl
  have g13 : l0[13]? = some (.int .u64 r0) := by rw [← hl0]; rfl
  have c5 := cell 5 _ g5
  have c6 := cell 6 _ g6
  have c12 := cell 12 _ g12
  have c13 := cell 13 _ g13
  have G5 := hide g5
  have G6 := hide g6
  have G12 := hide g12
  have G13 := hide g13
  obtain ⟨dT, hdT1, hdT2⟩ := row79
  obtain ⟨dS, hdS1, hdS2⟩ := row46
  have HD := hide (And.intro hdT1 (And.intro hdT2 (And.intro hdS1 hdS2)))
  have HR0 := hide R0
  have HR1 := hide R1
  have HR2 := hide R2
  have HRS := hide R3
  have HG3 := hide G3
  have HSET := hide hset
  have HL0 := hide hl0'
  have v2 : wrap64 2 = 2 := by unfold wrap64; omega
  have v3 : wrap64 3 = 3 := by unfold wrap64; omega
  have v4 : wrap64 4 = 4 := by unfold wrap64; omega
  have HAH := hide hah
  clear hx hf' hr R0 R1 R2 R3 R4 G3 cell hset hl0' hl0  hdT1 hdT2 hdS1 hdS2 hah g5 g6 g12 g13
  simp only [tk0, RPre.ZL] at hW3
  go_enter Try.func85, Try.ntmps85
  go_wp2_with fail
  refine (DO.out _ HR3.out).mono ?_
  rintro e w1 ⟨rfl, hr1, hg1⟩
  rw [HX.out]
  rw [HF.out] at hr1
  simp only [Stp.val]
  have sz1 := hg1.size
  obtain ⟨V1, hV1, szV, q1', q2', q3', q4', q5', q6', ⟨⟨z0, zf0⟩, ⟨z1, zf1⟩, ⟨z2, zf2⟩, ⟨z3, zf3⟩, ⟨z4, zf4⟩, z5, zf5⟩, y0, y1, y2, y3, y4, y5⟩ := RPre.aft x HR0.out HR1.out HR2.out HRS.out HG3.out lg sz3 hr1 hg1
  try simp only at hV1 y0 y1 y2 y3 y4 y5
  have HRQ := hide (show V1.rangeAt (w.heap.size + 3) 0 [Value.int .i64 x.hand, .int .i64 x.act, .int .i64 x.at_, .int .u64 x.had, .int .u64 x.put, .bool x.ok] from q1')
  have HR4 := hide q2'
  have HR5 := hide q3'
  have HR6 := hide q4'
  have HR1' := hide q5'
  have HT1 := hide q6'
  have lV : w.heap.size + 3 < V1.heap.size := by omega
  have lV0 : w.heap.size < V1.heap.size := by omega
  have e5 : V1.cell? ⟨w.heap.size, 5, none⟩ = some (.int .i64 s5) := by rw [HR4.out.cell (i := 5) (by omega), lrow_of G5.out]
  have f5 := HR4.out.frozen 5
  have e6 : V1.cell? ⟨w.heap.size, 6, none⟩ = some (.int .i64 hand) := by rw [HR4.out.cell (i := 6) (by omega), lrow_of G6.out]
  have f6 := HR4.out.frozen 6
  have e12 : V1.cell? ⟨w.heap.size, 12, none⟩ = some (.int .i64 2) := by rw [HR4.out.cell (i := 12) (by omega), lrow_of G12.out]
  have f12 := HR4.out.frozen 12
  have e13 : V1.cell? ⟨w.heap.size, 13, none⟩ = some (.int .u64 r0) := by rw [HR4.out.cell (i := 13) (by omega), lrow_of G13.out]
  have f13 := HR4.out.frozen 13
  have l1w : w.heap.size + 3 < w1.heap.size := by omega
  clear hr1 hg1 q1' q2' q3' q4' q5' q6' hW3 c5 c6 c12 c13
  go_wp2_with fail
  clear hV1 z0 zf0 z1 zf1 z2 zf2 z3 zf3 z4 zf4 z5 zf5
  go_quiet ((go_at_call 96; exact Calls.quiet_of_same (rless_any _ _ _)))
  simp only [HAH.out]
  go_wp2_with fail
  obtain ⟨WA, hWA⟩ : ∃ W, (V1.drewN nq) = W := ⟨_, rfl⟩
  have tt0 : Touch V1 WA (fun k => k = w.heap.size) := by
    rw [← hWA]
    exact Touch.trans' (S' := fun k => k = w.heap.size) (⟨rfl, rfl, rfl, Nat.le_refl _, fun _ _ _ => rfl⟩ : Touch V1 (V1.drewN nq) (fun k => k = w.heap.size)) (Touch.refl (V1.drewN nq) _) (fun k _ h => h)
  have szA : WA.heap.size = V1.heap.size := by
    rw [← hWA] <;> first | (simp; done) | rfl | (simp; rfl)
  have rA : WA.rangeAt w.heap.size 0 l0 := by
    have := rowIs.range (show World.rowIs (V1.drewN nq) w.heap.size 91 28 (lrow l0) from (HR4.out.of_block rfl)) (by simp [HL0.out])
    rw [hWA] at this
    exact this
  have rB : WA.rangeAt (w.heap.size + 3) 0 [Value.int .i64 x.hand, .int .i64 x.act, .int .i64 x.at_, .int .u64 x.had, .int .u64 x.put, .bool x.ok] := rangeAt_block HRQ.out (tt0.block _ (by omega) (by omega))
  have tC : WA.there (w.heap.size + 1) 0 28 := rowIs.there (HR5.out.of_block (tt0.block _ (by omega) (by omega))) (by omega)
  have tD : WA.there (w.heap.size + 2) 0 6 := rowIs.there (HR6.out.of_block (tt0.block _ (by omega) (by omega))) (by omega)
  have rW : IsRow WA g n cap f' := HR1'.out.block (tt0.block g (by omega) (by omega))
  have TW : Touch w WA (fun k => k = g) := HT1.out.trans' tt0 (fun k hk h => absurd hk (by omega))
  first | rw [hWA] | skip
  have HTW := hide TW
  have HRW := hide rW
  clear TW rW hWA tt0
  refine RetN.region (ks := [(0, 51), (1, 52), (4, 6)]) (vals := fun i => match i with
      | 0 => .agg l0.toArray
      | 1 => .agg #[Value.int .i64 x.hand, .int .i64 x.act, .int .i64 x.at_, .int .u64 x.had, .int .u64 x.put, .bool x.ok]
      | 4 => .bool true
      | _ => undef) (C := w.heap.size + 1) (E := w.heap.size + 2) (iC := 2) (iE := 3) (lt := l0) (ls := [Value.int .i64 x.hand, .int .i64 x.act, .int .i64 x.at_, .int .u64 x.had, .int .u64 x.put, .bool x.ok]) (by kernel_rfl) ?g ?b rfl (by omega) (by decide) ?dd hl0i.out.2 (by simp [Value.oneCell']) (by rw [hl0i.out.1]; exact tC) tD ?kinds ?fin
  case g =>
    intro i o ho
    have hi : i < 5 := by have := (Array.getElem?_eq_some_iff.1 ho).1; simpa using this
    match i, hi with
    | 0, _ | 1, _ | 2, _ | 3, _ | 4, _ => injection ho with ho; subst ho; rfl
  case b =>
    intro i o ho
    have hi : i < 5 := by have := (Array.getElem?_eq_some_iff.1 ho).1; simpa using this
    match i, hi with
    | 0, _ | 1, _ | 2, _ | 3, _ | 4, _ => injection ho with ho; subst ho; simp [Region.binds]
  case dd =>
    intro k hk
    have hk' : k < 73 := by
      simp [RetN.D] at hk
      omega
    simpa using hk'
  case kinds =>
    intro i o ho
    have hi : i < 5 := by have := (Array.getElem?_eq_some_iff.1 ho).1; simpa using this
    match i, hi with
    | 0, _ => injection ho with ho; subst ho; exact .inl ⟨51, _, rfl, rfl, fun L a w' hI hd => ex_load_row rfl (hI.fix 2 (Reg.notD rfl)) (rangeAt_block rA (hI.tch.block _ (by omega) (by omega))) HD.out.1 HD.out.2.1 (by rw [hl0i.out.1]; exact size79)⟩
    | 1, _ => injection ho with ho; subst ho; exact .inl ⟨52, _, rfl, rfl, fun L a w' hI hd => ex_load_row rfl (hI.fix 7 (Reg.notD rfl)) (rangeAt_block rB (hI.tch.block _ (by omega) (by omega))) HD.out.2.2.1 HD.out.2.2.2 size46⟩
    | 2, _ => injection ho with ho; subst ho; exact .inr (.inl ⟨rfl, rfl, _, _, _, rfl, (by rw [hl0i.out.1]; exact size79), fun L a w' hI hd => ⟨hI.fix 4 (Reg.notD rfl), (hI.pure 0 _ _ rfl (hd ⟨0, .data⟩ (by simp) rfl))⟩⟩)
    | 3, _ => injection ho with ho; subst ho; exact .inr (.inr ⟨rfl, rfl, _, _, _, rfl, size46, fun L a w' hI hd => ⟨hI.fix 5 (Reg.notD rfl), (hI.pure 1 _ _ rfl (hd ⟨1, .data⟩ (by simp) rfl))⟩⟩)
    | 4, _ => injection ho with ho; subst ho; exact .inl ⟨6, _, rfl, rfl, fun L a w' hI hd => ex_assign rfl rfl⟩
  case fin =>
    intro L a' w' hI hall
    rename_i K2 hK2
    refine hK2 _ _ ?_
    have rC := hI.sC (hall 2 (by decide))
    have rD := hI.sE (hall 3 (by decide))
    have pC : a'.eval (.tmp 4) = .pointer (some ⟨w.heap.size + 1, 0, none⟩) := hI.fix 4 (Reg.notD rfl)
    have pD : a'.eval (.tmp 5) = .pointer (some ⟨w.heap.size + 2, 0, none⟩) := hI.fix 5 (Reg.notD rfl)
    have pe : a'.eval (.tmp 6) = .bool true := hI.pure 4 6 _ rfl (hall 4 (by decide))
    have tch := hI.tch
    have hdf : a'.defers = [] := hI.df
    have hT := run_loadVar_mid (P := Try.prog) w' (w.heap.size + 1) 0 _ l0 dT rC HD.out.1 HD.out.2.1 (by rw [hl0i.out.1]; exact size79)
    have hS := run_loadVar_mid (P := Try.prog) w' (w.heap.size + 2) 0 _ _ dS rD HD.out.2.2.1 HD.out.2.2.2 size46
    have hres := results_cct (Q := Try.prog) (fn := Try.f85) (tmps := a'.tmps) (t := 4) (t' := 5) (t'' := 6) (W := w') (by rfl) pC hT pD hS
    rw [show a'.tmps.getD 6 undef = .bool true from pe] at hres
    go_wp2
    refine bodyPost_ret (v := .tuple #[.agg l0.toArray, x.val, .bool true]) hres hdf ⟨rfl, HRW.out.block (tch.block g HRW.out.lt (by omega)), ?_⟩
    have := HTW.out.trans' tch (fun k hk h => absurd hk (by omega))
    exact ⟨this.os, this.tape, this.output, this.size, fun k hk hn => this.block k hk (by simpa using hn)⟩

set_option maxHeartbeats 8000000 in
theorem rl2_room {w : World} {g n cap : Nat} {f f' : Nat → Int} {x : Stp} {s0 s1 s2 s3 s4 s5 hand a b c hh r0 r1 r2 r3 val : Int} {ok : Bool} (hr : IsRow w g n cap f) {ah : Int} (hah : ahd r0 x.had = ah) (a1 : ¬ s5 ≤ ah)  (hx : stepOf n f ⟨hand, 1, 0, 0, 0, true⟩ = x) (hf' : wordsOf n f ⟨hand, 1, 0, 0, 0, true⟩ = f') :
    Calls Try.prog 85 #[.agg (tk ⟨s0, s1, s2, s3, s4, s5⟩ hand ⟨1, a, b, c, hh⟩ 2 ⟨r0, r1, r2, r3, 0, 0, 0, 0⟩ ⟨ok, val⟩).toArray, .slice (some ⟨g, 0, none⟩) n cap] w fun e w' =>
      e = .returned (.tuple #[.agg (tk ⟨s0, s1, s2, s3, s4, s5⟩ hand ⟨1, a, b, c, hh⟩ 3 ⟨r0, r1, r2, r3, 0, 0, 0, 0⟩ ⟨ok, val⟩).toArray, x.val, .bool false]) ∧ IsRow w' g n cap f' ∧ w.grownBy w' (some g) := by
  have DO := hide (fun (w' : World) (hr' : IsRow w' g n cap f) => ref_do (s := ⟨hand, 1, 0, 0, 0, true⟩) hr' ⟨by show (0 : Int) ≤ 0; omega, by show (0 : Int) ≤ 18446744073709551615; omega⟩ ⟨by show (1 : Int) ≤ 1; decide, by show (1 : Int) ≤ 5; decide⟩)
  have HX := hide hx
  have HF := hide hf'
  have lg := hr.lt
  obtain ⟨l0, hl0⟩ : ∃ l, tk ⟨s0, s1, s2, s3, s4, s5⟩ hand ⟨1, a, b, c, hh⟩ 2 ⟨r0, r1, r2, r3, 0, 0, 0, 0⟩ ⟨ok, val⟩ = l := ⟨_, rfl⟩
  have hl0' : l0.length = 28 := by rw [← hl0]; rfl
  have hl0i := hide (show IsTk l0 from by rw [← hl0]; exact tk_is _ _ _ _ _ _)
  have hset : (l0.set 12 (.int .i64 3)) = tk ⟨s0, s1, s2, s3, s4, s5⟩ hand ⟨1, a, b, c, hh⟩ 3 ⟨r0, r1, r2, r3, 0, 0, 0, 0⟩ ⟨ok, val⟩ := by rw [← hl0] <;> rfl
  obtain ⟨l1, hl1⟩ : ∃ l, tk ⟨s0, s1, s2, s3, s4, s5⟩ hand ⟨1, a, b, c, hh⟩ 3 ⟨r0, r1, r2, r3, 0, 0, 0, 0⟩ ⟨ok, val⟩ = l := ⟨_, rfl⟩
  rw [hl0, hl1]
  rw [hl1] at hset
  have hl1i := hide (show IsTk l1 from by rw [← hl1]; exact tk_is _ _ _ _ _ _)
  obtain ⟨W3, hW3, sz3, R0, R1, R2, R3, G3, R4, cell⟩ := RPre.pre hr hl0'
  have HR3 := hide R4
  have g5 : l0[5]? = some (.int .i64 s5) := by rw [← hl0]; rfl
  have g6 : l0[6]? = some (.int .i64 hand) := by rw [← hl0]; rfl
  have g12 : l0[12]? = some (.int .i64 2) := by rw [← hl0]; rfl
  have g13 : l0[13]? = some (.int .u64 r0) := by rw [← hl0]; rfl
  have c5 := cell 5 _ g5
  have c6 := cell 6 _ g6
  have c12 := cell 12 _ g12
  have c13 := cell 13 _ g13
  have G5 := hide g5
  have G6 := hide g6
  have G12 := hide g12
  have G13 := hide g13
  obtain ⟨dT, hdT1, hdT2⟩ := row79
  obtain ⟨dS, hdS1, hdS2⟩ := row46
  have HD := hide (And.intro hdT1 (And.intro hdT2 (And.intro hdS1 hdS2)))
  have HR0 := hide R0
  have HR1 := hide R1
  have HR2 := hide R2
  have HRS := hide R3
  have HG3 := hide G3
  have HSET := hide hset
  have HL0 := hide hl0'
  have v2 : wrap64 2 = 2 := by unfold wrap64; omega
  have v3 : wrap64 3 = 3 := by unfold wrap64; omega
  have v4 : wrap64 4 = 4 := by unfold wrap64; omega
  have HAH := hide hah
  clear hx hf' hr R0 R1 R2 R3 R4 G3 cell hset hl0' hl0 hl1 hdT1 hdT2 hdS1 hdS2 hah g5 g6 g12 g13
  simp only [tk0, RPre.ZL] at hW3
  go_enter Try.func85, Try.ntmps85
  go_wp2_with fail
  refine (DO.out _ HR3.out).mono ?_
  rintro e w1 ⟨rfl, hr1, hg1⟩
  rw [HX.out]
  rw [HF.out] at hr1
  simp only [Stp.val]
  have sz1 := hg1.size
  obtain ⟨V1, hV1, szV, q1', q2', q3', q4', q5', q6', ⟨⟨z0, zf0⟩, ⟨z1, zf1⟩, ⟨z2, zf2⟩, ⟨z3, zf3⟩, ⟨z4, zf4⟩, z5, zf5⟩, y0, y1, y2, y3, y4, y5⟩ := RPre.aft x HR0.out HR1.out HR2.out HRS.out HG3.out lg sz3 hr1 hg1
  try simp only at hV1 y0 y1 y2 y3 y4 y5
  have HRQ := hide (show V1.rangeAt (w.heap.size + 3) 0 [Value.int .i64 x.hand, .int .i64 x.act, .int .i64 x.at_, .int .u64 x.had, .int .u64 x.put, .bool x.ok] from q1')
  have HR4 := hide q2'
  have HR5 := hide q3'
  have HR6 := hide q4'
  have HR1' := hide q5'
  have HT1 := hide q6'
  have lV : w.heap.size + 3 < V1.heap.size := by omega
  have lV0 : w.heap.size < V1.heap.size := by omega
  have e5 : V1.cell? ⟨w.heap.size, 5, none⟩ = some (.int .i64 s5) := by rw [HR4.out.cell (i := 5) (by omega), lrow_of G5.out]
  have f5 := HR4.out.frozen 5
  have e6 : V1.cell? ⟨w.heap.size, 6, none⟩ = some (.int .i64 hand) := by rw [HR4.out.cell (i := 6) (by omega), lrow_of G6.out]
  have f6 := HR4.out.frozen 6
  have e12 : V1.cell? ⟨w.heap.size, 12, none⟩ = some (.int .i64 2) := by rw [HR4.out.cell (i := 12) (by omega), lrow_of G12.out]
  have f12 := HR4.out.frozen 12
  have e13 : V1.cell? ⟨w.heap.size, 13, none⟩ = some (.int .u64 r0) := by rw [HR4.out.cell (i := 13) (by omega), lrow_of G13.out]
  have f13 := HR4.out.frozen 13
  have l1w : w.heap.size + 3 < w1.heap.size := by omega
  clear hr1 hg1 q1' q2' q3' q4' q5' q6' hW3 c5 c6 c12 c13
  go_wp2_with fail
  clear hV1 z0 zf0 z1 zf1 z2 zf2 z3 zf3 z4 zf4 z5 zf5
  go_quiet ((go_at_call 96; exact Calls.quiet_of_same (rless_any _ _ _)))
  simp only [HAH.out]
  go_wp2_with fail
  obtain ⟨WA, hWA⟩ : ∃ W, ((V1.drewN nq).setCell ⟨w.heap.size, 12, none⟩ (.int .i64 3)) = W := ⟨_, rfl⟩
  have tt0 : Touch V1 WA (fun k => k = w.heap.size) := by
    rw [← hWA]
    exact Touch.trans' (S' := fun k => k = w.heap.size) (⟨rfl, rfl, rfl, Nat.le_refl _, fun _ _ _ => rfl⟩ : Touch V1 (V1.drewN nq) (fun k => k = w.heap.size)) (Touch.setCell (S := fun k => k = w.heap.size) (Touch.refl (V1.drewN nq) _) ⟨w.heap.size, 12, none⟩ (.inl rfl) _) (fun k _ h => h)
  have szA : WA.heap.size = V1.heap.size := by
    rw [← hWA] <;> first | (simp; done) | rfl | (simp; rfl)
  have rA : WA.rangeAt w.heap.size 0 l1 := by
    have := rowIs.range (rowIs.setL (show World.rowIs (V1.drewN nq) w.heap.size 91 28 (lrow l0) from (HR4.out.of_block rfl)) (i := 12) (by simp [HL0.out]) (.int .i64 3)) (by simp [HL0.out])
    rw [HSET.out, hWA] at this
    exact this
  have rB : WA.rangeAt (w.heap.size + 3) 0 [Value.int .i64 x.hand, .int .i64 x.act, .int .i64 x.at_, .int .u64 x.had, .int .u64 x.put, .bool x.ok] := rangeAt_block HRQ.out (tt0.block _ (by omega) (by omega))
  have tC : WA.there (w.heap.size + 1) 0 28 := rowIs.there (HR5.out.of_block (tt0.block _ (by omega) (by omega))) (by omega)
  have tD : WA.there (w.heap.size + 2) 0 6 := rowIs.there (HR6.out.of_block (tt0.block _ (by omega) (by omega))) (by omega)
  have rW : IsRow WA g n cap f' := HR1'.out.block (tt0.block g (by omega) (by omega))
  have TW : Touch w WA (fun k => k = g) := HT1.out.trans' tt0 (fun k hk h => absurd hk (by omega))
  first | rw [hWA] | skip
  have HTW := hide TW
  have HRW := hide rW
  clear TW rW hWA tt0
  refine RetN.region (ks := [(0, 71), (1, 72), (4, 6)]) (vals := fun i => match i with
      | 0 => .agg l1.toArray
      | 1 => .agg #[Value.int .i64 x.hand, .int .i64 x.act, .int .i64 x.at_, .int .u64 x.had, .int .u64 x.put, .bool x.ok]
      | 4 => .bool false
      | _ => undef) (C := w.heap.size + 1) (E := w.heap.size + 2) (iC := 2) (iE := 3) (lt := l1) (ls := [Value.int .i64 x.hand, .int .i64 x.act, .int .i64 x.at_, .int .u64 x.had, .int .u64 x.put, .bool x.ok]) (by kernel_rfl) ?g ?b rfl (by omega) (by decide) ?dd hl1i.out.2 (by simp [Value.oneCell']) (by rw [hl1i.out.1]; exact tC) tD ?kinds ?fin
  case g =>
    intro i o ho
    have hi : i < 5 := by have := (Array.getElem?_eq_some_iff.1 ho).1; simpa using this
    match i, hi with
    | 0, _ | 1, _ | 2, _ | 3, _ | 4, _ => injection ho with ho; subst ho; rfl
  case b =>
    intro i o ho
    have hi : i < 5 := by have := (Array.getElem?_eq_some_iff.1 ho).1; simpa using this
    match i, hi with
    | 0, _ | 1, _ | 2, _ | 3, _ | 4, _ => injection ho with ho; subst ho; simp [Region.binds]
  case dd =>
    intro k hk
    have hk' : k < 73 := by
      simp [RetN.D] at hk
      omega
    simpa using hk'
  case kinds =>
    intro i o ho
    have hi : i < 5 := by have := (Array.getElem?_eq_some_iff.1 ho).1; simpa using this
    match i, hi with
    | 0, _ => injection ho with ho; subst ho; exact .inl ⟨71, _, rfl, rfl, fun L a w' hI hd => ex_load_row rfl (hI.fix 2 (Reg.notD rfl)) (rangeAt_block rA (hI.tch.block _ (by omega) (by omega))) HD.out.1 HD.out.2.1 (by rw [hl1i.out.1]; exact size79)⟩
    | 1, _ => injection ho with ho; subst ho; exact .inl ⟨72, _, rfl, rfl, fun L a w' hI hd => ex_load_row rfl (hI.fix 7 (Reg.notD rfl)) (rangeAt_block rB (hI.tch.block _ (by omega) (by omega))) HD.out.2.2.1 HD.out.2.2.2 size46⟩
    | 2, _ => injection ho with ho; subst ho; exact .inr (.inl ⟨rfl, rfl, _, _, _, rfl, (by rw [hl1i.out.1]; exact size79), fun L a w' hI hd => ⟨hI.fix 4 (Reg.notD rfl), (hI.pure 0 _ _ rfl (hd ⟨0, .data⟩ (by simp) rfl))⟩⟩)
    | 3, _ => injection ho with ho; subst ho; exact .inr (.inr ⟨rfl, rfl, _, _, _, rfl, size46, fun L a w' hI hd => ⟨hI.fix 5 (Reg.notD rfl), (hI.pure 1 _ _ rfl (hd ⟨1, .data⟩ (by simp) rfl))⟩⟩)
    | 4, _ => injection ho with ho; subst ho; exact .inl ⟨6, _, rfl, rfl, fun L a w' hI hd => ex_assign rfl rfl⟩
  case fin =>
    intro L a' w' hI hall
    rename_i K2 hK2
    refine hK2 _ _ ?_
    have rC := hI.sC (hall 2 (by decide))
    have rD := hI.sE (hall 3 (by decide))
    have pC : a'.eval (.tmp 4) = .pointer (some ⟨w.heap.size + 1, 0, none⟩) := hI.fix 4 (Reg.notD rfl)
    have pD : a'.eval (.tmp 5) = .pointer (some ⟨w.heap.size + 2, 0, none⟩) := hI.fix 5 (Reg.notD rfl)
    have pe : a'.eval (.tmp 6) = .bool false := hI.pure 4 6 _ rfl (hall 4 (by decide))
    have tch := hI.tch
    have hdf : a'.defers = [] := hI.df
    have hT := run_loadVar_mid (P := Try.prog) w' (w.heap.size + 1) 0 _ l1 dT rC HD.out.1 HD.out.2.1 (by rw [hl1i.out.1]; exact size79)
    have hS := run_loadVar_mid (P := Try.prog) w' (w.heap.size + 2) 0 _ _ dS rD HD.out.2.2.1 HD.out.2.2.2 size46
    have hres := results_cct (Q := Try.prog) (fn := Try.f85) (tmps := a'.tmps) (t := 4) (t' := 5) (t'' := 6) (W := w') (by rfl) pC hT pD hS
    rw [show a'.tmps.getD 6 undef = .bool false from pe] at hres
    go_wp2
    refine bodyPost_ret (v := .tuple #[.agg l1.toArray, x.val, .bool false]) hres hdf ⟨rfl, HRW.out.block (tch.block g HRW.out.lt (by omega)), ?_⟩
    have := HTW.out.trans' tch (fun k hk h => absurd hk (by omega))
    exact ⟨this.os, this.tape, this.output, this.size, fun k hk hn => this.block k hk (by simpa using hn)⟩

end Deal
end Go.Proofs.Ytbjlpmahomjgjaa
