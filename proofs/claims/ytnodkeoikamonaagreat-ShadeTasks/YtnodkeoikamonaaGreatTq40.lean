/-
  Lemmas: ShadeRE.
-/
import Derived.Test.YtnodkeoikamonaaGreatTq36
/-
  Shade's reference: Pull: Grey turned.
-/
namespace Go.Proofs.YtnodkeoikamonaaGreat
open Go.RowKit
set_option linter.unusedVariables false
set_option linter.unusedSimpArgs false
set_option maxRecDepth 20000
namespace Shd
set_option maxHeartbeats 8000000 in
theorem rp2_yes {w : World} {g n cap : Nat} {f f' : Nat → Int} {x : Stp} {sh : Shp} {hand a b c hh r0 r1 : Int} (hr : IsRow w g n cap f) (h5 : Shape.R5 sh.a sh.b sh.c sh.d sh.e) (hb0 : 0 ≤ r0 ∧ r0 ≤ 18446744073709551615) (h1 : 0 ≤ r1 ∧ r1 ≤ 18446744073709551615) (hok : x.ok = true)
    (hx : stepOf n f ⟨hand, 5, 2, r0, bmp r0 (idx r1), true⟩ = x) (hf' : wordsOf n f ⟨hand, 5, 2, r0, bmp r0 (idx r1), true⟩ = f') :
    Calls Tryz.prog 63 #[.agg (tk sh hand ⟨2, a, b, c, hh⟩ 2 ⟨r0, r1, 0, 0, 0, 0, 0, 0⟩ ⟨false, 0⟩).toArray, .slice (some ⟨g, 0, none⟩) n cap] w fun e w' =>
      e = .returned (.tuple #[.agg (tk sh hand ⟨2, a, b, c, hh⟩ 0 ⟨r0, r1, 0, 0, 0, 0, 0, 0⟩ ⟨true, idx r0⟩).toArray, x.val, .bool x.ok]) ∧ IsRow w' g n cap f' ∧ w.grownBy w' (some g) := by
  have DO := hide (fun (w' : World) (hr' : IsRow w' g n cap f) => ref_do (s := ⟨hand, 5, 2, r0, bmp r0 (idx r1), true⟩) hr' ⟨bmp_lo _ _, bmp_hi _ _⟩ ⟨by show (1 : Int) ≤ 5; decide, by show (5 : Int) ≤ 5; decide⟩)
  rw [hx, hf'] at DO
  have IX := hide (fun w1 : World => index_ref r0 hb0.1 (by omega) w1)
  have HEAD := hide (fun (i : Int) (w1 : World) => rhead_any h5 i w1)
  have LINK := hide (fun (i : Int) (w1 : World) => rlink_any h5 i w1)
  have BP := hide (fun w1 : World => bump_ref r0 (idx r1) hb0.1 (by omega) w1)
  have IY := hide (fun w1 : World => index_ref r1 h1.1 (by omega) w1)
  have gw : IntKind.u64.wrap (r0 % 4294967296) = r0 % 4294967296 := by rw [IntKind.wrap_u64]; omega
  have HOK := hide hok
  have lg := hr.lt
  obtain ⟨l0, hl0⟩ : ∃ l, tk sh hand ⟨2, a, b, c, hh⟩ 2 ⟨r0, r1, 0, 0, 0, 0, 0, 0⟩ ⟨false, 0⟩ = l := ⟨_, rfl⟩
  have hl0' : l0.length = 28 := by rw [← hl0]; rfl
  obtain ⟨lt, hlt⟩ : ∃ l, tk sh hand ⟨2, a, b, c, hh⟩ 0 ⟨r0, r1, 0, 0, 0, 0, 0, 0⟩ ⟨true, idx r0⟩ = l := ⟨_, rfl⟩
  have HTK := hide (show IsTk lt from by rw [← hlt]; exact tk_is _ _ _ _ _ _)
  have HLT := hide (show lt.length = 28 from by rw [← hlt]; rfl)
  rw [hl0, hlt]
  obtain ⟨W3, hW3⟩ : ∃ W3, ((w.alloc (.cells l0.toArray 85)).alloc (.cells tk0.toArray 85)).alloc (.cells [Value.int .i64 0, .int .i64 0, .int .i64 0, .int .u64 0, .int .u64 0, .bool false].toArray 71) = W3 := ⟨_, rfl⟩
  have RT3 := hide (show RT w g n cap l0 f W3 from by rw [← hW3]; exact RT.start hr hl0')
  have GS := hide (show ∀ (j : Nat) (v : Value), ([.int .i64 sh.a, .int .i64 sh.b, .int .i64 sh.c, .int .i64 sh.d, .int .i64 sh.e, .int .i64 sh.f] : List Value)[j]? = some v → l0[j]? = some v from by
    intro j v hj
    have hj6 : j < 6 := (List.getElem?_eq_some_iff.1 hj).1
    rw [← hl0]
    match j, hj6 with
    | 0, _ | 1, _ | 2, _ | 3, _ | 4, _ | 5, _ => exact hj)
  have G6 := hide (show l0[6]? = some (.int .i64 hand) from by rw [← hl0]; rfl)
  have c6 := RT3.out.cell G6.out
  have G12 := hide (show l0[12]? = some (.int .i64 2) from by rw [← hl0]; rfl)
  have c12 := RT3.out.cell G12.out
  have G13 := hide (show l0[13]? = some (.int .u64 r0) from by rw [← hl0]; rfl)
  have c13 := RT3.out.cell G13.out
  have G14 := hide (show l0[14]? = some (.int .u64 r1) from by rw [← hl0]; rfl)
  have c14 := RT3.out.cell G14.out
  obtain ⟨dT, hdT1, hdT2⟩ := row79
  obtain ⟨dS, hdS1, hdS2⟩ := row46
  obtain ⟨dH, hdH1, hdH2⟩ := rowSh
  have HD := hide (And.intro hdT1 (And.intro hdT2 (And.intro hdS1 hdS2)))
  have HDS := hide (And.intro hdH1 hdH2)
  have sz3 := RT3.out.size
  have HL0 := hide hl0
  have HLTE := hide hlt
  clear hx hf' hr h5 hl0 hl0' hlt hdT1 hdT2 hdS1 hdS2 hdH1 hdH2 hb0 h1 hok
  simp only [tk0] at hW3
  go_enter Tryz.func63, Tryz.ntmps63
  go_upto_region 13 with (go_at_call 64; refine (IX.out _).mono ?_; rintro e wq ⟨rfl, hwq⟩; obtain rfl := hwq.symm)
  clear hW3
  go_quiet ((first | (go_at_call 64; exact Calls.quiet_of_same (IY.out _)) | (go_at_call 70; exact Calls.quiet_of_same (BP.out _))))
  have RT4 := hide (show RT w g n cap l0 f (W3.drewN nq) from RT3.out.belowB sz3 (⟨rfl, rfl, rfl, Nat.le_refl _, fun _ _ => rfl⟩ : Below W3.heap.size W3 (W3.drewN nq)) (Nat.le_refl _))
  go_wp2_with fail
  refine (DO.out _ RT4.out.row).mono ?_
  rintro e w1 ⟨rfl, hr1, hg1⟩
  simp only [Stp.val]
  rw [HOK.out]
  have RT1 := hide (RT4.out.act hr1 hg1)
  clear hr1 hg1
  obtain ⟨V, hV⟩ : ∃ V, (((w1.setCell ⟨w.heap.size, 12, none⟩ (.int .i64 0)).setCell ⟨w.heap.size, 22, none⟩ (.bool true)).setCell ⟨w.heap.size, 23, none⟩ (.int .u64 (r0 % 4294967296))).alloc (.cells #[.int .i64 x.hand, .int .i64 x.act, .int .i64 x.at_, .int .u64 x.had, .int .u64 x.put, .bool true] 71) = V := ⟨_, rfl⟩
  have hset : (((l0.set 12 (.int .i64 0)).set 22 (.bool true)).set 23 (.int .u64 (r0 % 4294967296))) = lt := by rw [← HL0.out, ← HLTE.out]; rfl
  obtain ⟨q, hq⟩ : ∃ q, w1.heap.size = q := ⟨_, rfl⟩
  have RTV := hide (show RT w g n cap lt f' V from by
    rw [← hV, ← hset]
    exact (((RT1.out.set 12 (by omega) (.int .i64 0)).set 22 (by omega) (.bool true)).set 23 (by omega) (.int .u64 (r0 % 4294967296))).alloc _)
  have lq3 : w.heap.size + 3 ≤ q := by have := RT1.out.size; omega
  have SV := hide (show V.rangeAt q 0 x.cells from by
    rw [← hV, ← hq]
    have e1 : w1.heap.size = (((w1.setCell ⟨w.heap.size, 12, none⟩ (.int .i64 0)).setCell ⟨w.heap.size, 22, none⟩ (.bool true)).setCell ⟨w.heap.size, 23, none⟩ (.int .u64 (r0 % 4294967296))).heap.size := by simp
    have := rowL_alloc (((w1.setCell ⟨w.heap.size, 12, none⟩ (.int .i64 0)).setCell ⟨w.heap.size, 22, none⟩ (.bool true)).setCell ⟨w.heap.size, 23, none⟩ (.int .u64 (r0 % 4294967296))) [.int .i64 x.hand, .int .i64 x.act, .int .i64 x.at_, .int .u64 x.had, .int .u64 x.put, .bool true] 71 (n := 6) rfl
    rw [← e1] at this
    have e2 : x.cells = [.int .i64 x.hand, .int .i64 x.act, .int .i64 x.at_, .int .u64 x.had, .int .u64 x.put, .bool true] := by simp [Stp.cells, HOK.out]
    rw [e2]
    exact rowIs.range this rfl)
  have lqV : q < V.heap.size := by rw [← hV, ← hq]; simp
  have v5 : V.cell? ⟨w1.heap.size, 5, none⟩ = some (.bool true) := by rw [hq]; have := SV.out 5 _ rfl; rw [HOK.out] at this; simpa using this
  have lv5 : w1.heap.size < V.heap.size := by rw [hq]; exact lqV
  have HQ := hide hq
  clear hq
  have d12 := RT1.out.tk.cell (i := 12) (by omega)
  have df12 := RT1.out.frozen 12
  have d22 := RT1.out.tk.cell (i := 22) (by omega)
  have df22 := RT1.out.frozen 22
  have d23 := RT1.out.tk.cell (i := 23) (by omega)
  have df23 := RT1.out.frozen 23
  have lp1 : w.heap.size < w1.heap.size := by have := RT1.out.size; omega
  go_upto_region 18 with (fail)
  rw [HQ.out]
  clear hV hset HQ
  clear gw
  refine RG.region (ks := [(0, 78), (1, 79), (2, 80), (3, 81), (6, 6)]) (vals := fun i => match i with
        | 0 => .agg lt.toArray
        | 1 => .agg #[.int .i64 x.hand, .int .i64 x.act, .int .i64 x.at_, .int .u64 x.had, .int .u64 x.put, .bool x.ok]
        | 2 => .pointer (some ⟨q, 5, none⟩)
        | 3 => .bool x.ok
        | 6 => .bool x.ok
        | _ => undef) (x := 3) (WI := fun L v_ w' => RG.SM (fun _ w' => RD w g n cap lt f' (some q) x w') (w.heap.size + 1) (w.heap.size + 2) lt x true (L 4) (L 5) w') (by kernel_rfl) ?gg ?bk rfl ?dd ?xx (RG.SM.begin (c := true) (RD.drew (RD.of RTV.out (fun k e => by cases e; exact ⟨SV.out, lq3, lqV⟩))) (by rw [HLT.out]; exact rowIs.there RTV.out.rt.drew (by omega)) (rowIs.there RTV.out.rs.drew (by simp [Stp.cells]))) ?does ?fin
  case gg =>
    intro i o ho
    have hi : i < 7 := by have := (Array.getElem?_eq_some_iff.1 ho).1; simpa using this
    match i, hi with
    | 0, _ | 1, _ | 2, _ | 3, _ | 4, _ | 5, _ | 6, _ => injection ho with ho; subst ho; rfl
  case bk =>
    intro i o ho
    have hi : i < 7 := by have := (Array.getElem?_eq_some_iff.1 ho).1; simpa using this
    match i, hi with
    | 0, _ | 1, _ | 2, _ | 3, _ | 4, _ | 5, _ | 6, _ => injection ho with ho; subst ho; simp [Region.binds]
  case dd =>
    intro k hk
    have hk' : k < 82 := by
      simp [RetN.D] at hk
      omega
    simpa using hk'
  case xx => simp
  case does =>
    intro i o ho
    have hi : i < 7 := by have := (Array.getElem?_eq_some_iff.1 ho).1; simpa using this
    match i, hi with
    | 0, _ => injection ho with ho; subst ho; exact RG.Does.read rfl (fun L v_ w' h => RG.SM.skip2 (by decide) (by decide) h) (fun L a w' hI hd => ex_load_row rfl (hI.fix 2 (Reg.notD rfl) (by decide)) hI.world.inv.range HD.out.1 HD.out.2.1 (by rw [HLT.out]; exact size79))
    | 1, _ => injection ho with ho; subst ho; exact RG.Does.read rfl (fun L v_ w' h => RG.SM.skip2 (by decide) (by decide) h) (fun L a w' hI hd => ex_load_row rfl (hI.fix 11 (Reg.notD rfl) (by decide)) (hI.world.inv.var _ rfl).1 HD.out.2.2.1 HD.out.2.2.2 size46)
    | 2, _ => injection ho with ho; subst ho; exact RG.Does.read rfl (fun L v_ w' h => RG.SM.skip2 (by decide) (by decide) h) (fun L a w' hI hd => ex_fieldo rfl (hI.fix 11 (Reg.notD rfl) (by decide)) (by simp [go_sem]))
    | 3, _ => injection ho with ho; subst ho; exact RG.Does.read rfl (fun L v_ w' h => RG.SM.skip2 (by decide) (by decide) h) (fun L a w' hI hd => ex_load rfl (hI.pure 2 _ _ rfl (hd ⟨2, .data⟩ (by simp) rfl)) (agg_b w') (hI.world.inv.scell rfl (i := 5) rfl))
    | 4, _ => injection ho with ho; subst ho; exact RG.Does.put (ls := lt) rfl rfl rfl (by rw [HLT.out]; exact size79) HTK.out.2 (fun L a w' hI hL hd => ⟨(hI.pure 0 _ _ rfl (hd ⟨0, .data⟩ (by simp) rfl)), by obtain ⟨e2, e3⟩ := RG.SM.putC (fun c_ w1_ w2_ ht_ h_ => h_.touch ht_) (by omega) hI.world; exact ⟨w.heap.size + 1, 0, hI.fix 4 (Reg.notD rfl) (by decide), e2, by show RG.SM (fun _ w' => RD w g n cap lt f' (some q) x w') (w.heap.size + 1) (w.heap.size + 2) lt x true (upd L 4 true 4) (upd L 4 true 5) _; rw [upd_same, upd_other _ _ (show 5 ≠ 4 by decide)]; exact e3⟩⟩)
    | 5, _ => injection ho with ho; subst ho; exact RG.Does.put (ls := x.cells) rfl rfl rfl size46 (by simp [Stp.cells, Value.oneCell']) (fun L a w' hI hL hd => ⟨(hI.pure 1 _ _ rfl (hd ⟨1, .data⟩ (by simp) rfl)), by obtain ⟨e2, e3⟩ := RG.SM.putE (fun c_ w1_ w2_ ht_ h_ => h_.touch ht_) (by omega) hI.world rfl; exact ⟨w.heap.size + 2, 0, hI.fix 5 (Reg.notD rfl) (by decide), e2, by show RG.SM (fun _ w' => RD w g n cap lt f' (some q) x w') (w.heap.size + 1) (w.heap.size + 2) lt x true (upd L 5 true 4) (upd L 5 true 5) _; rw [upd_same, upd_other _ _ (show 4 ≠ 5 by decide)]; exact e3⟩⟩)
    | 6, _ => injection ho with ho; subst ho; exact RG.Does.read rfl (fun L v_ w' h => RG.SM.skip2 (by decide) (by decide) h) (fun L a w' hI hd => ex_assign rfl (hI.pure 3 _ _ rfl (hd ⟨3, .data⟩ (by simp) rfl)))
  case fin =>
    intro L a' w' hI hall
    rename_i K2 hK2
    refine hK2 _ _ ?_
    have hw := hI.world
    simp only [hall 4 (by decide), hall 5 (by decide)] at hw
    have rC := hw.stoC rfl
    have rD := hw.stoE rfl
    have pC : a'.eval (.tmp 4) = .pointer (some ⟨w.heap.size + 1, 0, none⟩) := hI.fix 4 (Reg.notD rfl) (by decide)
    have pD : a'.eval (.tmp 5) = .pointer (some ⟨w.heap.size + 2, 0, none⟩) := hI.fix 5 (Reg.notD rfl) (by decide)
    have pe : a'.eval (.tmp 6) = .bool x.ok := hI.pure 6 6 _ rfl (hall 6 (by decide))
    have hdf : a'.defers = [] := hI.df
    have hT := run_loadVar_mid (P := Tryz.prog) w' (w.heap.size + 1) 0 _ lt dT rC HD.out.1 HD.out.2.1 (by rw [HLT.out]; exact size79)
    have hS := run_loadVar_mid (P := Tryz.prog) w' (w.heap.size + 2) 0 _ _ dS rD HD.out.2.2.1 HD.out.2.2.2 size46
    have hres := results_cct (Q := Tryz.prog) (fn := Tryz.f63) (tmps := a'.tmps) (t := 4) (t' := 5) (t'' := 6) (W := w') (by rfl) pC hT pD hS
    rw [show a'.tmps.getD 6 undef = .bool x.ok from pe] at hres
    go_wp2
    exact bodyPost_ret (v := .tuple #[.agg lt.toArray, x.val, .bool x.ok]) hres hdf ⟨rfl, hw.inv.row, hw.inv.gro⟩
set_option maxHeartbeats 8000000 in
theorem rp2_no {w : World} {g n cap : Nat} {f f' : Nat → Int} {x : Stp} {sh : Shp} {hand a b c hh r0 r1 : Int} (hr : IsRow w g n cap f) (h5 : Shape.R5 sh.a sh.b sh.c sh.d sh.e) (hb0 : 0 ≤ r0 ∧ r0 ≤ 18446744073709551615) (h1 : 0 ≤ r1 ∧ r1 ≤ 18446744073709551615) (hok : x.ok = false)
    (hx : stepOf n f ⟨hand, 5, 2, r0, bmp r0 (idx r1), true⟩ = x) (hf' : wordsOf n f ⟨hand, 5, 2, r0, bmp r0 (idx r1), true⟩ = f') :
    Calls Tryz.prog 63 #[.agg (tk sh hand ⟨2, a, b, c, hh⟩ 2 ⟨r0, r1, 0, 0, 0, 0, 0, 0⟩ ⟨false, 0⟩).toArray, .slice (some ⟨g, 0, none⟩) n cap] w fun e w' =>
      e = .returned (.tuple #[.agg (tk sh hand ⟨2, a, b, c, hh⟩ 0 ⟨r0, r1, 0, 0, 0, 0, 0, 0⟩ ⟨false, 0⟩).toArray, x.val, .bool x.ok]) ∧ IsRow w' g n cap f' ∧ w.grownBy w' (some g) := by
  have DO := hide (fun (w' : World) (hr' : IsRow w' g n cap f) => ref_do (s := ⟨hand, 5, 2, r0, bmp r0 (idx r1), true⟩) hr' ⟨bmp_lo _ _, bmp_hi _ _⟩ ⟨by show (1 : Int) ≤ 5; decide, by show (5 : Int) ≤ 5; decide⟩)
  rw [hx, hf'] at DO
  have IX := hide (fun w1 : World => index_ref r0 hb0.1 (by omega) w1)
  have HEAD := hide (fun (i : Int) (w1 : World) => rhead_any h5 i w1)
  have LINK := hide (fun (i : Int) (w1 : World) => rlink_any h5 i w1)
  have BP := hide (fun w1 : World => bump_ref r0 (idx r1) hb0.1 (by omega) w1)
  have IY := hide (fun w1 : World => index_ref r1 h1.1 (by omega) w1)
  have gw : IntKind.u64.wrap (r0 % 4294967296) = r0 % 4294967296 := by rw [IntKind.wrap_u64]; omega
  have HOK := hide hok
  have lg := hr.lt
  obtain ⟨l0, hl0⟩ : ∃ l, tk sh hand ⟨2, a, b, c, hh⟩ 2 ⟨r0, r1, 0, 0, 0, 0, 0, 0⟩ ⟨false, 0⟩ = l := ⟨_, rfl⟩
  have hl0' : l0.length = 28 := by rw [← hl0]; rfl
  obtain ⟨lt, hlt⟩ : ∃ l, tk sh hand ⟨2, a, b, c, hh⟩ 0 ⟨r0, r1, 0, 0, 0, 0, 0, 0⟩ ⟨false, 0⟩ = l := ⟨_, rfl⟩
  have HTK := hide (show IsTk lt from by rw [← hlt]; exact tk_is _ _ _ _ _ _)
  have HLT := hide (show lt.length = 28 from by rw [← hlt]; rfl)
  rw [hl0, hlt]
  obtain ⟨W3, hW3⟩ : ∃ W3, ((w.alloc (.cells l0.toArray 85)).alloc (.cells tk0.toArray 85)).alloc (.cells [Value.int .i64 0, .int .i64 0, .int .i64 0, .int .u64 0, .int .u64 0, .bool false].toArray 71) = W3 := ⟨_, rfl⟩
  have RT3 := hide (show RT w g n cap l0 f W3 from by rw [← hW3]; exact RT.start hr hl0')
  have GS := hide (show ∀ (j : Nat) (v : Value), ([.int .i64 sh.a, .int .i64 sh.b, .int .i64 sh.c, .int .i64 sh.d, .int .i64 sh.e, .int .i64 sh.f] : List Value)[j]? = some v → l0[j]? = some v from by
    intro j v hj
    have hj6 : j < 6 := (List.getElem?_eq_some_iff.1 hj).1
    rw [← hl0]
    match j, hj6 with
    | 0, _ | 1, _ | 2, _ | 3, _ | 4, _ | 5, _ => exact hj)
  have G6 := hide (show l0[6]? = some (.int .i64 hand) from by rw [← hl0]; rfl)
  have c6 := RT3.out.cell G6.out
  have G12 := hide (show l0[12]? = some (.int .i64 2) from by rw [← hl0]; rfl)
  have c12 := RT3.out.cell G12.out
  have G13 := hide (show l0[13]? = some (.int .u64 r0) from by rw [← hl0]; rfl)
  have c13 := RT3.out.cell G13.out
  have G14 := hide (show l0[14]? = some (.int .u64 r1) from by rw [← hl0]; rfl)
  have c14 := RT3.out.cell G14.out
  obtain ⟨dT, hdT1, hdT2⟩ := row79
  obtain ⟨dS, hdS1, hdS2⟩ := row46
  obtain ⟨dH, hdH1, hdH2⟩ := rowSh
  have HD := hide (And.intro hdT1 (And.intro hdT2 (And.intro hdS1 hdS2)))
  have HDS := hide (And.intro hdH1 hdH2)
  have sz3 := RT3.out.size
  have HL0 := hide hl0
  have HLTE := hide hlt
  clear hx hf' hr h5 hl0 hl0' hlt hdT1 hdT2 hdS1 hdS2 hdH1 hdH2 hb0 h1 hok
  simp only [tk0] at hW3
  go_enter Tryz.func63, Tryz.ntmps63
  go_upto_region 13 with (go_at_call 64; refine (IX.out _).mono ?_; rintro e wq ⟨rfl, hwq⟩; obtain rfl := hwq.symm)
  clear hW3
  go_quiet ((first | (go_at_call 64; exact Calls.quiet_of_same (IY.out _)) | (go_at_call 70; exact Calls.quiet_of_same (BP.out _))))
  have RT4 := hide (show RT w g n cap l0 f (W3.drewN nq) from RT3.out.belowB sz3 (⟨rfl, rfl, rfl, Nat.le_refl _, fun _ _ => rfl⟩ : Below W3.heap.size W3 (W3.drewN nq)) (Nat.le_refl _))
  go_wp2_with fail
  refine (DO.out _ RT4.out.row).mono ?_
  rintro e w1 ⟨rfl, hr1, hg1⟩
  simp only [Stp.val]
  rw [HOK.out]
  have RT1 := hide (RT4.out.act hr1 hg1)
  clear hr1 hg1
  obtain ⟨V, hV⟩ : ∃ V, (w1.setCell ⟨w.heap.size, 12, none⟩ (.int .i64 0)).alloc (.cells #[.int .i64 x.hand, .int .i64 x.act, .int .i64 x.at_, .int .u64 x.had, .int .u64 x.put, .bool false] 71) = V := ⟨_, rfl⟩
  have hset : (l0.set 12 (.int .i64 0)) = lt := by rw [← HL0.out, ← HLTE.out]; rfl
  obtain ⟨q, hq⟩ : ∃ q, w1.heap.size = q := ⟨_, rfl⟩
  have RTV := hide (show RT w g n cap lt f' V from by
    rw [← hV, ← hset]
    exact (RT1.out.set 12 (by omega) (.int .i64 0)).alloc _)
  have lq3 : w.heap.size + 3 ≤ q := by have := RT1.out.size; omega
  have SV := hide (show V.rangeAt q 0 x.cells from by
    rw [← hV, ← hq]
    have e1 : w1.heap.size = (w1.setCell ⟨w.heap.size, 12, none⟩ (.int .i64 0)).heap.size := by simp
    have := rowL_alloc (w1.setCell ⟨w.heap.size, 12, none⟩ (.int .i64 0)) [.int .i64 x.hand, .int .i64 x.act, .int .i64 x.at_, .int .u64 x.had, .int .u64 x.put, .bool false] 71 (n := 6) rfl
    rw [← e1] at this
    have e2 : x.cells = [.int .i64 x.hand, .int .i64 x.act, .int .i64 x.at_, .int .u64 x.had, .int .u64 x.put, .bool false] := by simp [Stp.cells, HOK.out]
    rw [e2]
    exact rowIs.range this rfl)
  have lqV : q < V.heap.size := by rw [← hV, ← hq]; simp
  have v5 : V.cell? ⟨w1.heap.size, 5, none⟩ = some (.bool false) := by rw [hq]; have := SV.out 5 _ rfl; rw [HOK.out] at this; simpa using this
  have lv5 : w1.heap.size < V.heap.size := by rw [hq]; exact lqV
  have HQ := hide hq
  clear hq
  have d12 := RT1.out.tk.cell (i := 12) (by omega)
  have df12 := RT1.out.frozen 12
  have lp1 : w.heap.size < w1.heap.size := by have := RT1.out.size; omega
  go_upto_region 18 with (fail)
  rw [HQ.out]
  clear hV hset HQ
  clear gw
  refine RG.region (ks := [(0, 78), (1, 79), (2, 80), (3, 81), (6, 6)]) (vals := fun i => match i with
        | 0 => .agg lt.toArray
        | 1 => .agg #[.int .i64 x.hand, .int .i64 x.act, .int .i64 x.at_, .int .u64 x.had, .int .u64 x.put, .bool x.ok]
        | 2 => .pointer (some ⟨q, 5, none⟩)
        | 3 => .bool x.ok
        | 6 => .bool x.ok
        | _ => undef) (x := 3) (WI := fun L v_ w' => RG.SM (fun _ w' => RD w g n cap lt f' (some q) x w') (w.heap.size + 1) (w.heap.size + 2) lt x true (L 4) (L 5) w') (by kernel_rfl) ?gg ?bk rfl ?dd ?xx (RG.SM.begin (c := true) (RD.drew (RD.of RTV.out (fun k e => by cases e; exact ⟨SV.out, lq3, lqV⟩))) (by rw [HLT.out]; exact rowIs.there RTV.out.rt.drew (by omega)) (rowIs.there RTV.out.rs.drew (by simp [Stp.cells]))) ?does ?fin
  case gg =>
    intro i o ho
    have hi : i < 7 := by have := (Array.getElem?_eq_some_iff.1 ho).1; simpa using this
    match i, hi with
    | 0, _ | 1, _ | 2, _ | 3, _ | 4, _ | 5, _ | 6, _ => injection ho with ho; subst ho; rfl
  case bk =>
    intro i o ho
    have hi : i < 7 := by have := (Array.getElem?_eq_some_iff.1 ho).1; simpa using this
    match i, hi with
    | 0, _ | 1, _ | 2, _ | 3, _ | 4, _ | 5, _ | 6, _ => injection ho with ho; subst ho; simp [Region.binds]
  case dd =>
    intro k hk
    have hk' : k < 82 := by
      simp [RetN.D] at hk
      omega
    simpa using hk'
  case xx => simp
  case does =>
    intro i o ho
    have hi : i < 7 := by have := (Array.getElem?_eq_some_iff.1 ho).1; simpa using this
    match i, hi with
    | 0, _ => injection ho with ho; subst ho; exact RG.Does.read rfl (fun L v_ w' h => RG.SM.skip2 (by decide) (by decide) h) (fun L a w' hI hd => ex_load_row rfl (hI.fix 2 (Reg.notD rfl) (by decide)) hI.world.inv.range HD.out.1 HD.out.2.1 (by rw [HLT.out]; exact size79))
    | 1, _ => injection ho with ho; subst ho; exact RG.Does.read rfl (fun L v_ w' h => RG.SM.skip2 (by decide) (by decide) h) (fun L a w' hI hd => ex_load_row rfl (hI.fix 11 (Reg.notD rfl) (by decide)) (hI.world.inv.var _ rfl).1 HD.out.2.2.1 HD.out.2.2.2 size46)
    | 2, _ => injection ho with ho; subst ho; exact RG.Does.read rfl (fun L v_ w' h => RG.SM.skip2 (by decide) (by decide) h) (fun L a w' hI hd => ex_fieldo rfl (hI.fix 11 (Reg.notD rfl) (by decide)) (by simp [go_sem]))
    | 3, _ => injection ho with ho; subst ho; exact RG.Does.read rfl (fun L v_ w' h => RG.SM.skip2 (by decide) (by decide) h) (fun L a w' hI hd => ex_load rfl (hI.pure 2 _ _ rfl (hd ⟨2, .data⟩ (by simp) rfl)) (agg_b w') (hI.world.inv.scell rfl (i := 5) rfl))
    | 4, _ => injection ho with ho; subst ho; exact RG.Does.put (ls := lt) rfl rfl rfl (by rw [HLT.out]; exact size79) HTK.out.2 (fun L a w' hI hL hd => ⟨(hI.pure 0 _ _ rfl (hd ⟨0, .data⟩ (by simp) rfl)), by obtain ⟨e2, e3⟩ := RG.SM.putC (fun c_ w1_ w2_ ht_ h_ => h_.touch ht_) (by omega) hI.world; exact ⟨w.heap.size + 1, 0, hI.fix 4 (Reg.notD rfl) (by decide), e2, by show RG.SM (fun _ w' => RD w g n cap lt f' (some q) x w') (w.heap.size + 1) (w.heap.size + 2) lt x true (upd L 4 true 4) (upd L 4 true 5) _; rw [upd_same, upd_other _ _ (show 5 ≠ 4 by decide)]; exact e3⟩⟩)
    | 5, _ => injection ho with ho; subst ho; exact RG.Does.put (ls := x.cells) rfl rfl rfl size46 (by simp [Stp.cells, Value.oneCell']) (fun L a w' hI hL hd => ⟨(hI.pure 1 _ _ rfl (hd ⟨1, .data⟩ (by simp) rfl)), by obtain ⟨e2, e3⟩ := RG.SM.putE (fun c_ w1_ w2_ ht_ h_ => h_.touch ht_) (by omega) hI.world rfl; exact ⟨w.heap.size + 2, 0, hI.fix 5 (Reg.notD rfl) (by decide), e2, by show RG.SM (fun _ w' => RD w g n cap lt f' (some q) x w') (w.heap.size + 1) (w.heap.size + 2) lt x true (upd L 5 true 4) (upd L 5 true 5) _; rw [upd_same, upd_other _ _ (show 4 ≠ 5 by decide)]; exact e3⟩⟩)
    | 6, _ => injection ho with ho; subst ho; exact RG.Does.read rfl (fun L v_ w' h => RG.SM.skip2 (by decide) (by decide) h) (fun L a w' hI hd => ex_assign rfl (hI.pure 3 _ _ rfl (hd ⟨3, .data⟩ (by simp) rfl)))
  case fin =>
    intro L a' w' hI hall
    rename_i K2 hK2
    refine hK2 _ _ ?_
    have hw := hI.world
    simp only [hall 4 (by decide), hall 5 (by decide)] at hw
    have rC := hw.stoC rfl
    have rD := hw.stoE rfl
    have pC : a'.eval (.tmp 4) = .pointer (some ⟨w.heap.size + 1, 0, none⟩) := hI.fix 4 (Reg.notD rfl) (by decide)
    have pD : a'.eval (.tmp 5) = .pointer (some ⟨w.heap.size + 2, 0, none⟩) := hI.fix 5 (Reg.notD rfl) (by decide)
    have pe : a'.eval (.tmp 6) = .bool x.ok := hI.pure 6 6 _ rfl (hall 6 (by decide))
    have hdf : a'.defers = [] := hI.df
    have hT := run_loadVar_mid (P := Tryz.prog) w' (w.heap.size + 1) 0 _ lt dT rC HD.out.1 HD.out.2.1 (by rw [HLT.out]; exact size79)
    have hS := run_loadVar_mid (P := Tryz.prog) w' (w.heap.size + 2) 0 _ _ dS rD HD.out.2.2.1 HD.out.2.2.2 size46
    have hres := results_cct (Q := Tryz.prog) (fn := Tryz.f63) (tmps := a'.tmps) (t := 4) (t' := 5) (t'' := 6) (W := w') (by rfl) pC hT pD hS
    rw [show a'.tmps.getD 6 undef = .bool x.ok from pe] at hres
    go_wp2
    exact bodyPost_ret (v := .tuple #[.agg lt.toArray, x.val, .bool x.ok]) hres hdf ⟨rfl, hw.inv.row, hw.inv.gro⟩
end Shd
end Go.Proofs.YtnodkeoikamonaaGreat
