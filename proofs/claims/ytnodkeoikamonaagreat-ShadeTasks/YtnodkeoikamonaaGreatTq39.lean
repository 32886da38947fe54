/-
  Lemmas: ShadeRD.
-/
import Derived.Test.YtnodkeoikamonaaGreatTq36
/-
  Shade's reference: Pull: Grey and the link looked at.
-/
namespace Go.Proofs.YtnodkeoikamonaaGreat
open Go.RowKit
set_option linter.unusedVariables false
set_option linter.unusedSimpArgs false
set_option maxRecDepth 20000
namespace Shd
set_option maxHeartbeats 8000000 in
theorem rp0_any {w : World} {g n cap : Nat} {f f' : Nat → Int} {x : Stp} {sh : Shp} {hand a b c hh r0 r1 : Int} (hr : IsRow w g n cap f) (h5 : Shape.R5 sh.a sh.b sh.c sh.d sh.e) (hb0 : 0 ≤ r0 ∧ r0 ≤ 18446744073709551615) {en : Bool} (hxh : 0 ≤ x.had ∧ x.had ≤ 18446744073709551615) (hen : decide (headAt sh (idx x.had) < 0) = en)
    (hx : stepOf n f ⟨hand, 1, 2, 0, 0, true⟩ = x) (hf' : wordsOf n f ⟨hand, 1, 2, 0, 0, true⟩ = f') :
    Calls Tryz.prog 63 #[.agg (tk sh hand ⟨2, a, b, c, hh⟩ 0 ⟨r0, r1, 0, 0, 0, 0, 0, 0⟩ ⟨false, 0⟩).toArray, .slice (some ⟨g, 0, none⟩) n cap] w fun e w' =>
      e = .returned (.tuple #[.agg (tk sh hand ⟨2, a, b, c, hh⟩ 1 ⟨x.had, r1, 0, 0, 0, 0, 0, 0⟩ ⟨false, 0⟩).toArray, x.val, .bool en]) ∧ IsRow w' g n cap f' ∧ w.grownBy w' (some g) := by
  have DO := hide (fun (w' : World) (hr' : IsRow w' g n cap f) => ref_do (s := ⟨hand, 1, 2, 0, 0, true⟩) hr' ⟨Int.le_refl 0, by show (0 : Int) ≤ 18446744073709551615; decide⟩ ⟨by show (1 : Int) ≤ 1; decide, by show (1 : Int) ≤ 5; decide⟩)
  rw [hx, hf'] at DO
  have IX := hide (fun w1 : World => index_ref r0 hb0.1 (by omega) w1)
  have HEAD := hide (fun (i : Int) (w1 : World) => rhead_any h5 i w1)
  have LINK := hide (fun (i : Int) (w1 : World) => rlink_any h5 i w1)
  have IY := hide (fun w1 : World => index_ref x.had hxh.1 (by omega) w1)
  have HEN := hide hen
  have lg := hr.lt
  obtain ⟨l0, hl0⟩ : ∃ l, tk sh hand ⟨2, a, b, c, hh⟩ 0 ⟨r0, r1, 0, 0, 0, 0, 0, 0⟩ ⟨false, 0⟩ = l := ⟨_, rfl⟩
  have hl0' : l0.length = 28 := by rw [← hl0]; rfl
  obtain ⟨lt, hlt⟩ : ∃ l, tk sh hand ⟨2, a, b, c, hh⟩ 1 ⟨x.had, r1, 0, 0, 0, 0, 0, 0⟩ ⟨false, 0⟩ = l := ⟨_, rfl⟩
  have HTK := hide (show IsTk lt from by rw [← hlt]; exact tk_is _ _ _ _ _ _)
  have HLT := hide (show lt.length = 28 from by rw [← hlt]; rfl)
  rw [hl0, hlt]
  obtain ⟨W3, hW3⟩ : ∃ W3, ((w.alloc (.cells l0.toArray 85)).alloc (.cells tk0.toArray 85)).alloc (.cells [Value.int .i64 0, .int .i64 0, .int .i64 0, .int .u64 0, .int .u64 0, .bool false].toArray 71) = W3 := ⟨_, rfl⟩
  have RT3 := hide (show RT w g n cap l0 f W3 from by rw [← hW3]; exact RT.start hr hl0')
  have GS := hide (show ∀ (j : Nat) (v : Value), ([.int .i64 sh.a, .int .i64 sh.b, .int .i64 sh.c, .int .i64 sh.d, .int .i64 sh.e, .int .i64 sh.f] : List Value)[j]? = some v → l0[j]? = some v from by
    intro j v hj
    have hj6 : j < 6 := (List.getElem?_eq_some_iff.1 hj).1
    rw [← hl0]
    match j, hj6 with
    | 0, _ | 1, _ | 2, _ | 3, _ | 4, _ | 5, _ => exact hj)
  have G6 := hide (show l0[6]? = some (.int .i64 hand) from by rw [← hl0]; rfl)
  have c6 := RT3.out.cell G6.out
  have G12 := hide (show l0[12]? = some (.int .i64 0) from by rw [← hl0]; rfl)
  have c12 := RT3.out.cell G12.out
  have G13 := hide (show l0[13]? = some (.int .u64 r0) from by rw [← hl0]; rfl)
  have c13 := RT3.out.cell G13.out
  obtain ⟨dT, hdT1, hdT2⟩ := row79
  obtain ⟨dS, hdS1, hdS2⟩ := row46
  obtain ⟨dH, hdH1, hdH2⟩ := rowSh
  have HD := hide (And.intro hdT1 (And.intro hdT2 (And.intro hdS1 hdS2)))
  have HDS := hide (And.intro hdH1 hdH2)
  have sz3 := RT3.out.size
  have HL0 := hide hl0
  have HLTE := hide hlt
  clear hx hf' hr h5 hl0 hl0' hlt hdT1 hdT2 hdS1 hdS2 hdH1 hdH2 hb0 hxh hen
  simp only [tk0] at hW3
  go_enter Tryz.func63, Tryz.ntmps63
  go_upto_region 4 with (go_at_call 64; refine (IX.out _).mono ?_; rintro e wq ⟨rfl, hwq⟩; obtain rfl := hwq.symm)
  clear hW3
  go_wp2_with fail
  refine (DO.out _ RT3.out.row).mono ?_
  rintro e w1 ⟨rfl, hr1, hg1⟩
  simp only [Stp.val]
  skip
  have RT1 := hide (RT3.out.act hr1 hg1)
  clear hr1 hg1
  obtain ⟨V, hV⟩ : ∃ V, ((w1.setCell ⟨w.heap.size, 13, none⟩ (.int .u64 x.had)).setCell ⟨w.heap.size, 12, none⟩ (.int .i64 1)).alloc (.cells #[.int .i64 x.hand, .int .i64 x.act, .int .i64 x.at_, .int .u64 x.had, .int .u64 x.put, .bool x.ok] 71) = V := ⟨_, rfl⟩
  have hset : ((l0.set 13 (.int .u64 x.had)).set 12 (.int .i64 1)) = lt := by rw [← HL0.out, ← HLTE.out]; rfl
  obtain ⟨q, hq⟩ : ∃ q, w1.heap.size = q := ⟨_, rfl⟩
  have RTV := hide (show RT w g n cap lt f' V from by
    rw [← hV, ← hset]
    exact ((RT1.out.set 13 (by omega) (.int .u64 x.had)).set 12 (by omega) (.int .i64 1)).alloc _)
  have lq3 : w.heap.size + 3 ≤ q := by have := RT1.out.size; omega
  have SV := hide (show V.rangeAt q 0 x.cells from by
    rw [← hV, ← hq]
    have e1 : w1.heap.size = ((w1.setCell ⟨w.heap.size, 13, none⟩ (.int .u64 x.had)).setCell ⟨w.heap.size, 12, none⟩ (.int .i64 1)).heap.size := by simp
    have := rowL_alloc ((w1.setCell ⟨w.heap.size, 13, none⟩ (.int .u64 x.had)).setCell ⟨w.heap.size, 12, none⟩ (.int .i64 1)) [.int .i64 x.hand, .int .i64 x.act, .int .i64 x.at_, .int .u64 x.had, .int .u64 x.put, .bool x.ok] 71 (n := 6) rfl
    rw [← e1] at this
    have e2 : x.cells = [.int .i64 x.hand, .int .i64 x.act, .int .i64 x.at_, .int .u64 x.had, .int .u64 x.put, .bool x.ok] := by simp [Stp.cells]
    rw [e2]
    exact rowIs.range this rfl)
  have lqV : q < V.heap.size := by rw [← hV, ← hq]; simp
  have HQ := hide hq
  clear hq
  have d12 := RT1.out.tk.cell (i := 12) (by omega)
  have df12 := RT1.out.frozen 12
  have d13 := RT1.out.tk.cell (i := 13) (by omega)
  have df13 := RT1.out.frozen 13
  have lp1 : w.heap.size < w1.heap.size := by have := RT1.out.size; omega
  go_upto_region 7 with (fail)
  rw [HQ.out]
  clear hV hset HQ
  have KS := hide (show ∀ (j : Nat) (v : Value), ([.int .i64 sh.a, .int .i64 sh.b, .int .i64 sh.c, .int .i64 sh.d, .int .i64 sh.e, .int .i64 sh.f] : List Value)[j]? = some v → lt[j]? = some v from by
    intro j v hj
    have hj6 : j < 6 := (List.getElem?_eq_some_iff.1 hj).1
    rw [← HLTE.out]
    match j, hj6 with
    | 0, _ | 1, _ | 2, _ | 3, _ | 4, _ | 5, _ => exact hj)
  refine RG.region (ks := [(0, 29), (1, 30), (2, 31), (3, 32), (4, 33), (5, 34), (6, 35), (7, 36), (8, 37), (11, 6)]) (vals := fun i => match i with
        | 0 => .agg lt.toArray
        | 1 => .agg #[.int .i64 x.hand, .int .i64 x.act, .int .i64 x.at_, .int .u64 x.had, .int .u64 x.put, .bool x.ok]
        | 2 => .pointer (some ⟨w.heap.size, 0, none⟩)
        | 3 => .agg #[.int .i64 sh.a, .int .i64 sh.b, .int .i64 sh.c, .int .i64 sh.d, .int .i64 sh.e, .int .i64 sh.f]
        | 4 => .pointer (some ⟨q, 3, none⟩)
        | 5 => .int .u64 x.had
        | 6 => .int .i64 (idx x.had)
        | 7 => .int .i64 (headAt sh (idx x.had))
        | 8 => .bool en
        | 11 => .bool en
        | _ => undef) (x := 3) (WI := fun L v_ w' => RG.SM (fun _ w' => RD w g n cap lt f' (some q) x w') (w.heap.size + 1) (w.heap.size + 2) lt x true (L 9) (L 10) w') (by kernel_rfl) ?gg ?bk rfl ?dd ?xx (RG.SM.begin (c := true) (RD.drew (RD.of RTV.out (fun k e => by cases e; exact ⟨SV.out, lq3, lqV⟩))) (by rw [HLT.out]; exact rowIs.there RTV.out.rt.drew (by omega)) (rowIs.there RTV.out.rs.drew (by simp [Stp.cells]))) ?does ?fin
  case gg =>
    intro i o ho
    have hi : i < 12 := by have := (Array.getElem?_eq_some_iff.1 ho).1; simpa using this
    match i, hi with
    | 0, _ | 1, _ | 2, _ | 3, _ | 4, _ | 5, _ | 6, _ | 7, _ | 8, _ | 9, _ | 10, _ | 11, _ => injection ho with ho; subst ho; rfl
  case bk =>
    intro i o ho
    have hi : i < 12 := by have := (Array.getElem?_eq_some_iff.1 ho).1; simpa using this
    match i, hi with
    | 0, _ | 1, _ | 2, _ | 3, _ | 4, _ | 5, _ | 6, _ | 7, _ | 8, _ | 9, _ | 10, _ | 11, _ => injection ho with ho; subst ho; simp [Region.binds]
  case dd =>
    intro k hk
    have hk' : k < 82 := by
      simp [RetN.D] at hk
      omega
    simpa using hk'
  case xx => simp
  case does =>
    intro i o ho
    have hi : i < 12 := by have := (Array.getElem?_eq_some_iff.1 ho).1; simpa using this
    match i, hi with
    | 0, _ => injection ho with ho; subst ho; exact RG.Does.read rfl (fun L v_ w' h => RG.SM.skip2 (by decide) (by decide) h) (fun L a w' hI hd => ex_load_row rfl (hI.fix 2 (Reg.notD rfl) (by decide)) hI.world.inv.range HD.out.1 HD.out.2.1 (by rw [HLT.out]; exact size79))
    | 1, _ => injection ho with ho; subst ho; exact RG.Does.read rfl (fun L v_ w' h => RG.SM.skip2 (by decide) (by decide) h) (fun L a w' hI hd => ex_load_row rfl (hI.fix 8 (Reg.notD rfl) (by decide)) (hI.world.inv.var _ rfl).1 HD.out.2.2.1 HD.out.2.2.2 size46)
    | 2, _ => injection ho with ho; subst ho; exact RG.Does.read rfl (fun L v_ w' h => RG.SM.skip2 (by decide) (by decide) h) (fun L a w' hI hd => ex_fieldo rfl (hI.fix 2 (Reg.notD rfl) (by decide)) (by simp [go_sem]))
    | 3, _ => injection ho with ho; subst ho; exact RG.Does.read rfl (fun L v_ w' h => RG.SM.skip2 (by decide) (by decide) h) (fun L a w' hI hd => ex_load_row (cs := [.int .i64 sh.a, .int .i64 sh.b, .int .i64 sh.c, .int .i64 sh.d, .int .i64 sh.e, .int .i64 sh.f]) rfl (hI.pure 2 _ _ rfl (hd ⟨2, .data⟩ (by simp) rfl)) (hI.world.inv.part KS.out) HDS.out.1 HDS.out.2 sizeSh)
    | 4, _ => injection ho with ho; subst ho; exact RG.Does.read rfl (fun L v_ w' h => RG.SM.skip2 (by decide) (by decide) h) (fun L a w' hI hd => ex_fieldo rfl (hI.fix 8 (Reg.notD rfl) (by decide)) (by simp [go_sem]))
    | 5, _ => injection ho with ho; subst ho; exact RG.Does.read rfl (fun L v_ w' h => RG.SM.skip2 (by decide) (by decide) h) (fun L a w' hI hd => ex_load rfl (hI.pure 4 _ _ rfl (hd ⟨4, .data⟩ (by simp) rfl)) (agg_u64 w') (hI.world.inv.scell rfl (i := 3) rfl))
    | 6, _ => injection ho with ho; subst ho; exact RG.Does.ask rfl (fun L v_ w' h => RG.SM.skip2 (by decide) (by decide) h) (fun L a w' hI hd => call1 rfl (hI.pure 5 _ _ rfl (hd ⟨5, .data⟩ (by simp) rfl)) rfl (by simp [go_sem])) (fun w2 => IY.out w2)
    | 7, _ => injection ho with ho; subst ho; exact RG.Does.call rfl (fun L a w' hI hd => call2 rfl (hI.pure 3 _ _ rfl (hd ⟨3, .data⟩ (by simp) rfl)) (hI.pure 6 _ _ rfl (hd ⟨6, .data⟩ (by simp) rfl)) rfl (by simp [go_sem])) (fun L v_ w2 hI hL => (HEAD.out (idx x.had) w2).mono (by rintro e w3 ⟨rfl, hb_⟩; exact ⟨rfl, RG.SM.skip2 (by decide) (by decide) (RG.SM.quiet (hI.inv.below hb_) (by have := hI.inv.sz; omega) (by have := hI.inv.sz; omega) hI hb_)⟩))
    | 8, _ => injection ho with ho; subst ho; exact RG.Does.read rfl (fun L v_ w' h => RG.SM.skip2 (by decide) (by decide) h) (fun L a w' hI hd => ex_neg rfl (hI.pure 7 _ _ rfl (hd ⟨7, .data⟩ (by simp) rfl)) rfl HEN.out)
    | 9, _ => injection ho with ho; subst ho; exact RG.Does.put (ls := lt) rfl rfl rfl (by rw [HLT.out]; exact size79) HTK.out.2 (fun L a w' hI hL hd => ⟨(hI.pure 0 _ _ rfl (hd ⟨0, .data⟩ (by simp) rfl)), by obtain ⟨e2, e3⟩ := RG.SM.putC (fun c_ w1_ w2_ ht_ h_ => h_.touch ht_) (by omega) hI.world; exact ⟨w.heap.size + 1, 0, hI.fix 4 (Reg.notD rfl) (by decide), e2, by show RG.SM (fun _ w' => RD w g n cap lt f' (some q) x w') (w.heap.size + 1) (w.heap.size + 2) lt x true (upd L 9 true 9) (upd L 9 true 10) _; rw [upd_same, upd_other _ _ (show 10 ≠ 9 by decide)]; exact e3⟩⟩)
    | 10, _ => injection ho with ho; subst ho; exact RG.Does.put (ls := x.cells) rfl rfl rfl size46 (by simp [Stp.cells, Value.oneCell']) (fun L a w' hI hL hd => ⟨(hI.pure 1 _ _ rfl (hd ⟨1, .data⟩ (by simp) rfl)), by obtain ⟨e2, e3⟩ := RG.SM.putE (fun c_ w1_ w2_ ht_ h_ => h_.touch ht_) (by omega) hI.world rfl; exact ⟨w.heap.size + 2, 0, hI.fix 5 (Reg.notD rfl) (by decide), e2, by show RG.SM (fun _ w' => RD w g n cap lt f' (some q) x w') (w.heap.size + 1) (w.heap.size + 2) lt x true (upd L 10 true 9) (upd L 10 true 10) _; rw [upd_same, upd_other _ _ (show 9 ≠ 10 by decide)]; exact e3⟩⟩)
    | 11, _ => injection ho with ho; subst ho; exact RG.Does.read rfl (fun L v_ w' h => RG.SM.skip2 (by decide) (by decide) h) (fun L a w' hI hd => ex_assign rfl (hI.pure 8 _ _ rfl (hd ⟨8, .data⟩ (by simp) rfl)))
  case fin =>
    intro L a' w' hI hall
    rename_i K2 hK2
    refine hK2 _ _ ?_
    have hw := hI.world
    simp only [hall 9 (by decide), hall 10 (by decide)] at hw
    have rC := hw.stoC rfl
    have rD := hw.stoE rfl
    have pC : a'.eval (.tmp 4) = .pointer (some ⟨w.heap.size + 1, 0, none⟩) := hI.fix 4 (Reg.notD rfl) (by decide)
    have pD : a'.eval (.tmp 5) = .pointer (some ⟨w.heap.size + 2, 0, none⟩) := hI.fix 5 (Reg.notD rfl) (by decide)
    have pe : a'.eval (.tmp 6) = .bool en := hI.pure 11 6 _ rfl (hall 11 (by decide))
    have hdf : a'.defers = [] := hI.df
    have hT := run_loadVar_mid (P := Tryz.prog) w' (w.heap.size + 1) 0 _ lt dT rC HD.out.1 HD.out.2.1 (by rw [HLT.out]; exact size79)
    have hS := run_loadVar_mid (P := Tryz.prog) w' (w.heap.size + 2) 0 _ _ dS rD HD.out.2.2.1 HD.out.2.2.2 size46
    have hres := results_cct (Q := Tryz.prog) (fn := Tryz.f63) (tmps := a'.tmps) (t := 4) (t' := 5) (t'' := 6) (W := w') (by rfl) pC hT pD hS
    rw [show a'.tmps.getD 6 undef = .bool en from pe] at hres
    go_wp2
    exact bodyPost_ret (v := .tuple #[.agg lt.toArray, x.val, .bool en]) hres hdf ⟨rfl, hw.inv.row, hw.inv.gro⟩
set_option maxHeartbeats 8000000 in
theorem rp1_any {w : World} {g n cap : Nat} {f f' : Nat → Int} {x : Stp} {sh : Shp} {hand a b c hh r0 r1 : Int} (hr : IsRow w g n cap f) (h5 : Shape.R5 sh.a sh.b sh.c sh.d sh.e) (hb0 : 0 ≤ r0 ∧ r0 ≤ 18446744073709551615) 
    (hx : stepOf n f ⟨hand, 1, linkAt sh (idx r0), 0, 0, true⟩ = x) (hf' : wordsOf n f ⟨hand, 1, linkAt sh (idx r0), 0, 0, true⟩ = f') :
    Calls Tryz.prog 63 #[.agg (tk sh hand ⟨2, a, b, c, hh⟩ 1 ⟨r0, r1, 0, 0, 0, 0, 0, 0⟩ ⟨false, 0⟩).toArray, .slice (some ⟨g, 0, none⟩) n cap] w fun e w' =>
      e = .returned (.tuple #[.agg (tk sh hand ⟨2, a, b, c, hh⟩ 2 ⟨r0, x.had, 0, 0, 0, 0, 0, 0⟩ ⟨false, 0⟩).toArray, x.val, .bool false]) ∧ IsRow w' g n cap f' ∧ w.grownBy w' (some g) := by
  have DO := hide (fun (w' : World) (hr' : IsRow w' g n cap f) => ref_do (s := ⟨hand, 1, linkAt sh (idx r0), 0, 0, true⟩) hr' ⟨Int.le_refl 0, by show (0 : Int) ≤ 18446744073709551615; decide⟩ ⟨by show (1 : Int) ≤ 1; decide, by show (1 : Int) ≤ 5; decide⟩)
  rw [hx, hf'] at DO
  have IX := hide (fun w1 : World => index_ref r0 hb0.1 (by omega) w1)
  have HEAD := hide (fun (i : Int) (w1 : World) => rhead_any h5 i w1)
  have LINK := hide (fun (i : Int) (w1 : World) => rlink_any h5 i w1)
  have lg := hr.lt
  obtain ⟨l0, hl0⟩ : ∃ l, tk sh hand ⟨2, a, b, c, hh⟩ 1 ⟨r0, r1, 0, 0, 0, 0, 0, 0⟩ ⟨false, 0⟩ = l := ⟨_, rfl⟩
  have hl0' : l0.length = 28 := by rw [← hl0]; rfl
  obtain ⟨lt, hlt⟩ : ∃ l, tk sh hand ⟨2, a, b, c, hh⟩ 2 ⟨r0, x.had, 0, 0, 0, 0, 0, 0⟩ ⟨false, 0⟩ = l := ⟨_, rfl⟩
  have HTK := hide (show IsTk lt from by rw [← hlt]; exact tk_is _ _ _ _ _ _)
  have HLT := hide (show lt.length = 28 from by rw [← hlt]; rfl)
  rw [hl0, hlt]
  obtain ⟨W3, hW3⟩ : ∃ W3, ((w.alloc (.cells l0.toArray 85)).alloc (.cells tk0.toArray 85)).alloc (.cells [Value.int .i64 0, .int .i64 0, .int .i64 0, .int .u64 0, .int .u64 0, .bool false].toArray 71) = W3 := ⟨_, rfl⟩
  have RT3 := hide (show RT w g n cap l0 f W3 from by rw [← hW3]; exact RT.start hr hl0')
  have GS := hide (show ∀ (j : Nat) (v : Value), ([.int .i64 sh.a, .int .i64 sh.b, .int .i64 sh.c, .int .i64 sh.d, .int .i64 sh.e, .int .i64 sh.f] : List Value)[j]? = some v → l0[j]? = some v from by
    intro j v hj
    have hj6 : j < 6 := (List.getElem?_eq_some_iff.1 hj).1
    rw [← hl0]
    match j, hj6 with
    | 0, _ | 1, _ | 2, _ | 3, _ | 4, _ | 5, _ => exact hj)
  have G6 := hide (show l0[6]? = some (.int .i64 hand) from by rw [← hl0]; rfl)
  have c6 := RT3.out.cell G6.out
  have G12 := hide (show l0[12]? = some (.int .i64 1) from by rw [← hl0]; rfl)
  have c12 := RT3.out.cell G12.out
  have G13 := hide (show l0[13]? = some (.int .u64 r0) from by rw [← hl0]; rfl)
  have c13 := RT3.out.cell G13.out
  have G14 := hide (show l0[14]? = some (.int .u64 r1) from by rw [← hl0]; rfl)
  have c14 := RT3.out.cell G14.out
  obtain ⟨dT, hdT1, hdT2⟩ := row79
  obtain ⟨dS, hdS1, hdS2⟩ := row46
  obtain ⟨dH, hdH1, hdH2⟩ := rowSh
  have HD := hide (And.intro hdT1 (And.intro hdT2 (And.intro hdS1 hdS2)))
  have HDS := hide (And.intro hdH1 hdH2)
  have sz3 := RT3.out.size
  have HL0 := hide hl0
  have HLTE := hide hlt
  clear hx hf' hr h5 hl0 hl0' hlt hdT1 hdT2 hdS1 hdS2 hdH1 hdH2 hb0
  simp only [tk0] at hW3
  go_enter Tryz.func63, Tryz.ntmps63
  go_upto_region 9 with (go_at_call 64; refine (IX.out _).mono ?_; rintro e wq ⟨rfl, hwq⟩; obtain rfl := hwq.symm)
  clear hW3
  refine RG.region (ks := [(0, 40), (1, 41), (2, 42), (3, 43), (4, 44), (5, 45), (6, 46), (7, 47)]) (vals := fun i => match i with
      | 0 => .slice (some ⟨g, 0, none⟩) n cap
      | 1 => .pointer (some ⟨w.heap.size, 6, none⟩)
      | 2 => .int .i64 hand
      | 3 => .pointer (some ⟨w.heap.size, 0, none⟩)
      | 4 => .agg #[.int .i64 sh.a, .int .i64 sh.b, .int .i64 sh.c, .int .i64 sh.d, .int .i64 sh.e, .int .i64 sh.f]
      | 5 => .int .i64 (idx r0)
      | 6 => .int .i64 (linkAt sh (idx r0))
      | 7 => .agg #[.int .i64 x.hand, .int .i64 x.act, .int .i64 x.at_, .int .u64 x.had, .int .u64 x.put, .bool x.ok]
      | _ => undef) (x := 9) (WI := fun L v_ w' => RG.SG (fun c_ w' => RT w g n cap l0 (cond c_ f' f) w') x W3 (L 7) (L 8) (L 9) v_ w') (by kernel_rfl) ?gg ?bk rfl ?dd ?xx (RG.SG.start (RT3.out.belowB sz3 (⟨rfl, rfl, rfl, Nat.le_refl _, fun _ _ => rfl⟩ : Below W3.heap.size W3 { W3 with drawn := W3.drawn + 1 }) (Nat.le_refl _))) ?does ?fin
  case gg =>
    intro i o ho
    have hi : i < 10 := by have := (Array.getElem?_eq_some_iff.1 ho).1; simpa using this
    match i, hi with
    | 0, _ | 1, _ | 2, _ | 3, _ | 4, _ | 5, _ | 6, _ | 7, _ | 8, _ | 9, _ => injection ho with ho; subst ho; rfl
  case bk =>
    intro i o ho
    have hi : i < 10 := by have := (Array.getElem?_eq_some_iff.1 ho).1; simpa using this
    match i, hi with
    | 0, _ | 1, _ | 2, _ | 3, _ | 4, _ | 5, _ | 6, _ | 7, _ | 8, _ | 9, _ => injection ho with ho; subst ho; simp [Region.binds]
  case dd =>
    intro k hk
    have hk' : k < 82 := by
      simp [RetN.D] at hk
      omega
    simpa using hk'
  case xx => simp
  case does =>
    intro i o ho
    have hi : i < 10 := by have := (Array.getElem?_eq_some_iff.1 ho).1; simpa using this
    match i, hi with
    | 0, _ => injection ho with ho; subst ho; exact RG.Does.read rfl (fun L v_ w' h => RG.SG.skip (by decide) (by decide) (by decide) h) (fun L a w' hI hd => ex_move rfl (hI.fix 1 (Reg.notD rfl) (by decide)))
    | 1, _ => injection ho with ho; subst ho; exact RG.Does.read rfl (fun L v_ w' h => RG.SG.skip (by decide) (by decide) (by decide) h) (fun L a w' hI hd => ex_fieldo rfl (hI.fix 2 (Reg.notD rfl) (by decide)) (by simp [go_sem]))
    | 2, _ => injection ho with ho; subst ho; exact RG.Does.read rfl (fun L v_ w' h => RG.SG.skip (by decide) (by decide) (by decide) h) (fun L a w' hI hd => ex_load rfl (hI.pure 1 _ _ rfl (hd ⟨1, .data⟩ (by simp) rfl)) (agg_i w') (hI.world.inv.cell G6.out))
    | 3, _ => injection ho with ho; subst ho; exact RG.Does.read rfl (fun L v_ w' h => RG.SG.skip (by decide) (by decide) (by decide) h) (fun L a w' hI hd => ex_fieldo rfl (hI.fix 2 (Reg.notD rfl) (by decide)) (by simp [go_sem]))
    | 4, _ => injection ho with ho; subst ho; exact RG.Does.read rfl (fun L v_ w' h => RG.SG.skip (by decide) (by decide) (by decide) h) (fun L a w' hI hd => ex_load_row (cs := [.int .i64 sh.a, .int .i64 sh.b, .int .i64 sh.c, .int .i64 sh.d, .int .i64 sh.e, .int .i64 sh.f]) rfl (hI.pure 3 _ _ rfl (hd ⟨3, .data⟩ (by simp) rfl)) (hI.world.inv.part GS.out) HDS.out.1 HDS.out.2 sizeSh)
    | 5, _ => injection ho with ho; subst ho; exact RG.Does.read rfl (fun L v_ w' h => RG.SG.skip (by decide) (by decide) (by decide) h) (fun L a w' hI hd => ex_move rfl (hI.fix 7 (Reg.notD rfl) (by decide)))
    | 6, _ => injection ho with ho; subst ho; exact RG.Does.call rfl (fun L a w' hI hd => call2 rfl (hI.pure 4 _ _ rfl (hd ⟨4, .data⟩ (by simp) rfl)) (hI.pure 5 _ _ rfl (hd ⟨5, .data⟩ (by simp) rfl)) rfl (by simp [go_sem])) (fun L v_ w2 hI hL => (LINK.out (idx r0) w2).mono (by rintro e w3 ⟨rfl, hb_⟩; exact ⟨rfl, RG.SG.skip (by decide) (by decide) (by decide) (RG.SG.quiet (fun c_ w1_ w2_ hb_ hs_ h_ => h_.belowB sz3 hb_ hs_) hI hb_)⟩))
    | 7, _ => injection ho with ho; subst ho; exact RG.Does.call rfl (fun L a w' hI hd => call6 rfl (hI.pure 0 _ _ rfl (hd ⟨0, .data⟩ (by simp) rfl)) (hI.pure 2 _ _ rfl (hd ⟨2, .data⟩ (by simp) rfl)) rfl (hI.pure 6 _ _ rfl (hd ⟨6, .data⟩ (by simp) rfl)) rfl rfl rfl (by simp [go_sem])) (RG.SG.calls (g := g) (fun w2 hI => (DO.out w2 hI.row).mono (by rintro e w3 ⟨rfl, a1, a2⟩; exact ⟨rfl, hI.act a1 a2, a2⟩)) (by omega) (by decide) (by decide))
    | 8, _ => injection ho with ho; subst ho; exact RG.Does.make (u := fun w' => .pointer (some ⟨w'.heap.size, 0, none⟩)) rfl rfl (fun ev w' => alloc46 rfl) (fun L v_ w' h hL => by have := RG.SG.make (fun c_ w1_ w2_ hb_ hs_ h_ => h_.belowB sz3 hb_ hs_) h hL; rw [← upd_same L 8 true] at this; simpa only [upd_other _ _ (show 7 ≠ 8 by decide), upd_other _ _ (show 9 ≠ 8 by decide)] using this)
    | 9, _ => injection ho with ho; subst ho; exact RG.Does.put (ls := x.cells) rfl rfl rfl size46 (by simp [Stp.cells, Value.oneCell']) (fun L a w' hI hL hd => ⟨(hI.pure 7 _ _ rfl (hd ⟨7, .data⟩ (by simp) rfl)), by obtain ⟨q, e1, e2, e3⟩ := RG.SG.put (fun c_ w1_ w2_ hb_ hs_ h_ => h_.belowB sz3 hb_ hs_) hI.world (hd ⟨7, .data⟩ (by simp) rfl) (hd ⟨8, .data⟩ (by simp) rfl) hL; exact ⟨q, 0, e1, e2, by rw [← upd_same L 9 true] at e3; simpa only [upd_other _ _ (show 7 ≠ 9 by decide), upd_other _ _ (show 8 ≠ 9 by decide)] using e3⟩⟩)
  case fin =>
    intro L a' w1 hI hall
    have hw := hI.world
    simp only [hall 7 (by decide), hall 8 (by decide), hall 9 (by decide)] at hw
    obtain ⟨q, hq, hq1, hq2, _, hr⟩ := hw.own rfl
    replace hr := hr rfl
    have ea := act_all a' 82 (by rw [hI.sz]; rfl) hI.df
    simp only [List.range, List.range.loop, List.map] at ea
    rw [hI.fix 0 (Reg.notD rfl) (by decide), hI.fix 1 (Reg.notD rfl) (by decide), hI.fix 2 (Reg.notD rfl) (by decide), hI.fix 3 (Reg.notD rfl) (by decide), hI.fix 4 (Reg.notD rfl) (by decide), hI.fix 5 (Reg.notD rfl) (by decide), hI.fix 6 (Reg.notD rfl) (by decide), hI.fix 7 (Reg.notD rfl) (by decide), hI.fix 8 (Reg.notD rfl) (by decide), hI.fix 10 (Reg.notD rfl) (by decide), hI.fix 11 (Reg.notD rfl) (by decide), hI.fix 12 (Reg.notD rfl) (by decide), hI.fix 13 (Reg.notD rfl) (by decide), hI.fix 14 (Reg.notD rfl) (by decide), hI.fix 15 (Reg.notD rfl) (by decide), hI.fix 16 (Reg.notD rfl) (by decide), hI.fix 17 (Reg.notD rfl) (by decide), hI.fix 18 (Reg.notD rfl) (by decide), hI.fix 19 (Reg.notD rfl) (by decide), hI.fix 20 (Reg.notD rfl) (by decide), hI.fix 21 (Reg.notD rfl) (by decide), hI.fix 22 (Reg.notD rfl) (by decide), hI.fix 23 (Reg.notD rfl) (by decide), hI.fix 24 (Reg.notD rfl) (by decide), hI.fix 25 (Reg.notD rfl) (by decide), hI.fix 26 (Reg.notD rfl) (by decide), hI.fix 27 (Reg.notD rfl) (by decide), hI.fix 28 (Reg.notD rfl) (by decide), hI.fix 29 (Reg.notD rfl) (by decide), hI.fix 30 (Reg.notD rfl) (by decide), hI.fix 31 (Reg.notD rfl) (by decide), hI.fix 32 (Reg.notD rfl) (by decide), hI.fix 33 (Reg.notD rfl) (by decide), hI.fix 34 (Reg.notD rfl) (by decide), hI.fix 35 (Reg.notD rfl) (by decide), hI.fix 36 (Reg.notD rfl) (by decide), hI.fix 37 (Reg.notD rfl) (by decide), hI.fix 38 (Reg.notD rfl) (by decide), hI.fix 39 (Reg.notD rfl) (by decide), hI.fix 48 (Reg.notD rfl) (by decide), hI.fix 49 (Reg.notD rfl) (by decide), hI.fix 50 (Reg.notD rfl) (by decide), hI.fix 51 (Reg.notD rfl) (by decide), hI.fix 52 (Reg.notD rfl) (by decide), hI.fix 53 (Reg.notD rfl) (by decide), hI.fix 54 (Reg.notD rfl) (by decide), hI.fix 55 (Reg.notD rfl) (by decide), hI.fix 56 (Reg.notD rfl) (by decide), hI.fix 57 (Reg.notD rfl) (by decide), hI.fix 58 (Reg.notD rfl) (by decide), hI.fix 59 (Reg.notD rfl) (by decide), hI.fix 60 (Reg.notD rfl) (by decide), hI.fix 61 (Reg.notD rfl) (by decide), hI.fix 62 (Reg.notD rfl) (by decide), hI.fix 63 (Reg.notD rfl) (by decide), hI.fix 64 (Reg.notD rfl) (by decide), hI.fix 65 (Reg.notD rfl) (by decide), hI.fix 66 (Reg.notD rfl) (by decide), hI.fix 67 (Reg.notD rfl) (by decide), hI.fix 68 (Reg.notD rfl) (by decide), hI.fix 69 (Reg.notD rfl) (by decide), hI.fix 70 (Reg.notD rfl) (by decide), hI.fix 71 (Reg.notD rfl) (by decide), hI.fix 72 (Reg.notD rfl) (by decide), hI.fix 73 (Reg.notD rfl) (by decide), hI.fix 74 (Reg.notD rfl) (by decide), hI.fix 75 (Reg.notD rfl) (by decide), hI.fix 76 (Reg.notD rfl) (by decide), hI.fix 77 (Reg.notD rfl) (by decide), hI.fix 78 (Reg.notD rfl) (by decide), hI.fix 79 (Reg.notD rfl) (by decide), hI.fix 80 (Reg.notD rfl) (by decide), hI.fix 81 (Reg.notD rfl) (by decide), hq] at ea
    clear hI hall
    generalize a'.eval (.tmp 40) = u40 at ea
    generalize a'.eval (.tmp 41) = u41 at ea
    generalize a'.eval (.tmp 42) = u42 at ea
    generalize a'.eval (.tmp 43) = u43 at ea
    generalize a'.eval (.tmp 44) = u44 at ea
    generalize a'.eval (.tmp 45) = u45 at ea
    generalize a'.eval (.tmp 46) = u46 at ea
    generalize a'.eval (.tmp 47) = u47 at ea
    simp only [show ∀ (ts : Array Value) (ds) (i : Nat), (Act.mk ts ds).eval (.tmp i) = ts.getD i undef from fun _ _ _ => rfl] at ea
    simp at ea
    subst ea
    have RT1 := hide (show RT w g n cap l0 f' w1 from hw.inv)
    have RQ := hide hr
    have szq := hw.siz
    have lq3 : w.heap.size + 3 ≤ q := by omega
    clear hw hr hq
    have s0 : w1.cell? ⟨q, 0, none⟩ = some (.int .i64 x.hand) := by have := RQ.out 0 _ rfl; simpa using this
    have s1 : w1.cell? ⟨q, 1, none⟩ = some (.int .i64 x.act) := by have := RQ.out 1 _ rfl; simpa using this
    have s2 : w1.cell? ⟨q, 2, none⟩ = some (.int .i64 x.at_) := by have := RQ.out 2 _ rfl; simpa using this
    have s3 : w1.cell? ⟨q, 3, none⟩ = some (.int .u64 x.had) := by have := RQ.out 3 _ rfl; simpa using this
    have s4 : w1.cell? ⟨q, 4, none⟩ = some (.int .u64 x.put) := by have := RQ.out 4 _ rfl; simpa using this
    have s5 : w1.cell? ⟨q, 5, none⟩ = some (.bool x.ok) := by have := RQ.out 5 _ rfl; simpa using this
    obtain ⟨V, hV⟩ : ∃ V, ((w1.setCell ⟨w.heap.size, 14, none⟩ (.int .u64 x.had)).setCell ⟨w.heap.size, 12, none⟩ (.int .i64 2)) = V := ⟨_, rfl⟩
    have hset : ((l0.set 14 (.int .u64 x.had)).set 12 (.int .i64 2)) = lt := by rw [← HL0.out, ← HLTE.out]; rfl
    have RTV := hide (show RT w g n cap lt f' V from by
      rw [← hV, ← hset]
      exact ((RT1.out.set 14 (by omega) (.int .u64 x.had)).set 12 (by omega) (.int .i64 2)))
    have tV : Touch w1 V (fun k => k = w.heap.size) := by
      rw [← hV]
      exact (Touch.setCell (S := fun k => k = w.heap.size) (Touch.setCell (S := fun k => k = w.heap.size) (Touch.refl w1 _) ⟨w.heap.size, 14, none⟩ (.inl rfl) _) ⟨w.heap.size, 12, none⟩ (.inl rfl) _)
    have SV := hide (rangeAt_block RQ.out (tV.block q hq2 (by omega)))
    have lqV : q < V.heap.size := Nat.lt_of_lt_of_le hq2 tV.size
    clear tV
    have d12 := RT1.out.tk.cell (i := 12) (by omega)
    have df12 := RT1.out.frozen 12
    have d14 := RT1.out.tk.cell (i := 14) (by omega)
    have df14 := RT1.out.frozen 14
    have lp1 : w.heap.size < w1.heap.size := by have := RT1.out.size; omega
    go_upto_region 12 with (fail)
    clear hV hset s0 s1 s2 s3 s4 s5
    refine RG.region (ks := [(0, 53), (1, 54), (4, 6)]) (vals := fun i => match i with
          | 0 => .agg lt.toArray
          | 1 => .agg #[.int .i64 x.hand, .int .i64 x.act, .int .i64 x.at_, .int .u64 x.had, .int .u64 x.put, .bool x.ok]
          | 4 => .bool false
          | _ => undef) (x := 3) (WI := fun L v_ w' => RG.SM (fun _ w' => RD w g n cap lt f' (some q) x w') (w.heap.size + 1) (w.heap.size + 2) lt x true (L 2) (L 3) w') (by kernel_rfl) ?gg ?bk rfl ?dd ?xx (RG.SM.begin (c := true) (RD.drew (RD.of RTV.out (fun k e => by cases e; exact ⟨SV.out, lq3, lqV⟩))) (by rw [HLT.out]; exact rowIs.there RTV.out.rt.drew (by omega)) (rowIs.there RTV.out.rs.drew (by simp [Stp.cells]))) ?does ?fin
    case gg =>
      intro i o ho
      have hi : i < 5 := by have := (Array.getElem?_eq_some_iff.1 ho).1; simpa using this
      match i, hi with
      | 0, _ | 1, _ | 2, _ | 3, _ | 4, _ => injection ho with ho; subst ho; rfl
    case bk =>
      intro i o ho
      have hi : i < 5 := by have := (Array.getElem?_eq_some_iff.1 ho).1; simpa using this
      match i, hi with
      | 0, _ | 1, _ | 2, _ | 3, _ | 4, _ => injection ho with ho; subst ho; simp [Region.binds]
    case dd =>
      intro k hk
      have hk' : k < 82 := by
        simp [RetN.D] at hk
        omega
      simpa using hk'
    case xx => simp
    case does =>
      intro i o ho
      have hi : i < 5 := by have := (Array.getElem?_eq_some_iff.1 ho).1; simpa using this
      match i, hi with
      | 0, _ => injection ho with ho; subst ho; exact RG.Does.read rfl (fun L v_ w' h => RG.SM.skip2 (by decide) (by decide) h) (fun L a w' hI hd => ex_load_row rfl (hI.fix 2 (Reg.notD rfl) (by decide)) hI.world.inv.range HD.out.1 HD.out.2.1 (by rw [HLT.out]; exact size79))
      | 1, _ => injection ho with ho; subst ho; exact RG.Does.read rfl (fun L v_ w' h => RG.SM.skip2 (by decide) (by decide) h) (fun L a w' hI hd => ex_load_row rfl (hI.fix 9 (Reg.notD rfl) (by decide)) (hI.world.inv.var _ rfl).1 HD.out.2.2.1 HD.out.2.2.2 size46)
      | 2, _ => injection ho with ho; subst ho; exact RG.Does.put (ls := lt) rfl rfl rfl (by rw [HLT.out]; exact size79) HTK.out.2 (fun L a w' hI hL hd => ⟨(hI.pure 0 _ _ rfl (hd ⟨0, .data⟩ (by simp) rfl)), by obtain ⟨e2, e3⟩ := RG.SM.putC (fun c_ w1_ w2_ ht_ h_ => h_.touch ht_) (by omega) hI.world; exact ⟨w.heap.size + 1, 0, hI.fix 4 (Reg.notD rfl) (by decide), e2, by show RG.SM (fun _ w' => RD w g n cap lt f' (some q) x w') (w.heap.size + 1) (w.heap.size + 2) lt x true (upd L 2 true 2) (upd L 2 true 3) _; rw [upd_same, upd_other _ _ (show 3 ≠ 2 by decide)]; exact e3⟩⟩)
      | 3, _ => injection ho with ho; subst ho; exact RG.Does.put (ls := x.cells) rfl rfl rfl size46 (by simp [Stp.cells, Value.oneCell']) (fun L a w' hI hL hd => ⟨(hI.pure 1 _ _ rfl (hd ⟨1, .data⟩ (by simp) rfl)), by obtain ⟨e2, e3⟩ := RG.SM.putE (fun c_ w1_ w2_ ht_ h_ => h_.touch ht_) (by omega) hI.world rfl; exact ⟨w.heap.size + 2, 0, hI.fix 5 (Reg.notD rfl) (by decide), e2, by show RG.SM (fun _ w' => RD w g n cap lt f' (some q) x w') (w.heap.size + 1) (w.heap.size + 2) lt x true (upd L 3 true 2) (upd L 3 true 3) _; rw [upd_same, upd_other _ _ (show 2 ≠ 3 by decide)]; exact e3⟩⟩)
      | 4, _ => injection ho with ho; subst ho; exact RG.Does.read rfl (fun L v_ w' h => RG.SM.skip2 (by decide) (by decide) h) (fun L a w' hI hd => ex_assign rfl rfl)
    case fin =>
      intro L a' w' hI hall
      rename_i K2 hK2
      refine hK2 _ _ ?_
      have hw := hI.world
      simp only [hall 2 (by decide), hall 3 (by decide)] at hw
      have rC := hw.stoC rfl
      have rD := hw.stoE rfl
      have pC : a'.eval (.tmp 4) = .pointer (some ⟨w.heap.size + 1, 0, none⟩) := hI.fix 4 (Reg.notD rfl) (by decide)
      have pD : a'.eval (.tmp 5) = .pointer (some ⟨w.heap.size + 2, 0, none⟩) := hI.fix 5 (Reg.notD rfl) (by decide)
      have pe : a'.eval (.tmp 6) = .bool false := hI.pure 4 6 _ rfl (hall 4 (by decide))
      have hdf : a'.defers = [] := hI.df
      have hT := run_loadVar_mid (P := Tryz.prog) w' (w.heap.size + 1) 0 _ lt dT rC HD.out.1 HD.out.2.1 (by rw [HLT.out]; exact size79)
      have hS := run_loadVar_mid (P := Tryz.prog) w' (w.heap.size + 2) 0 _ _ dS rD HD.out.2.2.1 HD.out.2.2.2 size46
      have hres := results_cct (Q := Tryz.prog) (fn := Tryz.f63) (tmps := a'.tmps) (t := 4) (t' := 5) (t'' := 6) (W := w') (by rfl) pC hT pD hS
      rw [show a'.tmps.getD 6 undef = .bool false from pe] at hres
      go_wp2
      exact bodyPost_ret (v := .tuple #[.agg lt.toArray, x.val, .bool false]) hres hdf ⟨rfl, hw.inv.row, hw.inv.gro⟩
end Shd
end Go.Proofs.YtnodkeoikamonaaGreat
