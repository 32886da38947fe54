/-
  Lemmas: ShadeRA.
-/
import Derived.Test.YtnodkeoikamonaaGreatTq20
import Derived.Test.YtnodkeoikamonaaGreatTq35
import Derived.Test.YtnodkeoikamonaaGreatTq27
/-
  Shade's reference: Mark: the head turned.
-/
namespace Go.Proofs.YtnodkeoikamonaaGreat
open Go.RowKit
set_option linter.unusedVariables false
set_option linter.unusedSimpArgs false
set_option maxRecDepth 20000
namespace Shd
theorem ex_not {ev : Operand → Value} {o : Oper} {w : World} {x : Operand} {v en : Bool} (ho : o.op = .unOp .not 4 x) (hx : ev x = .bool v) (he : (!v) = en) : (execOp ev o).run Tryz.prog w = .ok (.value (.bool en)) w := by
  simp [execOp, ho, hx, go_sem, he]
theorem ex_neg {ev : Operand → Value} {o : Oper} {w : World} {x y : Operand} {v : Int} {en : Bool} (ho : o.op = .binOp .lss 3 x y 3) (hx : ev x = .int .i64 v) (hy : ev y = .int .i64 0) (he : decide (v < 0) = en) : (execOp ev o).run Tryz.prog w = .ok (.value (.bool en)) w := by
  simp [execOp, ho, hx, hy, go_sem, he]
set_option maxHeartbeats 8000000 in
theorem rm1_yes {w : World} {g n cap : Nat} {f f' : Nat → Int} {x : Stp} {sh : Shp} {hand a b c hh r0 r1 : Int} (hr : IsRow w g n cap f) (h5 : Shape.R5 sh.a sh.b sh.c sh.d sh.e) (hb0 : 0 ≤ hh ∧ hh ≤ 18446744073709551615) (h0 : 0 ≤ r0 ∧ r0 ≤ 18446744073709551615) (hok : x.ok = true)
    (hx : stepOf n f ⟨hand, 5, headAt sh (idx hh), r0, xr r0, true⟩ = x) (hf' : wordsOf n f ⟨hand, 5, headAt sh (idx hh), r0, xr r0, true⟩ = f') :
    Calls Tryz.prog 35 #[.agg (tk sh hand ⟨1, a, b, c, hh⟩ 1 ⟨r0, r1, 0, 0, 0, 0, 0, 0⟩ ⟨false, 0⟩).toArray, .slice (some ⟨g, 0, none⟩) n cap] w fun e w' =>
      e = .returned (.tuple #[.agg (tk sh hand ⟨1, a, b, c, hh⟩ 2 ⟨r0, r1, 0, 0, 0, 0, 0, 0⟩ ⟨false, 0⟩).toArray, x.val, .bool false]) ∧ IsRow w' g n cap f' ∧ w.grownBy w' (some g) := by
  have DO := hide (fun (w' : World) (hr' : IsRow w' g n cap f) => ref_do (s := ⟨hand, 5, headAt sh (idx hh), r0, xr r0, true⟩) hr' (xr_wf h0) ⟨by show (1 : Int) ≤ 5; decide, by show (5 : Int) ≤ 5; decide⟩)
  rw [hx, hf'] at DO
  have IX := hide (fun w1 : World => index_ref hh hb0.1 (by omega) w1)
  have HEAD := hide (fun (i : Int) (w1 : World) => rhead_any h5 i w1)
  have LINK := hide (fun (i : Int) (w1 : World) => rlink_any h5 i w1)
  have HOK := hide hok
  have lg := hr.lt
  obtain ⟨l0, hl0⟩ : ∃ l, tk sh hand ⟨1, a, b, c, hh⟩ 1 ⟨r0, r1, 0, 0, 0, 0, 0, 0⟩ ⟨false, 0⟩ = l := ⟨_, rfl⟩
  have hl0' : l0.length = 28 := by rw [← hl0]; rfl
  obtain ⟨lt, hlt⟩ : ∃ l, tk sh hand ⟨1, a, b, c, hh⟩ 2 ⟨r0, r1, 0, 0, 0, 0, 0, 0⟩ ⟨false, 0⟩ = l := ⟨_, rfl⟩
  have HTK := hide (show IsTk lt from by rw [← hlt]; exact tk_is _ _ _ _ _ _)
  have HLT := hide (show lt.length = 28 from by rw [← hlt]; rfl)
  rw [hl0, hlt]
  obtain ⟨W3, hW3⟩ : ∃ W3, ((w.alloc (.cells l0.toArray 85)).alloc (.cells tk0.toArray 85)).alloc (.cells [Value.int .i64 0, .int .i64 0, .int .i64 0, .int .u64 0, .int .u64 0, .bool false].toArray 71) = W3 := ⟨_, rfl⟩
  have RT3 := hide (show RT w g n cap l0 f W3 from by rw [← hW3]; exact RT.start hr hl0')
  have GS := hide (show ∀ (j : Nat) (v : Value), ([.int .i64 sh.a, .int .i64 sh.b, .int .i64 sh.c, .int .i64 sh.d, .int .i64 sh.e, .int .i64 sh.f] : List Value)[j]? = some v → l0[j]? = some v from by
    intro j v hj
    have hj6 : j < 6 := (List.getElem?_eq_some_iff.1 hj).1
    rw [← hl0]
    match j, hj6 with
    | 0, _ | 1, _ | 2, _ | 3, _ | 4, _ | 5, _ => exact hj)
  have G6 := hide (show l0[6]? = some (.int .i64 hand) from by rw [← hl0]; rfl)
  have c6 := RT3.out.cell G6.out
  have G7 := hide (show l0[7]? = some (.int .i64 1) from by rw [← hl0]; rfl)
  have c7 := RT3.out.cell G7.out
  have G11 := hide (show l0[11]? = some (.int .u64 hh) from by rw [← hl0]; rfl)
  have c11 := RT3.out.cell G11.out
  have G12 := hide (show l0[12]? = some (.int .i64 1) from by rw [← hl0]; rfl)
  have c12 := RT3.out.cell G12.out
  have G13 := hide (show l0[13]? = some (.int .u64 r0) from by rw [← hl0]; rfl)
  have c13 := RT3.out.cell G13.out
  obtain ⟨dT, hdT1, hdT2⟩ := row79
  obtain ⟨dS, hdS1, hdS2⟩ := row46
  obtain ⟨dH, hdH1, hdH2⟩ := rowSh
  have HD := hide (And.intro hdT1 (And.intro hdT2 (And.intro hdS1 hdS2)))
  have HDS := hide (And.intro hdH1 hdH2)
  have sz3 := RT3.out.size
  have HL0 := hide hl0
  have HLTE := hide hlt
  clear hx hf' hr h5 hl0 hl0' hlt hdT1 hdT2 hdS1 hdS2 hdH1 hdH2 hb0 h0 hok
  simp only [tk0] at hW3
  go_enter Tryz.func35, Tryz.ntmps35
  go_upto_region 11 with (go_at_call 64; refine (IX.out _).mono ?_; rintro e wq ⟨rfl, hwq⟩; obtain rfl := hwq.symm)
  clear hW3
  refine RG.region (ks := [(0, 58), (1, 59), (2, 60), (3, 61), (4, 62), (5, 63), (6, 64), (7, 65), (8, 66), (9, 67), (10, 68), (11, 69), (12, 70), (13, 71), (14, 72)]) (vals := fun i => match i with
      | 0 => .slice (some ⟨g, 0, none⟩) n cap
      | 1 => .pointer (some ⟨w.heap.size, 6, none⟩)
      | 2 => .int .i64 hand
      | 3 => .pointer (some ⟨w.heap.size, 0, none⟩)
      | 4 => .agg #[.int .i64 sh.a, .int .i64 sh.b, .int .i64 sh.c, .int .i64 sh.d, .int .i64 sh.e, .int .i64 sh.f]
      | 5 => .int .i64 (idx hh)
      | 6 => .int .i64 (headAt sh (idx hh))
      | 7 => .pointer (some ⟨w.heap.size, 13, none⟩)
      | 8 => .pointer (some ⟨w.heap.size, 13, none⟩)
      | 9 => .int .u64 r0
      | 10 => .pointer (some ⟨w.heap.size, 13, none⟩)
      | 11 => .pointer (some ⟨w.heap.size, 13, none⟩)
      | 12 => .int .u64 r0
      | 13 => .int .u64 (xr r0)
      | 14 => .agg #[.int .i64 x.hand, .int .i64 x.act, .int .i64 x.at_, .int .u64 x.had, .int .u64 x.put, .bool x.ok]
      | _ => undef) (x := 9) (WI := fun L v_ w' => RG.SG (fun c_ w' => RT w g n cap l0 (cond c_ f' f) w') x W3 (L 14) (L 15) (L 16) v_ w') (by kernel_rfl) ?gg ?bk rfl ?dd ?xx (RG.SG.start (RT3.out.belowB sz3 (⟨rfl, rfl, rfl, Nat.le_refl _, fun _ _ => rfl⟩ : Below W3.heap.size W3 { W3 with drawn := W3.drawn + 1 }) (Nat.le_refl _))) ?does ?fin
  case gg =>
    intro i o ho
    have hi : i < 17 := by have := (Array.getElem?_eq_some_iff.1 ho).1; simpa using this
    match i, hi with
    | 0, _ | 1, _ | 2, _ | 3, _ | 4, _ | 5, _ | 6, _ | 7, _ | 8, _ | 9, _ | 10, _ | 11, _ | 12, _ | 13, _ | 14, _ | 15, _ | 16, _ => injection ho with ho; subst ho; rfl
  case bk =>
    intro i o ho
    have hi : i < 17 := by have := (Array.getElem?_eq_some_iff.1 ho).1; simpa using this
    match i, hi with
    | 0, _ | 1, _ | 2, _ | 3, _ | 4, _ | 5, _ | 6, _ | 7, _ | 8, _ | 9, _ | 10, _ | 11, _ | 12, _ | 13, _ | 14, _ | 15, _ | 16, _ => injection ho with ho; subst ho; simp [Region.binds]
  case dd =>
    intro k hk
    have hk' : k < 132 := by
      simp [RetN.D] at hk
      omega
    simpa using hk'
  case xx => simp
  case does =>
    intro i o ho
    have hi : i < 17 := by have := (Array.getElem?_eq_some_iff.1 ho).1; simpa using this
    match i, hi with
    | 0, _ => injection ho with ho; subst ho; exact RG.Does.read rfl (fun L v_ w' h => RG.SG.skip (by decide) (by decide) (by decide) h) (fun L a w' hI hd => ex_move rfl (hI.fix 1 (Reg.notD rfl) (by decide)))
    | 1, _ => injection ho with ho; subst ho; exact RG.Does.read rfl (fun L v_ w' h => RG.SG.skip (by decide) (by decide) (by decide) h) (fun L a w' hI hd => ex_fieldo rfl (hI.fix 2 (Reg.notD rfl) (by decide)) (by simp [go_sem]))
    | 2, _ => injection ho with ho; subst ho; exact RG.Does.read rfl (fun L v_ w' h => RG.SG.skip (by decide) (by decide) (by decide) h) (fun L a w' hI hd => ex_load rfl (hI.pure 1 _ _ rfl (hd ⟨1, .data⟩ (by simp) rfl)) (agg_i w') (hI.world.inv.cell G6.out))
    | 3, _ => injection ho with ho; subst ho; exact RG.Does.read rfl (fun L v_ w' h => RG.SG.skip (by decide) (by decide) (by decide) h) (fun L a w' hI hd => ex_fieldo rfl (hI.fix 2 (Reg.notD rfl) (by decide)) (by simp [go_sem]))
    | 4, _ => injection ho with ho; subst ho; exact RG.Does.read rfl (fun L v_ w' h => RG.SG.skip (by decide) (by decide) (by decide) h) (fun L a w' hI hd => ex_load_row (cs := [.int .i64 sh.a, .int .i64 sh.b, .int .i64 sh.c, .int .i64 sh.d, .int .i64 sh.e, .int .i64 sh.f]) rfl (hI.pure 3 _ _ rfl (hd ⟨3, .data⟩ (by simp) rfl)) (hI.world.inv.part GS.out) HDS.out.1 HDS.out.2 sizeSh)
    | 5, _ => injection ho with ho; subst ho; exact RG.Does.read rfl (fun L v_ w' h => RG.SG.skip (by decide) (by decide) (by decide) h) (fun L a w' hI hd => ex_move rfl (hI.fix 7 (Reg.notD rfl) (by decide)))
    | 6, _ => injection ho with ho; subst ho; exact RG.Does.call rfl (fun L a w' hI hd => call2 rfl (hI.pure 4 _ _ rfl (hd ⟨4, .data⟩ (by simp) rfl)) (hI.pure 5 _ _ rfl (hd ⟨5, .data⟩ (by simp) rfl)) rfl (by simp [go_sem])) (fun L v_ w2 hI hL => (HEAD.out (idx hh) w2).mono (by rintro e w3 ⟨rfl, hb_⟩; exact ⟨rfl, RG.SG.skip (by decide) (by decide) (by decide) (RG.SG.quiet (fun c_ w1_ w2_ hb_ hs_ h_ => h_.belowB sz3 hb_ hs_) hI hb_)⟩))
    | 7, _ => injection ho with ho; subst ho; exact RG.Does.read rfl (fun L v_ w' h => RG.SG.skip (by decide) (by decide) (by decide) h) (fun L a w' hI hd => ex_fieldo rfl (hI.fix 2 (Reg.notD rfl) (by decide)) (by simp [go_sem]))
    | 8, _ => injection ho with ho; subst ho; exact RG.Does.read rfl (fun L v_ w' h => RG.SG.skip (by decide) (by decide) (by decide) h) (fun L a w' hI hd => ex_r0 rfl (hI.pure 7 _ _ rfl (hd ⟨7, .data⟩ (by simp) rfl)) rfl)
    | 9, _ => injection ho with ho; subst ho; exact RG.Does.read rfl (fun L v_ w' h => RG.SG.skip (by decide) (by decide) (by decide) h) (fun L a w' hI hd => ex_load rfl (hI.pure 8 _ _ rfl (hd ⟨8, .data⟩ (by simp) rfl)) (agg_u64 w') (hI.world.inv.cell G13.out))
    | 10, _ => injection ho with ho; subst ho; exact RG.Does.read rfl (fun L v_ w' h => RG.SG.skip (by decide) (by decide) (by decide) h) (fun L a w' hI hd => ex_fieldo rfl (hI.fix 2 (Reg.notD rfl) (by decide)) (by simp [go_sem]))
    | 11, _ => injection ho with ho; subst ho; exact RG.Does.read rfl (fun L v_ w' h => RG.SG.skip (by decide) (by decide) (by decide) h) (fun L a w' hI hd => ex_r0 rfl (hI.pure 10 _ _ rfl (hd ⟨10, .data⟩ (by simp) rfl)) rfl)
    | 12, _ => injection ho with ho; subst ho; exact RG.Does.read rfl (fun L v_ w' h => RG.SG.skip (by decide) (by decide) (by decide) h) (fun L a w' hI hd => ex_load rfl (hI.pure 11 _ _ rfl (hd ⟨11, .data⟩ (by simp) rfl)) (agg_u64 w') (hI.world.inv.cell G13.out))
    | 13, _ => injection ho with ho; subst ho; exact RG.Does.read rfl (fun L v_ w' h => RG.SG.skip (by decide) (by decide) (by decide) h) (fun L a w' hI hd => ex_xor rfl (hI.pure 12 _ _ rfl (hd ⟨12, .data⟩ (by simp) rfl)) rfl)
    | 14, _ => injection ho with ho; subst ho; exact RG.Does.call rfl (fun L a w' hI hd => call6 rfl (hI.pure 0 _ _ rfl (hd ⟨0, .data⟩ (by simp) rfl)) (hI.pure 2 _ _ rfl (hd ⟨2, .data⟩ (by simp) rfl)) rfl (hI.pure 6 _ _ rfl (hd ⟨6, .data⟩ (by simp) rfl)) (hI.pure 9 _ _ rfl (hd ⟨9, .data⟩ (by simp) rfl)) (hI.pure 13 _ _ rfl (hd ⟨13, .data⟩ (by simp) rfl)) rfl (by simp [go_sem])) (RG.SG.calls (g := g) (fun w2 hI => (DO.out w2 hI.row).mono (by rintro e w3 ⟨rfl, a1, a2⟩; exact ⟨rfl, hI.act a1 a2, a2⟩)) (by omega) (by decide) (by decide))
    | 15, _ => injection ho with ho; subst ho; exact RG.Does.make (u := fun w' => .pointer (some ⟨w'.heap.size, 0, none⟩)) rfl rfl (fun ev w' => alloc46 rfl) (fun L v_ w' h hL => by have := RG.SG.make (fun c_ w1_ w2_ hb_ hs_ h_ => h_.belowB sz3 hb_ hs_) h hL; rw [← upd_same L 15 true] at this; simpa only [upd_other _ _ (show 14 ≠ 15 by decide), upd_other _ _ (show 16 ≠ 15 by decide)] using this)
    | 16, _ => injection ho with ho; subst ho; exact RG.Does.put (ls := x.cells) rfl rfl rfl size46 (by simp [Stp.cells, Value.oneCell']) (fun L a w' hI hL hd => ⟨(hI.pure 14 _ _ rfl (hd ⟨14, .data⟩ (by simp) rfl)), by obtain ⟨q, e1, e2, e3⟩ := RG.SG.put (fun c_ w1_ w2_ hb_ hs_ h_ => h_.belowB sz3 hb_ hs_) hI.world (hd ⟨14, .data⟩ (by simp) rfl) (hd ⟨15, .data⟩ (by simp) rfl) hL; exact ⟨q, 0, e1, e2, by rw [← upd_same L 16 true] at e3; simpa only [upd_other _ _ (show 14 ≠ 16 by decide), upd_other _ _ (show 15 ≠ 16 by decide)] using e3⟩⟩)
  case fin =>
    intro L a' w1 hI hall
    have hw := hI.world
    simp only [hall 14 (by decide), hall 15 (by decide), hall 16 (by decide)] at hw
    obtain ⟨q, hq, hq1, hq2, _, hr⟩ := hw.own rfl
    replace hr := hr rfl
    have ea := act_all a' 132 (by rw [hI.sz]; rfl) hI.df
    simp only [List.range, List.range.loop, List.map] at ea
    rw [hI.fix 0 (Reg.notD rfl) (by decide), hI.fix 1 (Reg.notD rfl) (by decide), hI.fix 2 (Reg.notD rfl) (by decide), hI.fix 3 (Reg.notD rfl) (by decide), hI.fix 4 (Reg.notD rfl) (by decide), hI.fix 5 (Reg.notD rfl) (by decide), hI.fix 6 (Reg.notD rfl) (by decide), hI.fix 7 (Reg.notD rfl) (by decide), hI.fix 8 (Reg.notD rfl) (by decide), hI.fix 10 (Reg.notD rfl) (by decide), hI.fix 11 (Reg.notD rfl) (by decide), hI.fix 12 (Reg.notD rfl) (by decide), hI.fix 13 (Reg.notD rfl) (by decide), hI.fix 14 (Reg.notD rfl) (by decide), hI.fix 15 (Reg.notD rfl) (by decide), hI.fix 16 (Reg.notD rfl) (by decide), hI.fix 17 (Reg.notD rfl) (by decide), hI.fix 18 (Reg.notD rfl) (by decide), hI.fix 19 (Reg.notD rfl) (by decide), hI.fix 20 (Reg.notD rfl) (by decide), hI.fix 21 (Reg.notD rfl) (by decide), hI.fix 22 (Reg.notD rfl) (by decide), hI.fix 23 (Reg.notD rfl) (by decide), hI.fix 24 (Reg.notD rfl) (by decide), hI.fix 25 (Reg.notD rfl) (by decide), hI.fix 26 (Reg.notD rfl) (by decide), hI.fix 27 (Reg.notD rfl) (by decide), hI.fix 28 (Reg.notD rfl) (by decide), hI.fix 29 (Reg.notD rfl) (by decide), hI.fix 30 (Reg.notD rfl) (by decide), hI.fix 31 (Reg.notD rfl) (by decide), hI.fix 32 (Reg.notD rfl) (by decide), hI.fix 33 (Reg.notD rfl) (by decide), hI.fix 34 (Reg.notD rfl) (by decide), hI.fix 35 (Reg.notD rfl) (by decide), hI.fix 36 (Reg.notD rfl) (by decide), hI.fix 37 (Reg.notD rfl) (by decide), hI.fix 38 (Reg.notD rfl) (by decide), hI.fix 39 (Reg.notD rfl) (by decide), hI.fix 40 (Reg.notD rfl) (by decide), hI.fix 41 (Reg.notD rfl) (by decide), hI.fix 42 (Reg.notD rfl) (by decide), hI.fix 43 (Reg.notD rfl) (by decide), hI.fix 44 (Reg.notD rfl) (by decide), hI.fix 45 (Reg.notD rfl) (by decide), hI.fix 46 (Reg.notD rfl) (by decide), hI.fix 47 (Reg.notD rfl) (by decide), hI.fix 48 (Reg.notD rfl) (by decide), hI.fix 49 (Reg.notD rfl) (by decide), hI.fix 50 (Reg.notD rfl) (by decide), hI.fix 51 (Reg.notD rfl) (by decide), hI.fix 52 (Reg.notD rfl) (by decide), hI.fix 53 (Reg.notD rfl) (by decide), hI.fix 54 (Reg.notD rfl) (by decide), hI.fix 55 (Reg.notD rfl) (by decide), hI.fix 56 (Reg.notD rfl) (by decide), hI.fix 57 (Reg.notD rfl) (by decide), hI.fix 73 (Reg.notD rfl) (by decide), hI.fix 74 (Reg.notD rfl) (by decide), hI.fix 75 (Reg.notD rfl) (by decide), hI.fix 76 (Reg.notD rfl) (by decide), hI.fix 77 (Reg.notD rfl) (by decide), hI.fix 78 (Reg.notD rfl) (by decide), hI.fix 79 (Reg.notD rfl) (by decide), hI.fix 80 (Reg.notD rfl) (by decide), hI.fix 81 (Reg.notD rfl) (by decide), hI.fix 82 (Reg.notD rfl) (by decide), hI.fix 83 (Reg.notD rfl) (by decide), hI.fix 84 (Reg.notD rfl) (by decide), hI.fix 85 (Reg.notD rfl) (by decide), hI.fix 86 (Reg.notD rfl) (by decide), hI.fix 87 (Reg.notD rfl) (by decide), hI.fix 88 (Reg.notD rfl) (by decide), hI.fix 89 (Reg.notD rfl) (by decide), hI.fix 90 (Reg.notD rfl) (by decide), hI.fix 91 (Reg.notD rfl) (by decide), hI.fix 92 (Reg.notD rfl) (by decide), hI.fix 93 (Reg.notD rfl) (by decide), hI.fix 94 (Reg.notD rfl) (by decide), hI.fix 95 (Reg.notD rfl) (by decide), hI.fix 96 (Reg.notD rfl) (by decide), hI.fix 97 (Reg.notD rfl) (by decide), hI.fix 98 (Reg.notD rfl) (by decide), hI.fix 99 (Reg.notD rfl) (by decide), hI.fix 100 (Reg.notD rfl) (by decide), hI.fix 101 (Reg.notD rfl) (by decide), hI.fix 102 (Reg.notD rfl) (by decide), hI.fix 103 (Reg.notD rfl) (by decide), hI.fix 104 (Reg.notD rfl) (by decide), hI.fix 105 (Reg.notD rfl) (by decide), hI.fix 106 (Reg.notD rfl) (by decide), hI.fix 107 (Reg.notD rfl) (by decide), hI.fix 108 (Reg.notD rfl) (by decide), hI.fix 109 (Reg.notD rfl) (by decide), hI.fix 110 (Reg.notD rfl) (by decide), hI.fix 111 (Reg.notD rfl) (by decide), hI.fix 112 (Reg.notD rfl) (by decide), hI.fix 113 (Reg.notD rfl) (by decide), hI.fix 114 (Reg.notD rfl) (by decide), hI.fix 115 (Reg.notD rfl) (by decide), hI.fix 116 (Reg.notD rfl) (by decide), hI.fix 117 (Reg.notD rfl) (by decide), hI.fix 118 (Reg.notD rfl) (by decide), hI.fix 119 (Reg.notD rfl) (by decide), hI.fix 120 (Reg.notD rfl) (by decide), hI.fix 121 (Reg.notD rfl) (by decide), hI.fix 122 (Reg.notD rfl) (by decide), hI.fix 123 (Reg.notD rfl) (by decide), hI.fix 124 (Reg.notD rfl) (by decide), hI.fix 125 (Reg.notD rfl) (by decide), hI.fix 126 (Reg.notD rfl) (by decide), hI.fix 127 (Reg.notD rfl) (by decide), hI.fix 128 (Reg.notD rfl) (by decide), hI.fix 129 (Reg.notD rfl) (by decide), hI.fix 130 (Reg.notD rfl) (by decide), hI.fix 131 (Reg.notD rfl) (by decide), hq] at ea
    clear hI hall
    generalize a'.eval (.tmp 58) = u58 at ea
    generalize a'.eval (.tmp 59) = u59 at ea
    generalize a'.eval (.tmp 60) = u60 at ea
    generalize a'.eval (.tmp 61) = u61 at ea
    generalize a'.eval (.tmp 62) = u62 at ea
    generalize a'.eval (.tmp 63) = u63 at ea
    generalize a'.eval (.tmp 64) = u64 at ea
    generalize a'.eval (.tmp 65) = u65 at ea
    generalize a'.eval (.tmp 66) = u66 at ea
    generalize a'.eval (.tmp 67) = u67 at ea
    generalize a'.eval (.tmp 68) = u68 at ea
    generalize a'.eval (.tmp 69) = u69 at ea
    generalize a'.eval (.tmp 70) = u70 at ea
    generalize a'.eval (.tmp 71) = u71 at ea
    generalize a'.eval (.tmp 72) = u72 at ea
    simp only [show ∀ (ts : Array Value) (ds) (i : Nat), (Act.mk ts ds).eval (.tmp i) = ts.getD i undef from fun _ _ _ => rfl] at ea
    simp at ea
    subst ea
    have RT1 := hide (show RT w g n cap l0 f' w1 from hw.inv)
    have RQ := hide hr
    have szq := hw.siz
    have lq3 : w.heap.size + 3 ≤ q := by omega
    clear hw hr hq
    have s0 : w1.cell? ⟨q, 0, none⟩ = some (.int .i64 x.hand) := by have := RQ.out 0 _ rfl; simpa using this
    have s1 : w1.cell? ⟨q, 1, none⟩ = some (.int .i64 x.act) := by have := RQ.out 1 _ rfl; simpa using this
    have s2 : w1.cell? ⟨q, 2, none⟩ = some (.int .i64 x.at_) := by have := RQ.out 2 _ rfl; simpa using this
    have s3 : w1.cell? ⟨q, 3, none⟩ = some (.int .u64 x.had) := by have := RQ.out 3 _ rfl; simpa using this
    have s4 : w1.cell? ⟨q, 4, none⟩ = some (.int .u64 x.put) := by have := RQ.out 4 _ rfl; simpa using this
    have s5 : w1.cell? ⟨q, 5, none⟩ = some (.bool x.ok) := by have := RQ.out 5 _ rfl; simpa using this
    have hok := HOK.out
    have s5' : w1.cell? ⟨q, 5, none⟩ = some (.bool true) := by rw [s5, hok]
    clear s5 hok
    obtain ⟨V, hV⟩ : ∃ V, ((w1.setCell ⟨w.heap.size, 12, none⟩ (.int .i64 0)).setCell ⟨w.heap.size, 12, none⟩ (.int .i64 2)) = V := ⟨_, rfl⟩
    have hset : ((l0.set 12 (.int .i64 0)).set 12 (.int .i64 2)) = lt := by rw [← HL0.out, ← HLTE.out]; rfl
    have RTV := hide (show RT w g n cap lt f' V from by
      rw [← hV, ← hset]
      exact ((RT1.out.set 12 (by omega) (.int .i64 0)).set 12 (by omega) (.int .i64 2)))
    have tV : Touch w1 V (fun k => k = w.heap.size) := by
      rw [← hV]
      exact (Touch.setCell (S := fun k => k = w.heap.size) (Touch.setCell (S := fun k => k = w.heap.size) (Touch.refl w1 _) ⟨w.heap.size, 12, none⟩ (.inl rfl) _) ⟨w.heap.size, 12, none⟩ (.inl rfl) _)
    have SV := hide (rangeAt_block RQ.out (tV.block q hq2 (by omega)))
    have lqV : q < V.heap.size := Nat.lt_of_lt_of_le hq2 tV.size
    clear tV
    have v5 : V.cell? ⟨q, 5, none⟩ = some (.bool true) := by have := SV.out 5 _ rfl; rw [HOK.out] at this; simpa using this
    have d12 := RT1.out.tk.cell (i := 12) (by omega)
    have df12 := RT1.out.frozen 12
    have lp1 : w.heap.size < w1.heap.size := by have := RT1.out.size; omega
    go_upto_region 15 with (fail)
    clear hV hset s0 s1 s2 s3 s4 s5'
    refine RG.region (ks := [(0, 77), (1, 78), (4, 6)]) (vals := fun i => match i with
          | 0 => .agg lt.toArray
          | 1 => .agg #[.int .i64 x.hand, .int .i64 x.act, .int .i64 x.at_, .int .u64 x.had, .int .u64 x.put, .bool x.ok]
          | 4 => .bool false
          | _ => undef) (x := 3) (WI := fun L v_ w' => RG.SM (fun _ w' => RD w g n cap lt f' (some q) x w') (w.heap.size + 1) (w.heap.size + 2) lt x true (L 2) (L 3) w') (by kernel_rfl) ?gg ?bk rfl ?dd ?xx (RG.SM.begin (c := true) (RD.drew (RD.of RTV.out (fun k e => by cases e; exact ⟨SV.out, lq3, lqV⟩))) (by rw [HLT.out]; exact rowIs.there RTV.out.rt.drew (by omega)) (rowIs.there RTV.out.rs.drew (by simp [Stp.cells]))) ?does ?fin
    case gg =>
      intro i o ho
      have hi : i < 5 := by have := (Array.getElem?_eq_some_iff.1 ho).1; simpa using this
      match i, hi with
      | 0, _ | 1, _ | 2, _ | 3, _ | 4, _ => injection ho with ho; subst ho; rfl
    case bk =>
      intro i o ho
      have hi : i < 5 := by have := (Array.getElem?_eq_some_iff.1 ho).1; simpa using this
      match i, hi with
      | 0, _ | 1, _ | 2, _ | 3, _ | 4, _ => injection ho with ho; subst ho; simp [Region.binds]
    case dd =>
      intro k hk
      have hk' : k < 132 := by
        simp [RetN.D] at hk
        omega
      simpa using hk'
    case xx => simp
    case does =>
      intro i o ho
      have hi : i < 5 := by have := (Array.getElem?_eq_some_iff.1 ho).1; simpa using this
      match i, hi with
      | 0, _ => injection ho with ho; subst ho; exact RG.Does.read rfl (fun L v_ w' h => RG.SM.skip2 (by decide) (by decide) h) (fun L a w' hI hd => ex_load_row rfl (hI.fix 2 (Reg.notD rfl) (by decide)) hI.world.inv.range HD.out.1 HD.out.2.1 (by rw [HLT.out]; exact size79))
      | 1, _ => injection ho with ho; subst ho; exact RG.Does.read rfl (fun L v_ w' h => RG.SM.skip2 (by decide) (by decide) h) (fun L a w' hI hd => ex_load_row rfl (hI.fix 9 (Reg.notD rfl) (by decide)) (hI.world.inv.var _ rfl).1 HD.out.2.2.1 HD.out.2.2.2 size46)
      | 2, _ => injection ho with ho; subst ho; exact RG.Does.put (ls := lt) rfl rfl rfl (by rw [HLT.out]; exact size79) HTK.out.2 (fun L a w' hI hL hd => ⟨(hI.pure 0 _ _ rfl (hd ⟨0, .data⟩ (by simp) rfl)), by obtain ⟨e2, e3⟩ := RG.SM.putC (fun c_ w1_ w2_ ht_ h_ => h_.touch ht_) (by omega) hI.world; exact ⟨w.heap.size + 1, 0, hI.fix 4 (Reg.notD rfl) (by decide), e2, by show RG.SM (fun _ w' => RD w g n cap lt f' (some q) x w') (w.heap.size + 1) (w.heap.size + 2) lt x true (upd L 2 true 2) (upd L 2 true 3) _; rw [upd_same, upd_other _ _ (show 3 ≠ 2 by decide)]; exact e3⟩⟩)
      | 3, _ => injection ho with ho; subst ho; exact RG.Does.put (ls := x.cells) rfl rfl rfl size46 (by simp [Stp.cells, Value.oneCell']) (fun L a w' hI hL hd => ⟨(hI.pure 1 _ _ rfl (hd ⟨1, .data⟩ (by simp) rfl)), by obtain ⟨e2, e3⟩ := RG.SM.putE (fun c_ w1_ w2_ ht_ h_ => h_.touch ht_) (by omega) hI.world rfl; exact ⟨w.heap.size + 2, 0, hI.fix 5 (Reg.notD rfl) (by decide), e2, by show RG.SM (fun _ w' => RD w g n cap lt f' (some q) x w') (w.heap.size + 1) (w.heap.size + 2) lt x true (upd L 3 true 2) (upd L 3 true 3) _; rw [upd_same, upd_other _ _ (show 2 ≠ 3 by decide)]; exact e3⟩⟩)
      | 4, _ => injection ho with ho; subst ho; exact RG.Does.read rfl (fun L v_ w' h => RG.SM.skip2 (by decide) (by decide) h) (fun L a w' hI hd => ex_assign rfl rfl)
    case fin =>
      intro L a' w' hI hall
      rename_i K2 hK2
      refine hK2 _ _ ?_
      have hw := hI.world
      simp only [hall 2 (by decide), hall 3 (by decide)] at hw
      have rC := hw.stoC rfl
      have rD := hw.stoE rfl
      have pC : a'.eval (.tmp 4) = .pointer (some ⟨w.heap.size + 1, 0, none⟩) := hI.fix 4 (Reg.notD rfl) (by decide)
      have pD : a'.eval (.tmp 5) = .pointer (some ⟨w.heap.size + 2, 0, none⟩) := hI.fix 5 (Reg.notD rfl) (by decide)
      have pe : a'.eval (.tmp 6) = .bool false := hI.pure 4 6 _ rfl (hall 4 (by decide))
      have hdf : a'.defers = [] := hI.df
      have hT := run_loadVar_mid (P := Tryz.prog) w' (w.heap.size + 1) 0 _ lt dT rC HD.out.1 HD.out.2.1 (by rw [HLT.out]; exact size79)
      have hS := run_loadVar_mid (P := Tryz.prog) w' (w.heap.size + 2) 0 _ _ dS rD HD.out.2.2.1 HD.out.2.2.2 size46
      have hres := results_cct (Q := Tryz.prog) (fn := Tryz.f35) (tmps := a'.tmps) (t := 4) (t' := 5) (t'' := 6) (W := w') (by rfl) pC hT pD hS
      rw [show a'.tmps.getD 6 undef = .bool false from pe] at hres
      go_wp2
      exact bodyPost_ret (v := .tuple #[.agg lt.toArray, x.val, .bool false]) hres hdf ⟨rfl, hw.inv.row, hw.inv.gro⟩
set_option maxHeartbeats 8000000 in
theorem rm1_no {w : World} {g n cap : Nat} {f f' : Nat → Int} {x : Stp} {sh : Shp} {hand a b c hh r0 r1 : Int} (hr : IsRow w g n cap f) (h5 : Shape.R5 sh.a sh.b sh.c sh.d sh.e) (hb0 : 0 ≤ hh ∧ hh ≤ 18446744073709551615) (h0 : 0 ≤ r0 ∧ r0 ≤ 18446744073709551615) (hok : x.ok = false)
    (hx : stepOf n f ⟨hand, 5, headAt sh (idx hh), r0, xr r0, true⟩ = x) (hf' : wordsOf n f ⟨hand, 5, headAt sh (idx hh), r0, xr r0, true⟩ = f') :
    Calls Tryz.prog 35 #[.agg (tk sh hand ⟨1, a, b, c, hh⟩ 1 ⟨r0, r1, 0, 0, 0, 0, 0, 0⟩ ⟨false, 0⟩).toArray, .slice (some ⟨g, 0, none⟩) n cap] w fun e w' =>
      e = .returned (.tuple #[.agg (tk sh hand ⟨1, a, b, c, hh⟩ 0 ⟨r0, r1, 0, 0, 0, 0, 0, 0⟩ ⟨false, 0⟩).toArray, x.val, .bool false]) ∧ IsRow w' g n cap f' ∧ w.grownBy w' (some g) := by
  have DO := hide (fun (w' : World) (hr' : IsRow w' g n cap f) => ref_do (s := ⟨hand, 5, headAt sh (idx hh), r0, xr r0, true⟩) hr' (xr_wf h0) ⟨by show (1 : Int) ≤ 5; decide, by show (5 : Int) ≤ 5; decide⟩)
  rw [hx, hf'] at DO
  have IX := hide (fun w1 : World => index_ref hh hb0.1 (by omega) w1)
  have HEAD := hide (fun (i : Int) (w1 : World) => rhead_any h5 i w1)
  have LINK := hide (fun (i : Int) (w1 : World) => rlink_any h5 i w1)
  have HOK := hide hok
  have lg := hr.lt
  obtain ⟨l0, hl0⟩ : ∃ l, tk sh hand ⟨1, a, b, c, hh⟩ 1 ⟨r0, r1, 0, 0, 0, 0, 0, 0⟩ ⟨false, 0⟩ = l := ⟨_, rfl⟩
  have hl0' : l0.length = 28 := by rw [← hl0]; rfl
  obtain ⟨lt, hlt⟩ : ∃ l, tk sh hand ⟨1, a, b, c, hh⟩ 0 ⟨r0, r1, 0, 0, 0, 0, 0, 0⟩ ⟨false, 0⟩ = l := ⟨_, rfl⟩
  have HTK := hide (show IsTk lt from by rw [← hlt]; exact tk_is _ _ _ _ _ _)
  have HLT := hide (show lt.length = 28 from by rw [← hlt]; rfl)
  rw [hl0, hlt]
  obtain ⟨W3, hW3⟩ : ∃ W3, ((w.alloc (.cells l0.toArray 85)).alloc (.cells tk0.toArray 85)).alloc (.cells [Value.int .i64 0, .int .i64 0, .int .i64 0, .int .u64 0, .int .u64 0, .bool false].toArray 71) = W3 := ⟨_, rfl⟩
  have RT3 := hide (show RT w g n cap l0 f W3 from by rw [← hW3]; exact RT.start hr hl0')
  have GS := hide (show ∀ (j : Nat) (v : Value), ([.int .i64 sh.a, .int .i64 sh.b, .int .i64 sh.c, .int .i64 sh.d, .int .i64 sh.e, .int .i64 sh.f] : List Value)[j]? = some v → l0[j]? = some v from by
    intro j v hj
    have hj6 : j < 6 := (List.getElem?_eq_some_iff.1 hj).1
    rw [← hl0]
    match j, hj6 with
    | 0, _ | 1, _ | 2, _ | 3, _ | 4, _ | 5, _ => exact hj)
  have G6 := hide (show l0[6]? = some (.int .i64 hand) from by rw [← hl0]; rfl)
  have c6 := RT3.out.cell G6.out
  have G7 := hide (show l0[7]? = some (.int .i64 1) from by rw [← hl0]; rfl)
  have c7 := RT3.out.cell G7.out
  have G11 := hide (show l0[11]? = some (.int .u64 hh) from by rw [← hl0]; rfl)
  have c11 := RT3.out.cell G11.out
  have G12 := hide (show l0[12]? = some (.int .i64 1) from by rw [← hl0]; rfl)
  have c12 := RT3.out.cell G12.out
  have G13 := hide (show l0[13]? = some (.int .u64 r0) from by rw [← hl0]; rfl)
  have c13 := RT3.out.cell G13.out
  obtain ⟨dT, hdT1, hdT2⟩ := row79
  obtain ⟨dS, hdS1, hdS2⟩ := row46
  obtain ⟨dH, hdH1, hdH2⟩ := rowSh
  have HD := hide (And.intro hdT1 (And.intro hdT2 (And.intro hdS1 hdS2)))
  have HDS := hide (And.intro hdH1 hdH2)
  have sz3 := RT3.out.size
  have HL0 := hide hl0
  have HLTE := hide hlt
  clear hx hf' hr h5 hl0 hl0' hlt hdT1 hdT2 hdS1 hdS2 hdH1 hdH2 hb0 h0 hok
  simp only [tk0] at hW3
  go_enter Tryz.func35, Tryz.ntmps35
  go_upto_region 11 with (go_at_call 64; refine (IX.out _).mono ?_; rintro e wq ⟨rfl, hwq⟩; obtain rfl := hwq.symm)
  clear hW3
  refine RG.region (ks := [(0, 58), (1, 59), (2, 60), (3, 61), (4, 62), (5, 63), (6, 64), (7, 65), (8, 66), (9, 67), (10, 68), (11, 69), (12, 70), (13, 71), (14, 72)]) (vals := fun i => match i with
      | 0 => .slice (some ⟨g, 0, none⟩) n cap
      | 1 => .pointer (some ⟨w.heap.size, 6, none⟩)
      | 2 => .int .i64 hand
      | 3 => .pointer (some ⟨w.heap.size, 0, none⟩)
      | 4 => .agg #[.int .i64 sh.a, .int .i64 sh.b, .int .i64 sh.c, .int .i64 sh.d, .int .i64 sh.e, .int .i64 sh.f]
      | 5 => .int .i64 (idx hh)
      | 6 => .int .i64 (headAt sh (idx hh))
      | 7 => .pointer (some ⟨w.heap.size, 13, none⟩)
      | 8 => .pointer (some ⟨w.heap.size, 13, none⟩)
      | 9 => .int .u64 r0
      | 10 => .pointer (some ⟨w.heap.size, 13, none⟩)
      | 11 => .pointer (some ⟨w.heap.size, 13, none⟩)
      | 12 => .int .u64 r0
      | 13 => .int .u64 (xr r0)
      | 14 => .agg #[.int .i64 x.hand, .int .i64 x.act, .int .i64 x.at_, .int .u64 x.had, .int .u64 x.put, .bool x.ok]
      | _ => undef) (x := 9) (WI := fun L v_ w' => RG.SG (fun c_ w' => RT w g n cap l0 (cond c_ f' f) w') x W3 (L 14) (L 15) (L 16) v_ w') (by kernel_rfl) ?gg ?bk rfl ?dd ?xx (RG.SG.start (RT3.out.belowB sz3 (⟨rfl, rfl, rfl, Nat.le_refl _, fun _ _ => rfl⟩ : Below W3.heap.size W3 { W3 with drawn := W3.drawn + 1 }) (Nat.le_refl _))) ?does ?fin
  case gg =>
    intro i o ho
    have hi : i < 17 := by have := (Array.getElem?_eq_some_iff.1 ho).1; simpa using this
    match i, hi with
    | 0, _ | 1, _ | 2, _ | 3, _ | 4, _ | 5, _ | 6, _ | 7, _ | 8, _ | 9, _ | 10, _ | 11, _ | 12, _ | 13, _ | 14, _ | 15, _ | 16, _ => injection ho with ho; subst ho; rfl
  case bk =>
    intro i o ho
    have hi : i < 17 := by have := (Array.getElem?_eq_some_iff.1 ho).1; simpa using this
    match i, hi with
    | 0, _ | 1, _ | 2, _ | 3, _ | 4, _ | 5, _ | 6, _ | 7, _ | 8, _ | 9, _ | 10, _ | 11, _ | 12, _ | 13, _ | 14, _ | 15, _ | 16, _ => injection ho with ho; subst ho; simp [Region.binds]
  case dd =>
    intro k hk
    have hk' : k < 132 := by
      simp [RetN.D] at hk
      omega
    simpa using hk'
  case xx => simp
  case does =>
    intro i o ho
    have hi : i < 17 := by have := (Array.getElem?_eq_some_iff.1 ho).1; simpa using this
    match i, hi with
    | 0, _ => injection ho with ho; subst ho; exact RG.Does.read rfl (fun L v_ w' h => RG.SG.skip (by decide) (by decide) (by decide) h) (fun L a w' hI hd => ex_move rfl (hI.fix 1 (Reg.notD rfl) (by decide)))
    | 1, _ => injection ho with ho; subst ho; exact RG.Does.read rfl (fun L v_ w' h => RG.SG.skip (by decide) (by decide) (by decide) h) (fun L a w' hI hd => ex_fieldo rfl (hI.fix 2 (Reg.notD rfl) (by decide)) (by simp [go_sem]))
    | 2, _ => injection ho with ho; subst ho; exact RG.Does.read rfl (fun L v_ w' h => RG.SG.skip (by decide) (by decide) (by decide) h) (fun L a w' hI hd => ex_load rfl (hI.pure 1 _ _ rfl (hd ⟨1, .data⟩ (by simp) rfl)) (agg_i w') (hI.world.inv.cell G6.out))
    | 3, _ => injection ho with ho; subst ho; exact RG.Does.read rfl (fun L v_ w' h => RG.SG.skip (by decide) (by decide) (by decide) h) (fun L a w' hI hd => ex_fieldo rfl (hI.fix 2 (Reg.notD rfl) (by decide)) (by simp [go_sem]))
    | 4, _ => injection ho with ho; subst ho; exact RG.Does.read rfl (fun L v_ w' h => RG.SG.skip (by decide) (by decide) (by decide) h) (fun L a w' hI hd => ex_load_row (cs := [.int .i64 sh.a, .int .i64 sh.b, .int .i64 sh.c, .int .i64 sh.d, .int .i64 sh.e, .int .i64 sh.f]) rfl (hI.pure 3 _ _ rfl (hd ⟨3, .data⟩ (by simp) rfl)) (hI.world.inv.part GS.out) HDS.out.1 HDS.out.2 sizeSh)
    | 5, _ => injection ho with ho; subst ho; exact RG.Does.read rfl (fun L v_ w' h => RG.SG.skip (by decide) (by decide) (by decide) h) (fun L a w' hI hd => ex_move rfl (hI.fix 7 (Reg.notD rfl) (by decide)))
    | 6, _ => injection ho with ho; subst ho; exact RG.Does.call rfl (fun L a w' hI hd => call2 rfl (hI.pure 4 _ _ rfl (hd ⟨4, .data⟩ (by simp) rfl)) (hI.pure 5 _ _ rfl (hd ⟨5, .data⟩ (by simp) rfl)) rfl (by simp [go_sem])) (fun L v_ w2 hI hL => (HEAD.out (idx hh) w2).mono (by rintro e w3 ⟨rfl, hb_⟩; exact ⟨rfl, RG.SG.skip (by decide) (by decide) (by decide) (RG.SG.quiet (fun c_ w1_ w2_ hb_ hs_ h_ => h_.belowB sz3 hb_ hs_) hI hb_)⟩))
    | 7, _ => injection ho with ho; subst ho; exact RG.Does.read rfl (fun L v_ w' h => RG.SG.skip (by decide) (by decide) (by decide) h) (fun L a w' hI hd => ex_fieldo rfl (hI.fix 2 (Reg.notD rfl) (by decide)) (by simp [go_sem]))
    | 8, _ => injection ho with ho; subst ho; exact RG.Does.read rfl (fun L v_ w' h => RG.SG.skip (by decide) (by decide) (by decide) h) (fun L a w' hI hd => ex_r0 rfl (hI.pure 7 _ _ rfl (hd ⟨7, .data⟩ (by simp) rfl)) rfl)
    | 9, _ => injection ho with ho; subst ho; exact RG.Does.read rfl (fun L v_ w' h => RG.SG.skip (by decide) (by decide) (by decide) h) (fun L a w' hI hd => ex_load rfl (hI.pure 8 _ _ rfl (hd ⟨8, .data⟩ (by simp) rfl)) (agg_u64 w') (hI.world.inv.cell G13.out))
    | 10, _ => injection ho with ho; subst ho; exact RG.Does.read rfl (fun L v_ w' h => RG.SG.skip (by decide) (by decide) (by decide) h) (fun L a w' hI hd => ex_fieldo rfl (hI.fix 2 (Reg.notD rfl) (by decide)) (by simp [go_sem]))
    | 11, _ => injection ho with ho; subst ho; exact RG.Does.read rfl (fun L v_ w' h => RG.SG.skip (by decide) (by decide) (by decide) h) (fun L a w' hI hd => ex_r0 rfl (hI.pure 10 _ _ rfl (hd ⟨10, .data⟩ (by simp) rfl)) rfl)
    | 12, _ => injection ho with ho; subst ho; exact RG.Does.read rfl (fun L v_ w' h => RG.SG.skip (by decide) (by decide) (by decide) h) (fun L a w' hI hd => ex_load rfl (hI.pure 11 _ _ rfl (hd ⟨11, .data⟩ (by simp) rfl)) (agg_u64 w') (hI.world.inv.cell G13.out))
    | 13, _ => injection ho with ho; subst ho; exact RG.Does.read rfl (fun L v_ w' h => RG.SG.skip (by decide) (by decide) (by decide) h) (fun L a w' hI hd => ex_xor rfl (hI.pure 12 _ _ rfl (hd ⟨12, .data⟩ (by simp) rfl)) rfl)
    | 14, _ => injection ho with ho; subst ho; exact RG.Does.call rfl (fun L a w' hI hd => call6 rfl (hI.pure 0 _ _ rfl (hd ⟨0, .data⟩ (by simp) rfl)) (hI.pure 2 _ _ rfl (hd ⟨2, .data⟩ (by simp) rfl)) rfl (hI.pure 6 _ _ rfl (hd ⟨6, .data⟩ (by simp) rfl)) (hI.pure 9 _ _ rfl (hd ⟨9, .data⟩ (by simp) rfl)) (hI.pure 13 _ _ rfl (hd ⟨13, .data⟩ (by simp) rfl)) rfl (by simp [go_sem])) (RG.SG.calls (g := g) (fun w2 hI => (DO.out w2 hI.row).mono (by rintro e w3 ⟨rfl, a1, a2⟩; exact ⟨rfl, hI.act a1 a2, a2⟩)) (by omega) (by decide) (by decide))
    | 15, _ => injection ho with ho; subst ho; exact RG.Does.make (u := fun w' => .pointer (some ⟨w'.heap.size, 0, none⟩)) rfl rfl (fun ev w' => alloc46 rfl) (fun L v_ w' h hL => by have := RG.SG.make (fun c_ w1_ w2_ hb_ hs_ h_ => h_.belowB sz3 hb_ hs_) h hL; rw [← upd_same L 15 true] at this; simpa only [upd_other _ _ (show 14 ≠ 15 by decide), upd_other _ _ (show 16 ≠ 15 by decide)] using this)
    | 16, _ => injection ho with ho; subst ho; exact RG.Does.put (ls := x.cells) rfl rfl rfl size46 (by simp [Stp.cells, Value.oneCell']) (fun L a w' hI hL hd => ⟨(hI.pure 14 _ _ rfl (hd ⟨14, .data⟩ (by simp) rfl)), by obtain ⟨q, e1, e2, e3⟩ := RG.SG.put (fun c_ w1_ w2_ hb_ hs_ h_ => h_.belowB sz3 hb_ hs_) hI.world (hd ⟨14, .data⟩ (by simp) rfl) (hd ⟨15, .data⟩ (by simp) rfl) hL; exact ⟨q, 0, e1, e2, by rw [← upd_same L 16 true] at e3; simpa only [upd_other _ _ (show 14 ≠ 16 by decide), upd_other _ _ (show 15 ≠ 16 by decide)] using e3⟩⟩)
  case fin =>
    intro L a' w1 hI hall
    have hw := hI.world
    simp only [hall 14 (by decide), hall 15 (by decide), hall 16 (by decide)] at hw
    obtain ⟨q, hq, hq1, hq2, _, hr⟩ := hw.own rfl
    replace hr := hr rfl
    have ea := act_all a' 132 (by rw [hI.sz]; rfl) hI.df
    simp only [List.range, List.range.loop, List.map] at ea
    rw [hI.fix 0 (Reg.notD rfl) (by decide), hI.fix 1 (Reg.notD rfl) (by decide), hI.fix 2 (Reg.notD rfl) (by decide), hI.fix 3 (Reg.notD rfl) (by decide), hI.fix 4 (Reg.notD rfl) (by decide), hI.fix 5 (Reg.notD rfl) (by decide), hI.fix 6 (Reg.notD rfl) (by decide), hI.fix 7 (Reg.notD rfl) (by decide), hI.fix 8 (Reg.notD rfl) (by decide), hI.fix 10 (Reg.notD rfl) (by decide), hI.fix 11 (Reg.notD rfl) (by decide), hI.fix 12 (Reg.notD rfl) (by decide), hI.fix 13 (Reg.notD rfl) (by decide), hI.fix 14 (Reg.notD rfl) (by decide), hI.fix 15 (Reg.notD rfl) (by decide), hI.fix 16 (Reg.notD rfl) (by decide), hI.fix 17 (Reg.notD rfl) (by decide), hI.fix 18 (Reg.notD rfl) (by decide), hI.fix 19 (Reg.notD rfl) (by decide), hI.fix 20 (Reg.notD rfl) (by decide), hI.fix 21 (Reg.notD rfl) (by decide), hI.fix 22 (Reg.notD rfl) (by decide), hI.fix 23 (Reg.notD rfl) (by decide), hI.fix 24 (Reg.notD rfl) (by decide), hI.fix 25 (Reg.notD rfl) (by decide), hI.fix 26 (Reg.notD rfl) (by decide), hI.fix 27 (Reg.notD rfl) (by decide), hI.fix 28 (Reg.notD rfl) (by decide), hI.fix 29 (Reg.notD rfl) (by decide), hI.fix 30 (Reg.notD rfl) (by decide), hI.fix 31 (Reg.notD rfl) (by decide), hI.fix 32 (Reg.notD rfl) (by decide), hI.fix 33 (Reg.notD rfl) (by decide), hI.fix 34 (Reg.notD rfl) (by decide), hI.fix 35 (Reg.notD rfl) (by decide), hI.fix 36 (Reg.notD rfl) (by decide), hI.fix 37 (Reg.notD rfl) (by decide), hI.fix 38 (Reg.notD rfl) (by decide), hI.fix 39 (Reg.notD rfl) (by decide), hI.fix 40 (Reg.notD rfl) (by decide), hI.fix 41 (Reg.notD rfl) (by decide), hI.fix 42 (Reg.notD rfl) (by decide), hI.fix 43 (Reg.notD rfl) (by decide), hI.fix 44 (Reg.notD rfl) (by decide), hI.fix 45 (Reg.notD rfl) (by decide), hI.fix 46 (Reg.notD rfl) (by decide), hI.fix 47 (Reg.notD rfl) (by decide), hI.fix 48 (Reg.notD rfl) (by decide), hI.fix 49 (Reg.notD rfl) (by decide), hI.fix 50 (Reg.notD rfl) (by decide), hI.fix 51 (Reg.notD rfl) (by decide), hI.fix 52 (Reg.notD rfl) (by decide), hI.fix 53 (Reg.notD rfl) (by decide), hI.fix 54 (Reg.notD rfl) (by decide), hI.fix 55 (Reg.notD rfl) (by decide), hI.fix 56 (Reg.notD rfl) (by decide), hI.fix 57 (Reg.notD rfl) (by decide), hI.fix 73 (Reg.notD rfl) (by decide), hI.fix 74 (Reg.notD rfl) (by decide), hI.fix 75 (Reg.notD rfl) (by decide), hI.fix 76 (Reg.notD rfl) (by decide), hI.fix 77 (Reg.notD rfl) (by decide), hI.fix 78 (Reg.notD rfl) (by decide), hI.fix 79 (Reg.notD rfl) (by decide), hI.fix 80 (Reg.notD rfl) (by decide), hI.fix 81 (Reg.notD rfl) (by decide), hI.fix 82 (Reg.notD rfl) (by decide), hI.fix 83 (Reg.notD rfl) (by decide), hI.fix 84 (Reg.notD rfl) (by decide), hI.fix 85 (Reg.notD rfl) (by decide), hI.fix 86 (Reg.notD rfl) (by decide), hI.fix 87 (Reg.notD rfl) (by decide), hI.fix 88 (Reg.notD rfl) (by decide), hI.fix 89 (Reg.notD rfl) (by decide), hI.fix 90 (Reg.notD rfl) (by decide), hI.fix 91 (Reg.notD rfl) (by decide), hI.fix 92 (Reg.notD rfl) (by decide), hI.fix 93 (Reg.notD rfl) (by decide), hI.fix 94 (Reg.notD rfl) (by decide), hI.fix 95 (Reg.notD rfl) (by decide), hI.fix 96 (Reg.notD rfl) (by decide), hI.fix 97 (Reg.notD rfl) (by decide), hI.fix 98 (Reg.notD rfl) (by decide), hI.fix 99 (Reg.notD rfl) (by decide), hI.fix 100 (Reg.notD rfl) (by decide), hI.fix 101 (Reg.notD rfl) (by decide), hI.fix 102 (Reg.notD rfl) (by decide), hI.fix 103 (Reg.notD rfl) (by decide), hI.fix 104 (Reg.notD rfl) (by decide), hI.fix 105 (Reg.notD rfl) (by decide), hI.fix 106 (Reg.notD rfl) (by decide), hI.fix 107 (Reg.notD rfl) (by decide), hI.fix 108 (Reg.notD rfl) (by decide), hI.fix 109 (Reg.notD rfl) (by decide), hI.fix 110 (Reg.notD rfl) (by decide), hI.fix 111 (Reg.notD rfl) (by decide), hI.fix 112 (Reg.notD rfl) (by decide), hI.fix 113 (Reg.notD rfl) (by decide), hI.fix 114 (Reg.notD rfl) (by decide), hI.fix 115 (Reg.notD rfl) (by decide), hI.fix 116 (Reg.notD rfl) (by decide), hI.fix 117 (Reg.notD rfl) (by decide), hI.fix 118 (Reg.notD rfl) (by decide), hI.fix 119 (Reg.notD rfl) (by decide), hI.fix 120 (Reg.notD rfl) (by decide), hI.fix 121 (Reg.notD rfl) (by decide), hI.fix 122 (Reg.notD rfl) (by decide), hI.fix 123 (Reg.notD rfl) (by decide), hI.fix 124 (Reg.notD rfl) (by decide), hI.fix 125 (Reg.notD rfl) (by decide), hI.fix 126 (Reg.notD rfl) (by decide), hI.fix 127 (Reg.notD rfl) (by decide), hI.fix 128 (Reg.notD rfl) (by decide), hI.fix 129 (Reg.notD rfl) (by decide), hI.fix 130 (Reg.notD rfl) (by decide), hI.fix 131 (Reg.notD rfl) (by decide), hq] at ea
    clear hI hall
    generalize a'.eval (.tmp 58) = u58 at ea
    generalize a'.eval (.tmp 59) = u59 at ea
    generalize a'.eval (.tmp 60) = u60 at ea
    generalize a'.eval (.tmp 61) = u61 at ea
    generalize a'.eval (.tmp 62) = u62 at ea
    generalize a'.eval (.tmp 63) = u63 at ea
    generalize a'.eval (.tmp 64) = u64 at ea
    generalize a'.eval (.tmp 65) = u65 at ea
    generalize a'.eval (.tmp 66) = u66 at ea
    generalize a'.eval (.tmp 67) = u67 at ea
    generalize a'.eval (.tmp 68) = u68 at ea
    generalize a'.eval (.tmp 69) = u69 at ea
    generalize a'.eval (.tmp 70) = u70 at ea
    generalize a'.eval (.tmp 71) = u71 at ea
    generalize a'.eval (.tmp 72) = u72 at ea
    simp only [show ∀ (ts : Array Value) (ds) (i : Nat), (Act.mk ts ds).eval (.tmp i) = ts.getD i undef from fun _ _ _ => rfl] at ea
    simp at ea
    subst ea
    have RT1 := hide (show RT w g n cap l0 f' w1 from hw.inv)
    have RQ := hide hr
    have szq := hw.siz
    have lq3 : w.heap.size + 3 ≤ q := by omega
    clear hw hr hq
    have s0 : w1.cell? ⟨q, 0, none⟩ = some (.int .i64 x.hand) := by have := RQ.out 0 _ rfl; simpa using this
    have s1 : w1.cell? ⟨q, 1, none⟩ = some (.int .i64 x.act) := by have := RQ.out 1 _ rfl; simpa using this
    have s2 : w1.cell? ⟨q, 2, none⟩ = some (.int .i64 x.at_) := by have := RQ.out 2 _ rfl; simpa using this
    have s3 : w1.cell? ⟨q, 3, none⟩ = some (.int .u64 x.had) := by have := RQ.out 3 _ rfl; simpa using this
    have s4 : w1.cell? ⟨q, 4, none⟩ = some (.int .u64 x.put) := by have := RQ.out 4 _ rfl; simpa using this
    have s5 : w1.cell? ⟨q, 5, none⟩ = some (.bool x.ok) := by have := RQ.out 5 _ rfl; simpa using this
    have hok := HOK.out
    have s5' : w1.cell? ⟨q, 5, none⟩ = some (.bool false) := by rw [s5, hok]
    clear s5 hok
    obtain ⟨V, hV⟩ : ∃ V, (w1.setCell ⟨w.heap.size, 12, none⟩ (.int .i64 0)) = V := ⟨_, rfl⟩
    have hset : (l0.set 12 (.int .i64 0)) = lt := by rw [← HL0.out, ← HLTE.out]; rfl
    have RTV := hide (show RT w g n cap lt f' V from by
      rw [← hV, ← hset]
      exact (RT1.out.set 12 (by omega) (.int .i64 0)))
    have tV : Touch w1 V (fun k => k = w.heap.size) := by
      rw [← hV]
      exact (Touch.setCell (S := fun k => k = w.heap.size) (Touch.refl w1 _) ⟨w.heap.size, 12, none⟩ (.inl rfl) _)
    have SV := hide (rangeAt_block RQ.out (tV.block q hq2 (by omega)))
    have lqV : q < V.heap.size := Nat.lt_of_lt_of_le hq2 tV.size
    clear tV
    have v5 : V.cell? ⟨q, 5, none⟩ = some (.bool false) := by have := SV.out 5 _ rfl; rw [HOK.out] at this; simpa using this
    have d12 := RT1.out.tk.cell (i := 12) (by omega)
    have df12 := RT1.out.frozen 12
    have lp1 : w.heap.size < w1.heap.size := by have := RT1.out.size; omega
    go_upto_region 15 with (fail)
    clear hV hset s0 s1 s2 s3 s4 s5'
    refine RG.region (ks := [(0, 77), (1, 78), (4, 6)]) (vals := fun i => match i with
          | 0 => .agg lt.toArray
          | 1 => .agg #[.int .i64 x.hand, .int .i64 x.act, .int .i64 x.at_, .int .u64 x.had, .int .u64 x.put, .bool x.ok]
          | 4 => .bool false
          | _ => undef) (x := 3) (WI := fun L v_ w' => RG.SM (fun _ w' => RD w g n cap lt f' (some q) x w') (w.heap.size + 1) (w.heap.size + 2) lt x true (L 2) (L 3) w') (by kernel_rfl) ?gg ?bk rfl ?dd ?xx (RG.SM.begin (c := true) (RD.drew (RD.of RTV.out (fun k e => by cases e; exact ⟨SV.out, lq3, lqV⟩))) (by rw [HLT.out]; exact rowIs.there RTV.out.rt.drew (by omega)) (rowIs.there RTV.out.rs.drew (by simp [Stp.cells]))) ?does ?fin
    case gg =>
      intro i o ho
      have hi : i < 5 := by have := (Array.getElem?_eq_some_iff.1 ho).1; simpa using this
      match i, hi with
      | 0, _ | 1, _ | 2, _ | 3, _ | 4, _ => injection ho with ho; subst ho; rfl
    case bk =>
      intro i o ho
      have hi : i < 5 := by have := (Array.getElem?_eq_some_iff.1 ho).1; simpa using this
      match i, hi with
      | 0, _ | 1, _ | 2, _ | 3, _ | 4, _ => injection ho with ho; subst ho; simp [Region.binds]
    case dd =>
      intro k hk
      have hk' : k < 132 := by
        simp [RetN.D] at hk
        omega
      simpa using hk'
    case xx => simp
    case does =>
      intro i o ho
      have hi : i < 5 := by have := (Array.getElem?_eq_some_iff.1 ho).1; simpa using this
      match i, hi with
      | 0, _ => injection ho with ho; subst ho; exact RG.Does.read rfl (fun L v_ w' h => RG.SM.skip2 (by decide) (by decide) h) (fun L a w' hI hd => ex_load_row rfl (hI.fix 2 (Reg.notD rfl) (by decide)) hI.world.inv.range HD.out.1 HD.out.2.1 (by rw [HLT.out]; exact size79))
      | 1, _ => injection ho with ho; subst ho; exact RG.Does.read rfl (fun L v_ w' h => RG.SM.skip2 (by decide) (by decide) h) (fun L a w' hI hd => ex_load_row rfl (hI.fix 9 (Reg.notD rfl) (by decide)) (hI.world.inv.var _ rfl).1 HD.out.2.2.1 HD.out.2.2.2 size46)
      | 2, _ => injection ho with ho; subst ho; exact RG.Does.put (ls := lt) rfl rfl rfl (by rw [HLT.out]; exact size79) HTK.out.2 (fun L a w' hI hL hd => ⟨(hI.pure 0 _ _ rfl (hd ⟨0, .data⟩ (by simp) rfl)), by obtain ⟨e2, e3⟩ := RG.SM.putC (fun c_ w1_ w2_ ht_ h_ => h_.touch ht_) (by omega) hI.world; exact ⟨w.heap.size + 1, 0, hI.fix 4 (Reg.notD rfl) (by decide), e2, by show RG.SM (fun _ w' => RD w g n cap lt f' (some q) x w') (w.heap.size + 1) (w.heap.size + 2) lt x true (upd L 2 true 2) (upd L 2 true 3) _; rw [upd_same, upd_other _ _ (show 3 ≠ 2 by decide)]; exact e3⟩⟩)
      | 3, _ => injection ho with ho; subst ho; exact RG.Does.put (ls := x.cells) rfl rfl rfl size46 (by simp [Stp.cells, Value.oneCell']) (fun L a w' hI hL hd => ⟨(hI.pure 1 _ _ rfl (hd ⟨1, .data⟩ (by simp) rfl)), by obtain ⟨e2, e3⟩ := RG.SM.putE (fun c_ w1_ w2_ ht_ h_ => h_.touch ht_) (by omega) hI.world rfl; exact ⟨w.heap.size + 2, 0, hI.fix 5 (Reg.notD rfl) (by decide), e2, by show RG.SM (fun _ w' => RD w g n cap lt f' (some q) x w') (w.heap.size + 1) (w.heap.size + 2) lt x true (upd L 3 true 2) (upd L 3 true 3) _; rw [upd_same, upd_other _ _ (show 2 ≠ 3 by decide)]; exact e3⟩⟩)
      | 4, _ => injection ho with ho; subst ho; exact RG.Does.read rfl (fun L v_ w' h => RG.SM.skip2 (by decide) (by decide) h) (fun L a w' hI hd => ex_assign rfl rfl)
    case fin =>
      intro L a' w' hI hall
      rename_i K2 hK2
      refine hK2 _ _ ?_
      have hw := hI.world
      simp only [hall 2 (by decide), hall 3 (by decide)] at hw
      have rC := hw.stoC rfl
      have rD := hw.stoE rfl
      have pC : a'.eval (.tmp 4) = .pointer (some ⟨w.heap.size + 1, 0, none⟩) := hI.fix 4 (Reg.notD rfl) (by decide)
      have pD : a'.eval (.tmp 5) = .pointer (some ⟨w.heap.size + 2, 0, none⟩) := hI.fix 5 (Reg.notD rfl) (by decide)
      have pe : a'.eval (.tmp 6) = .bool false := hI.pure 4 6 _ rfl (hall 4 (by decide))
      have hdf : a'.defers = [] := hI.df
      have hT := run_loadVar_mid (P := Tryz.prog) w' (w.heap.size + 1) 0 _ lt dT rC HD.out.1 HD.out.2.1 (by rw [HLT.out]; exact size79)
      have hS := run_loadVar_mid (P := Tryz.prog) w' (w.heap.size + 2) 0 _ _ dS rD HD.out.2.2.1 HD.out.2.2.2 size46
      have hres := results_cct (Q := Tryz.prog) (fn := Tryz.f35) (tmps := a'.tmps) (t := 4) (t' := 5) (t'' := 6) (W := w') (by rfl) pC hT pD hS
      rw [show a'.tmps.getD 6 undef = .bool false from pe] at hres
      go_wp2
      exact bodyPost_ret (v := .tuple #[.agg lt.toArray, x.val, .bool false]) hres hdf ⟨rfl, hw.inv.row, hw.inv.gro⟩
end Shd
end Go.Proofs.YtnodkeoikamonaaGreat
