/-
  Lemmas: VwRr.
-/
import Derived.Test.YtecjegjnnahddaaTp14
import Derived.Test.YtecjegjnnahddaaTp15
/-
  View: the document's right
-/
namespace Go.Proofs.Ytecjegjnnahddaa
open Go.RowKit
set_option linter.unusedVariables false
set_option linter.unusedSimpArgs false
set_option linter.unnecessarySimpa false
set_option maxRecDepth 20000
namespace Vw
open Shape

theorem lt_frame {ks : List (Nat × Nat)} {vals : Nat → Value} {WI : World → Prop} {a0 a : Act} {L : Nat → Bool} {w : World} (h : Lt.In ks vals WI a0 L a w) (l : List Nat) (hl : (ks.all fun p => l.contains p.2) = true) (hs : ∀ x, x ∈ l → x < a0.tmps.size) : a = LtH.lay a l a0 := by
  refine LtH.act_ext ?_ ?_ ?_
  · rw [(LtH.lay_size a l a0).1]; exact h.sz
  · rw [(LtH.lay_size a l a0).2]; exact h.df
  · intro k
    rw [LtH.lay_eval a l a0 k hs]
    by_cases hk : k ∈ l
    · simp [hk]
    · simp only [hk, if_false]
      refine h.fix k (fun hD => ?_)
      simp only [Lt.D, List.any_eq_true, beq_iff_eq] at hD
      obtain ⟨p, hp, e⟩ := hD
      simp only [List.all_eq_true] at hl
      have := hl p hp
      rw [e] at this
      simp [hk] at this
theorem rngL {w : World} {b n : Nat} {T : TypeId} {l : List Value} (R : w.rowIs b T n (lrow l)) (hn : n = l.length) : w.rangeAt b 0 l := by
  intro j v hv
  have hj : j < l.length := (List.getElem?_eq_some_iff.1 hv).1
  have h := R.cell (i := j) (by omega)
  simp only [Nat.zero_add]
  rw [h]
  simp [lrow, hv]
theorem ex_idx1 {ev : Operand → Value} {o : Oper} {w : World} {x y : Operand} {b off n cap k : Nat} (ho : o.op = .indexAddr 24 x y) (hx : ev x = .slice (some ⟨b, off, none⟩) n cap) (hy : ev y = .int .i64 (k : Int)) (hk : (k : Int) < (n : Int)) (hn : n ≤ 70000) : (execOp ev o).run Try.prog w = .ok (.value (.pointer (some ⟨b, off + k, none⟩))) w := by
  simp [execOp, ho, hx, hy, go_sem, hk]
theorem ex_neqU {ev : Operand → Value} {o : Oper} {w : World} {x y : Operand} {u : Int} (ho : o.op = .binOp .neq 27 x y 27) (hx : ev x = .int .u64 u) (hy : ev y = .int .u64 0) (hu : (u != 0) = true) : (execOp ev o).run Try.prog w = .ok (.value (.bool true)) w := by
  simp [execOp, ho, hx, hy, go_sem]
  simpa using hu
set_option maxHeartbeats 4000000 in
theorem right_ok {c : Cv} {a : Av} {w : World} (hS : Shows w c a) (hc : c.Ok) {ao : Option Addr} {n cap : Nat} {g : Nat → Int} (hs : Sees w w.heap.size ao n g) (hnB : n ≤ 70000) (hg : ∀ i, i < n → 0 ≤ g i ∧ g i < 18446744073709551616) : Calls Try.prog 65 #[vl c a, .slice ao n cap] w fun e w' => Tells e (∀ i, i < n → hOk c (g i)) ∧ Below w.heap.size w w' := by
  obtain ⟨aa, ca, ra, cr, wa, cw, oa, cb, fa, cf, ga, cg, qa, cq⟩ := a
  have GD := hide (fun (V : World) (hV : Below w.heap.size w V) (u : Int) (h0 : 0 ≤ u) (h1 : u < 18446744073709551616) => good13 (hS.below hV) hc h0 h1)
  simp only [vl] at GD ⊢
  obtain ⟨W0, hW0, B0, R0⟩ := vbox w c ⟨aa, ca, ra, cr, wa, cw, oa, cb, fa, cf, ga, cg, qa, cq⟩
  simp only at hW0 R0
  have HB := hide B0
  have RX := hide R0
  have HG := hide hg
  have HSE := hide (sees_on hs B0)
  have l0 : w.heap.size < W0.heap.size := R0.lt
  clear B0 R0 hS hc hs hg
  go_enter Try.func65, Try.ntmps65
  go_wp2_with fail
  go_loopw [5] (fun i wr => ∃ k : Nat, k ≤ n ∧ i = .int .i64 k ∧ Hid (∀ q, q < k → hOk c (g q)) ∧ Hid (Below W0.heap.size W0 wr)) (fun i _ => n - (intOf i).toNat)
  case atStart => exact ⟨0, Nat.zero_le _, rfl, fun q hq => absurd hq (by omega), Below.refl _ _⟩
  case round =>
    obtain ⟨k, hk, rfl, HK, HW⟩ := hrel
    by_cases hlt : k < n
    · obtain ⟨b, off, rfl, hbl, hcc⟩ := (sees_on HSE.out HW.out) k hlt
      have hkn : (k : Int) < (n : Int) := by omega
      by_cases he : g k = 0
      · have he2 : (g k != 0) = false := by simp [he]
        have HE := hide (show hOk c (g k) from fun h => absurd he h)
        clear he
        go_upto_region 4 with (fail)
        go_quiet (fail)
        go_wp2_with fail
        go_roundw
        case rel => exact ⟨k + 1, by omega, by go_num, fun q hq => by (by_cases e : q < k); exact HK.out q e; (cases (show q = k by omega)); exact HE.out, below_drewN HW.out _⟩
        case measure => simp [intOf]; omega
      · have hu0 : (g k != 0) = true := by simp [he]
        have HE := hide he
        clear he
        by_cases hgd : good c (g k)
        · have GO := hide (fun (V : World) (hV : Below wr.heap.size wr V) => call_yes (GD.out V (HB.out.trans ((HW.out.trans (hV.mono HW.out.size)).mono HB.out.size)) (g k) (HG.out k hlt).1 (HG.out k hlt).2) hgd)
          have HGD := hide hgd
          clear hgd
          go_upto_region 4 with (fail)
          refine Lt.region (ks := [(0, 12), (1, 13), (2, 14), (3, 15), (4, 16), (5, 17), (6, 18), (7, 19), (8, 20), (9, 21), (10, 22), (11, 23), (12, 24), (13, 25)]) (vals := fun iv => match iv with
              | 0 => .slice (some ⟨b, off, none⟩) n cap
              | 1 => .int .i64 (k : Int)
              | 2 => .pointer (some ⟨b, off + k, none⟩)
              | 3 => .int .u64 (g k)
              | 4 => .bool true
              | 5 => .bool true
              | 6 => .agg #[.int .i64 c.ph, .int .i64 c.co, .int .u64 c.ro, .slice aa c.na ca, .slice ra c.nr cr, .slice wa c.nw cw, .slice oa c.no cb, .slice fa c.fr.length cf, .slice ga c.gr.length cg, .slice qa c.qu.length cq, .int .u64 (c.cn 0), .int .u64 (c.cn 1), .int .u64 (c.cn 2), .int .u64 (c.cn 3)]
              | 7 => .slice (some ⟨b, off, none⟩) n cap
              | 8 => .int .i64 (k : Int)
              | 9 => .pointer (some ⟨b, off + k, none⟩)
              | 10 => .int .u64 (g k)
              | 11 => .bool true
              | 12 => .bool false
              | 13 => .bool false
              | _ => undef) (WI := fun w' => Below wr.heap.size wr w') (by kernel_rfl) ?bk rfl ?dd (⟨rfl, rfl, rfl, Nat.le_refl _, fun _ _ => rfl⟩) ?does ?fin
          case bk =>
            intro iq oq ho
            have hiq : iq < 14 := by have := (Array.getElem?_eq_some_iff.1 ho).1; simpa using this
            match iq, hiq with
            | 0, _ | 1, _ | 2, _ | 3, _ | 4, _ | 5, _ | 6, _ | 7, _ | 8, _ | 9, _ | 10, _ | 11, _ | 12, _ | 13, _ => injection ho with ho; subst ho; simp [Region.binds]
          case dd =>
            intro k hk
            have hk' : k < 26 := by
              simp [Lt.D] at hk
              omega
            simpa using hk'
          case does =>
            intro iq oq ho
            have hiq : iq < 14 := by have := (Array.getElem?_eq_some_iff.1 ho).1; simpa using this
            match iq, hiq with
            | 0, _ => injection ho with ho; subst ho; exact Lt.Does.read rfl (fun Lq aq w' hI hq => Lt.wn0 rfl) (fun Lq aq w' hI hq => Lt.ex_move rfl (hI.fix 1 (Lt.notD rfl)))
            | 1, _ => injection ho with ho; subst ho; exact Lt.Does.read rfl (fun Lq aq w' hI hq => Lt.wn0 rfl) (fun Lq aq w' hI hq => Lt.ex_move rfl (hI.fix 5 (Lt.notD rfl)))
            | 2, _ => injection ho with ho; subst ho; exact Lt.Does.read rfl (fun Lq aq w' hI hq => Lt.wn0 rfl) (fun Lq aq w' hI hq => ex_idx1 rfl (hI.pure 0 _ _ rfl (hq ⟨0, .data⟩ (by simp) rfl)) (hI.pure 1 _ _ rfl (hq ⟨1, .data⟩ (by simp) rfl)) hkn hnB)
            | 3, _ => injection ho with ho; subst ho; exact Lt.Does.read rfl (fun Lq aq w' hI hq => Lt.wn0 rfl) (fun Lq aq w' hI hq => Lt.ex_load rfl (hI.pure 2 _ _ rfl (hq ⟨2, .data⟩ (by simp) rfl)) (by simp [go_sem]) ((hI.world.cell (p := ⟨b, off + k, none⟩) hbl).trans hcc))
            | 4, _ => injection ho with ho; subst ho; exact Lt.Does.read rfl (fun Lq aq w' hI hq => Lt.wn0 rfl) (fun Lq aq w' hI hq => ex_neqU rfl (hI.pure 3 _ _ rfl (hq ⟨3, .data⟩ (by simp) rfl)) rfl hu0)
            | 5, _ => injection ho with ho; subst ho; exact Lt.Does.read rfl (fun Lq aq w' hI hq => Lt.wn0 rfl) (fun Lq aq w' hI hq => Lt.ex_move rfl (hI.pure 4 _ _ rfl (hq ⟨4, .data⟩ (by simp) rfl)))
            | 6, _ => injection ho with ho; subst ho; exact Lt.Does.read rfl (fun Lq aq w' hI hq => Lt.wnG (d := 17) (c := true) rfl rfl (hI.pure 5 _ _ rfl (hq ⟨5, .guard⟩ (by simp) rfl)) rfl) (fun Lq aq w' hI hq => Lt.ex_load_row rfl (hI.fix 2 (Lt.notD rfl)) (rngL (row_on RX.out (HW.out.trans (hI.world.mono HW.out.size))) rfl) (by kernel_rfl) (by kernel_rfl))
            | 7, _ => injection ho with ho; subst ho; exact Lt.Does.read rfl (fun Lq aq w' hI hq => Lt.wnG (d := 17) (c := true) rfl rfl (hI.pure 5 _ _ rfl (hq ⟨5, .guard⟩ (by simp) rfl)) rfl) (fun Lq aq w' hI hq => Lt.ex_move rfl (hI.fix 1 (Lt.notD rfl)))
            | 8, _ => injection ho with ho; subst ho; exact Lt.Does.read rfl (fun Lq aq w' hI hq => Lt.wnG (d := 17) (c := true) rfl rfl (hI.pure 5 _ _ rfl (hq ⟨5, .guard⟩ (by simp) rfl)) rfl) (fun Lq aq w' hI hq => Lt.ex_move rfl (hI.fix 5 (Lt.notD rfl)))
            | 9, _ => injection ho with ho; subst ho; exact Lt.Does.read rfl (fun Lq aq w' hI hq => Lt.wnG (d := 17) (c := true) rfl rfl (hI.pure 5 _ _ rfl (hq ⟨5, .guard⟩ (by simp) rfl)) rfl) (fun Lq aq w' hI hq => ex_idx1 rfl (hI.pure 7 _ _ rfl (hq ⟨7, .data⟩ (by simp) rfl)) (hI.pure 8 _ _ rfl (hq ⟨8, .data⟩ (by simp) rfl)) hkn hnB)
            | 10, _ => injection ho with ho; subst ho; exact Lt.Does.read rfl (fun Lq aq w' hI hq => Lt.wnG (d := 17) (c := true) rfl rfl (hI.pure 5 _ _ rfl (hq ⟨5, .guard⟩ (by simp) rfl)) rfl) (fun Lq aq w' hI hq => Lt.ex_load rfl (hI.pure 9 _ _ rfl (hq ⟨9, .data⟩ (by simp) rfl)) (by simp [go_sem]) ((hI.world.cell (p := ⟨b, off + k, none⟩) hbl).trans hcc))
            | 11, _ => injection ho with ho; subst ho; exact Lt.Does.call rfl (fun Lq aq w' hI hq => Lt.wnG (d := 17) (c := true) rfl rfl (hI.pure 5 _ _ rfl (hq ⟨5, .guard⟩ (by simp) rfl)) rfl) (fun Lq aq w' hI hq => Lt.call2 rfl (hI.pure 6 _ _ rfl (hq ⟨6, .data⟩ (by simp) rfl)) (hI.pure 10 _ _ rfl (hq ⟨10, .data⟩ (by simp) rfl)) rfl (by simp [go_sem])) (fun w1 hw1 => (GO.out w1 hw1).mono (by rintro e w2 ⟨rfl, hb⟩; exact ⟨rfl, hw1.trans (hb.mono hw1.size)⟩))
            | 12, _ => injection ho with ho; subst ho; exact Lt.Does.read rfl (fun Lq aq w' hI hq => Lt.wnG (d := 17) (c := true) rfl rfl (hI.pure 5 _ _ rfl (hq ⟨5, .guard⟩ (by simp) rfl)) rfl) (fun Lq aq w' hI hq => ex_not rfl (hI.pure 11 _ _ rfl (hq ⟨11, .data⟩ (by simp) rfl)))
            | 13, _ => injection ho with ho; subst ho; exact Lt.Does.read rfl (fun Lq aq w' hI hq => Lt.wn0 rfl) (fun Lq aq w' hI hq => Lt.ex_pick (b := true) rfl (hI.pure 5 _ _ rfl (hq ⟨5, .data⟩ (by simp) rfl)) (by first | exact (hI.pure 12 _ _ rfl (hq ⟨12, .data⟩ (by simp) rfl)) | simpa using (hI.pure 12 _ _ rfl (hq ⟨12, .data⟩ (by simp) rfl))))
          case fin =>
            intro Lq a' w' hI hall
            have HF := hide hI.world
            have hfr := lt_frame hI [12, 13, 14, 15, 16, 17, 18, 19, 20, 21, 22, 23, 24, 25] rfl (fun x hx => by simp at hx ⊢; omega)
            have e12 : a'.eval (.tmp 12) = _ := hI.pure 0 _ _ rfl (hall 0 (by decide))
            have e13 : a'.eval (.tmp 13) = _ := hI.pure 1 _ _ rfl (hall 1 (by decide))
            have e14 : a'.eval (.tmp 14) = _ := hI.pure 2 _ _ rfl (hall 2 (by decide))
            have e15 : a'.eval (.tmp 15) = _ := hI.pure 3 _ _ rfl (hall 3 (by decide))
            have e16 : a'.eval (.tmp 16) = _ := hI.pure 4 _ _ rfl (hall 4 (by decide))
            have e17 : a'.eval (.tmp 17) = _ := hI.pure 5 _ _ rfl (hall 5 (by decide))
            have e18 : a'.eval (.tmp 18) = _ := hI.pure 6 _ _ rfl (hall 6 (by decide))
            have e19 : a'.eval (.tmp 19) = _ := hI.pure 7 _ _ rfl (hall 7 (by decide))
            have e20 : a'.eval (.tmp 20) = _ := hI.pure 8 _ _ rfl (hall 8 (by decide))
            have e21 : a'.eval (.tmp 21) = _ := hI.pure 9 _ _ rfl (hall 9 (by decide))
            have e22 : a'.eval (.tmp 22) = _ := hI.pure 10 _ _ rfl (hall 10 (by decide))
            have e23 : a'.eval (.tmp 23) = _ := hI.pure 11 _ _ rfl (hall 11 (by decide))
            have e24 : a'.eval (.tmp 24) = _ := hI.pure 12 _ _ rfl (hall 12 (by decide))
            have e25 : a'.eval (.tmp 25) = _ := hI.pure 13 _ _ rfl (hall 13 (by decide))
            rw [hfr]
            simp only [LtH.lay, List.foldl, e12, e13, e14, e15, e16, e17, e18, e19, e20, e21, e22, e23, e24, e25]
            clear hfr hI hall e12 e13 e14 e15 e16 e17 e18 e19 e20 e21 e22 e23 e24 e25
            simp only [Act.put, List.setIfInBounds_toArray, List.set_cons_succ, List.set_cons_zero]
            go_wp2_with fail
            go_roundw
            case rel => exact ⟨k + 1, by omega, by go_num, fun q hq => by (by_cases e : q < k); exact HK.out q e; (cases (show q = k by omega)); exact fun _ => HGD.out, HW.out.trans (HF.out.mono HW.out.size)⟩
            case measure => simp [intOf]; omega
        · have GO := hide (fun (V : World) (hV : Below wr.heap.size wr V) => call_no (GD.out V (HB.out.trans ((HW.out.trans (hV.mono HW.out.size)).mono HB.out.size)) (g k) (HG.out k hlt).1 (HG.out k hlt).2) hgd)
          have HGD := hide hgd
          clear hgd
          go_upto_region 4 with (fail)
          refine Lt.region (ks := [(0, 12), (1, 13), (2, 14), (3, 15), (4, 16), (5, 17), (6, 18), (7, 19), (8, 20), (9, 21), (10, 22), (11, 23), (12, 24), (13, 25)]) (vals := fun iv => match iv with
              | 0 => .slice (some ⟨b, off, none⟩) n cap
              | 1 => .int .i64 (k : Int)
              | 2 => .pointer (some ⟨b, off + k, none⟩)
              | 3 => .int .u64 (g k)
              | 4 => .bool true
              | 5 => .bool true
              | 6 => .agg #[.int .i64 c.ph, .int .i64 c.co, .int .u64 c.ro, .slice aa c.na ca, .slice ra c.nr cr, .slice wa c.nw cw, .slice oa c.no cb, .slice fa c.fr.length cf, .slice ga c.gr.length cg, .slice qa c.qu.length cq, .int .u64 (c.cn 0), .int .u64 (c.cn 1), .int .u64 (c.cn 2), .int .u64 (c.cn 3)]
              | 7 => .slice (some ⟨b, off, none⟩) n cap
              | 8 => .int .i64 (k : Int)
              | 9 => .pointer (some ⟨b, off + k, none⟩)
              | 10 => .int .u64 (g k)
              | 11 => .bool false
              | 12 => .bool true
              | 13 => .bool true
              | _ => undef) (WI := fun w' => Below wr.heap.size wr w') (by kernel_rfl) ?bk rfl ?dd (⟨rfl, rfl, rfl, Nat.le_refl _, fun _ _ => rfl⟩) ?does ?fin
          case bk =>
            intro iq oq ho
            have hiq : iq < 14 := by have := (Array.getElem?_eq_some_iff.1 ho).1; simpa using this
            match iq, hiq with
            | 0, _ | 1, _ | 2, _ | 3, _ | 4, _ | 5, _ | 6, _ | 7, _ | 8, _ | 9, _ | 10, _ | 11, _ | 12, _ | 13, _ => injection ho with ho; subst ho; simp [Region.binds]
          case dd =>
            intro k hk
            have hk' : k < 26 := by
              simp [Lt.D] at hk
              omega
            simpa using hk'
          case does =>
            intro iq oq ho
            have hiq : iq < 14 := by have := (Array.getElem?_eq_some_iff.1 ho).1; simpa using this
            match iq, hiq with
            | 0, _ => injection ho with ho; subst ho; exact Lt.Does.read rfl (fun Lq aq w' hI hq => Lt.wn0 rfl) (fun Lq aq w' hI hq => Lt.ex_move rfl (hI.fix 1 (Lt.notD rfl)))
            | 1, _ => injection ho with ho; subst ho; exact Lt.Does.read rfl (fun Lq aq w' hI hq => Lt.wn0 rfl) (fun Lq aq w' hI hq => Lt.ex_move rfl (hI.fix 5 (Lt.notD rfl)))
            | 2, _ => injection ho with ho; subst ho; exact Lt.Does.read rfl (fun Lq aq w' hI hq => Lt.wn0 rfl) (fun Lq aq w' hI hq => ex_idx1 rfl (hI.pure 0 _ _ rfl (hq ⟨0, .data⟩ (by simp) rfl)) (hI.pure 1 _ _ rfl (hq ⟨1, .data⟩ (by simp) rfl)) hkn hnB)
            | 3, _ => injection ho with ho; subst ho; exact Lt.Does.read rfl (fun Lq aq w' hI hq => Lt.wn0 rfl) (fun Lq aq w' hI hq => Lt.ex_load rfl (hI.pure 2 _ _ rfl (hq ⟨2, .data⟩ (by simp) rfl)) (by simp [go_sem]) ((hI.world.cell (p := ⟨b, off + k, none⟩) hbl).trans hcc))
            | 4, _ => injection ho with ho; subst ho; exact Lt.Does.read rfl (fun Lq aq w' hI hq => Lt.wn0 rfl) (fun Lq aq w' hI hq => ex_neqU rfl (hI.pure 3 _ _ rfl (hq ⟨3, .data⟩ (by simp) rfl)) rfl hu0)
            | 5, _ => injection ho with ho; subst ho; exact Lt.Does.read rfl (fun Lq aq w' hI hq => Lt.wn0 rfl) (fun Lq aq w' hI hq => Lt.ex_move rfl (hI.pure 4 _ _ rfl (hq ⟨4, .data⟩ (by simp) rfl)))
            | 6, _ => injection ho with ho; subst ho; exact Lt.Does.read rfl (fun Lq aq w' hI hq => Lt.wnG (d := 17) (c := true) rfl rfl (hI.pure 5 _ _ rfl (hq ⟨5, .guard⟩ (by simp) rfl)) rfl) (fun Lq aq w' hI hq => Lt.ex_load_row rfl (hI.fix 2 (Lt.notD rfl)) (rngL (row_on RX.out (HW.out.trans (hI.world.mono HW.out.size))) rfl) (by kernel_rfl) (by kernel_rfl))
            | 7, _ => injection ho with ho; subst ho; exact Lt.Does.read rfl (fun Lq aq w' hI hq => Lt.wnG (d := 17) (c := true) rfl rfl (hI.pure 5 _ _ rfl (hq ⟨5, .guard⟩ (by simp) rfl)) rfl) (fun Lq aq w' hI hq => Lt.ex_move rfl (hI.fix 1 (Lt.notD rfl)))
            | 8, _ => injection ho with ho; subst ho; exact Lt.Does.read rfl (fun Lq aq w' hI hq => Lt.wnG (d := 17) (c := true) rfl rfl (hI.pure 5 _ _ rfl (hq ⟨5, .guard⟩ (by simp) rfl)) rfl) (fun Lq aq w' hI hq => Lt.ex_move rfl (hI.fix 5 (Lt.notD rfl)))
            | 9, _ => injection ho with ho; subst ho; exact Lt.Does.read rfl (fun Lq aq w' hI hq => Lt.wnG (d := 17) (c := true) rfl rfl (hI.pure 5 _ _ rfl (hq ⟨5, .guard⟩ (by simp) rfl)) rfl) (fun Lq aq w' hI hq => ex_idx1 rfl (hI.pure 7 _ _ rfl (hq ⟨7, .data⟩ (by simp) rfl)) (hI.pure 8 _ _ rfl (hq ⟨8, .data⟩ (by simp) rfl)) hkn hnB)
            | 10, _ => injection ho with ho; subst ho; exact Lt.Does.read rfl (fun Lq aq w' hI hq => Lt.wnG (d := 17) (c := true) rfl rfl (hI.pure 5 _ _ rfl (hq ⟨5, .guard⟩ (by simp) rfl)) rfl) (fun Lq aq w' hI hq => Lt.ex_load rfl (hI.pure 9 _ _ rfl (hq ⟨9, .data⟩ (by simp) rfl)) (by simp [go_sem]) ((hI.world.cell (p := ⟨b, off + k, none⟩) hbl).trans hcc))
            | 11, _ => injection ho with ho; subst ho; exact Lt.Does.call rfl (fun Lq aq w' hI hq => Lt.wnG (d := 17) (c := true) rfl rfl (hI.pure 5 _ _ rfl (hq ⟨5, .guard⟩ (by simp) rfl)) rfl) (fun Lq aq w' hI hq => Lt.call2 rfl (hI.pure 6 _ _ rfl (hq ⟨6, .data⟩ (by simp) rfl)) (hI.pure 10 _ _ rfl (hq ⟨10, .data⟩ (by simp) rfl)) rfl (by simp [go_sem])) (fun w1 hw1 => (GO.out w1 hw1).mono (by rintro e w2 ⟨rfl, hb⟩; exact ⟨rfl, hw1.trans (hb.mono hw1.size)⟩))
            | 12, _ => injection ho with ho; subst ho; exact Lt.Does.read rfl (fun Lq aq w' hI hq => Lt.wnG (d := 17) (c := true) rfl rfl (hI.pure 5 _ _ rfl (hq ⟨5, .guard⟩ (by simp) rfl)) rfl) (fun Lq aq w' hI hq => ex_not rfl (hI.pure 11 _ _ rfl (hq ⟨11, .data⟩ (by simp) rfl)))
            | 13, _ => injection ho with ho; subst ho; exact Lt.Does.read rfl (fun Lq aq w' hI hq => Lt.wn0 rfl) (fun Lq aq w' hI hq => Lt.ex_pick (b := true) rfl (hI.pure 5 _ _ rfl (hq ⟨5, .data⟩ (by simp) rfl)) (by first | exact (hI.pure 12 _ _ rfl (hq ⟨12, .data⟩ (by simp) rfl)) | simpa using (hI.pure 12 _ _ rfl (hq ⟨12, .data⟩ (by simp) rfl))))
          case fin =>
            intro Lq a' w' hI hall
            have HF := hide hI.world
            have hfr := lt_frame hI [12, 13, 14, 15, 16, 17, 18, 19, 20, 21, 22, 23, 24, 25] rfl (fun x hx => by simp at hx ⊢; omega)
            have e12 : a'.eval (.tmp 12) = _ := hI.pure 0 _ _ rfl (hall 0 (by decide))
            have e13 : a'.eval (.tmp 13) = _ := hI.pure 1 _ _ rfl (hall 1 (by decide))
            have e14 : a'.eval (.tmp 14) = _ := hI.pure 2 _ _ rfl (hall 2 (by decide))
            have e15 : a'.eval (.tmp 15) = _ := hI.pure 3 _ _ rfl (hall 3 (by decide))
            have e16 : a'.eval (.tmp 16) = _ := hI.pure 4 _ _ rfl (hall 4 (by decide))
            have e17 : a'.eval (.tmp 17) = _ := hI.pure 5 _ _ rfl (hall 5 (by decide))
            have e18 : a'.eval (.tmp 18) = _ := hI.pure 6 _ _ rfl (hall 6 (by decide))
            have e19 : a'.eval (.tmp 19) = _ := hI.pure 7 _ _ rfl (hall 7 (by decide))
            have e20 : a'.eval (.tmp 20) = _ := hI.pure 8 _ _ rfl (hall 8 (by decide))
            have e21 : a'.eval (.tmp 21) = _ := hI.pure 9 _ _ rfl (hall 9 (by decide))
            have e22 : a'.eval (.tmp 22) = _ := hI.pure 10 _ _ rfl (hall 10 (by decide))
            have e23 : a'.eval (.tmp 23) = _ := hI.pure 11 _ _ rfl (hall 11 (by decide))
            have e24 : a'.eval (.tmp 24) = _ := hI.pure 12 _ _ rfl (hall 12 (by decide))
            have e25 : a'.eval (.tmp 25) = _ := hI.pure 13 _ _ rfl (hall 13 (by decide))
            rw [hfr]
            simp only [LtH.lay, List.foldl, e12, e13, e14, e15, e16, e17, e18, e19, e20, e21, e22, e23, e24, e25]
            clear hfr hI hall e12 e13 e14 e15 e16 e17 e18 e19 e20 e21 e22 e23 e24 e25
            simp only [Act.put, List.setIfInBounds_toArray, List.set_cons_succ, List.set_cons_zero]
            go_wp2_with fail
            go_ret
            exact ⟨Tells.no (fun h => HGD.out (h k hlt HE.out)), HB.out.trans ((HW.out.trans (HF.out.mono HW.out.size)).mono HB.out.size)⟩
    · have hkn : ¬ (k : Int) < (n : Int) := by omega
      go_wp2_with fail
      go_ret
      exact ⟨Tells.yes (fun q hq => HK.out q (by omega)), HB.out.trans (HW.out.mono HB.out.size)⟩
end Vw
end Go.Proofs.Ytecjegjnnahddaa
