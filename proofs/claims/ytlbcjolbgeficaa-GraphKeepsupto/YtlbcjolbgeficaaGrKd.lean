/-
  Graph: GraphKeeps: copied, walked
-/
import Derived.Test.YtlbcjolbgeficaaGrKc
namespace Go.Proofs.Ytlbcjolbgeficaa
open Go.RowKit
set_option linter.unusedVariables false
set_option linter.unusedSimpArgs false
set_option linter.unnecessarySimpa false
set_option maxRecDepth 20000
namespace Gr
theorem owns_nil0 {w : World} {z : Nat} {e : TypeId} {size : Nat} (hz : z ≤ w.heap.size) : (w.alloc (.cells #[] e)).ownsRow z e size (.slice (some ⟨w.heap.size, 0, none⟩) 0 0) 0 [] := by
  have := World.ownsRow_lit (base := z) (e := e) (size := size) w #[] 0 hz (by unfold maxLen; omega) (by simp)
  simpa using this
theorem below_new {w w' : World} {z : Nat} {o : Obj} {r : Option Nat} (hz : z ≤ w.heap.size) (g : (w.alloc o).grownBy w' r) (hr : ∀ x, r = some x → z ≤ x) : Below z w w' :=
  ((Below.refl z w).alloc hz o).trans ⟨g.os, g.tape, g.output, g.size, fun k hk => g.block k (by simp; omega) (fun e => by have := hr k e.symm; omega)⟩
theorem one_val {v u : Value} {q : Nat} (h : [v][q]? = some u) : q = 0 ∧ u = v := by
  match q, h with
  | 0, h => exact ⟨rfl, by simpa using h.symm⟩
/-- What a copy tells. -/
def Ct (w w' : World) (e : Ending) (c : Vc) (a : Av) : Prop := ∃ ra cr oa cb qa cq, e = .returned (vl c { a with ra := ra, cr := cr, oa := oa, cb := cb, qa := qa, cq := cq }) ∧ Cp w' w.heap.size c { a with ra := ra, cr := cr, oa := oa, cb := cb, qa := qa, cq := cq } ∧ Below w.heap.size w w'

set_option maxHeartbeats 16000000 in
theorem copied_ok {c : Vc} {a : Av} {w : World} (hS : Shows w c a) (hZ : Sz c) (hN : Ncv w c a) : Calls Try.prog 6 #[vl c a] w fun e w' => Ct w w' e c a := by
  obtain ⟨W0, hW0, B0, R0⟩ := vbox w c a
  have HSw := hide hS
  have HS0 := hide (hS.below B0)
  have HN0 := hide (hN.below hS B0)
  have HZ := hide hZ
  have hnr := hZ.nr
  have hno := hZ.no
  have hnq := hZ.nq
  obtain ⟨iU, hiU, hzU, hsU, hyU⟩ := infoU
  obtain ⟨iI, hiI, hzI, hsI, hyI⟩ := infoI
  obtain ⟨iS, hiS, hzS, hsS, hyS⟩ := infoS
  obtain ⟨iO, zO, hiO, hzO, hsO, hyO, hcO⟩ := infoO
  obtain ⟨W1, hW1⟩ : ∃ W1, W0.alloc (.cells #[.int .i64 0, .int .i64 0, .int .u64 0, .slice none 0 0, .slice none 0 0, .slice none 0 0, .slice none 0 0, .slice none 0 0, .slice none 0 0, .slice none 0 0, .int .u64 0, .int .u64 0, .int .u64 0, .int .u64 0] 29) = W1 := ⟨_, rfl⟩
  have R1 := hide (show W1.rowIs W0.heap.size 29 14 (lrow [.int .i64 0, .int .i64 0, .int .u64 0, .slice none 0 0, .slice none 0 0, .slice none 0 0, .slice none 0 0, .slice none 0 0, .slice none 0 0, .slice none 0 0, .int .u64 0, .int .u64 0, .int .u64 0, .int .u64 0]) from by rw [← hW1]; exact rowL_alloc W0 [.int .i64 0, .int .i64 0, .int .u64 0, .slice none 0 0, .slice none 0 0, .slice none 0 0, .slice none 0 0, .slice none 0 0, .slice none 0 0, .slice none 0 0, .int .u64 0, .int .u64 0, .int .u64 0, .int .u64 0] _ rfl)
  have B1 : Below W0.heap.size W0 W1 := by rw [← hW1]; exact (Below.refl _ W0).alloc (Nat.le_refl _) _
  have RV := hide (row_on R0 B1)
  have s0 : w.heap.size < W0.heap.size := R0.lt
  have s1 : W0.heap.size < W1.heap.size := R1.out.lt
  have HS1 := hide (HS0.out.below B1)
  have HN1 := hide (HN0.out.below HS0.out B1)
  have BW := hide (show Below w.heap.size w W1 from B0.trans (B1.mono (by omega)))
  clear hS hZ hN B0 B1 R0 HS0 HN0
  obtain ⟨ph, co, ro, aa, na, ca, ra, cr, wa, nw, cw, oa, cb, fa, nf, cf, ga, ng, cg, qa, cq, k0, k1, k2, k3⟩ := a
  simp only [vl, vcl] at RV hW0 ⊢
  obtain ⟨n, hn⟩ : ∃ n, c.os.length = n := ⟨_, rfl⟩
  obtain ⟨nr, hnre⟩ : ∃ nr, c.rs.length = nr := ⟨_, rfl⟩
  obtain ⟨nqz, hnqe⟩ : ∃ nqz, c.qu.length = nqz := ⟨_, rfl⟩
  rw [hn, hnre, hnqe] at RV hW0 ⊢
  rw [hn] at hno
  rw [hnre] at hnr
  rw [hnqe] at hnq
  have Hn := hide hn
  have Hnr := hide hnre
  have Hnq := hide hnqe
  clear hn hnre hnqe
  obtain ⟨z, hz⟩ : ∃ z, W1.heap.size = z := ⟨_, rfl⟩
  obtain ⟨rb, hrb⟩ : ∃ rb, W0.heap.size = rb := ⟨_, rfl⟩
  have Hz := hide hz
  have VF := hide (fun (wx : World) (hb : Below z W1 wx) => show wx.cell? ⟨w.heap.size, 0, none⟩ = some (.int .i64 ph) ∧ wx.cell? ⟨w.heap.size, 1, none⟩ = some (.int .i64 co) ∧ wx.cell? ⟨w.heap.size, 2, none⟩ = some (.int .u64 ro) ∧ wx.cell? ⟨w.heap.size, 3, none⟩ = some (.slice aa na ca) ∧ wx.cell? ⟨w.heap.size, 4, none⟩ = some (.slice ra nr cr) ∧ wx.cell? ⟨w.heap.size, 5, none⟩ = some (.slice wa nw cw) ∧ wx.cell? ⟨w.heap.size, 6, none⟩ = some (.slice oa n cb) ∧ wx.cell? ⟨w.heap.size, 7, none⟩ = some (.slice fa nf cf) ∧ wx.cell? ⟨w.heap.size, 8, none⟩ = some (.slice ga ng cg) ∧ wx.cell? ⟨w.heap.size, 9, none⟩ = some (.slice qa nqz cq) ∧ wx.cell? ⟨w.heap.size, 10, none⟩ = some (.int .u64 k0) ∧ wx.cell? ⟨w.heap.size, 11, none⟩ = some (.int .u64 k1) ∧ wx.cell? ⟨w.heap.size, 12, none⟩ = some (.int .u64 k2) ∧ wx.cell? ⟨w.heap.size, 13, none⟩ = some (.int .u64 k3) from by
    have q := row_on RV.out (show Below W1.heap.size W1 wx by rw [Hz.out]; exact hb)
    exact ⟨q.cell (i := 0) (by decide), q.cell (i := 1) (by decide), q.cell (i := 2) (by decide), q.cell (i := 3) (by decide), q.cell (i := 4) (by decide), q.cell (i := 5) (by decide), q.cell (i := 6) (by decide), q.cell (i := 7) (by decide), q.cell (i := 8) (by decide), q.cell (i := 9) (by decide), q.cell (i := 10) (by decide), q.cell (i := 11) (by decide), q.cell (i := 12) (by decide), q.cell (i := 13) (by decide)⟩)
  have SEE := hide (fun (wx : World) (hb : Below z W1 wx) => HS1.out.below (show Below W1.heap.size W1 wx by rw [Hz.out]; exact hb))
  have NIL := hide (fun (wx : World) (hb : Below z W1 wx) => HN1.out.below HS1.out (show Below W1.heap.size W1 wx by rw [Hz.out]; exact hb))
  rw [hrb] at R1 s0 s1
  rw [hz] at s1
  have hz1 : z ≤ W1.heap.size := by omega
  have K0 := VF.out W1 (Below.refl _ _)
  have c4 := K0.2.2.2.2.1
  clear K0 hz
  go_enter Try.func6, Try.ntmps6
  go_upto_region 1 with (fail)
  try rw [hrb]
  try rw [hW1]
  clear hW0 hW1
  go_upto_region 2 with (at_make; refine wpList_make_own _ rfl _ _ 24 rfl z 23 iS (.slice none 0 0) 1 Try.underlying24 hiS hzS hsS _ _ _ nr rfl rfl (by omega) (by rw [hyS]; omega) (by unfold maxLen; omega) hz1 ?_; intro w2 hown2 hgr2; have O2 := hide hown2; have B2 := hide (show Below z W1 w2 from below_of_grown_none hgr2 _ hz1); clear hown2 hgr2)
  clear c4
  go_wp2_with fail
  go_loopw [3, 4] (fun v i wr => ∃ (k : Nat) (rs : List Value), k ≤ nr ∧ i = .int .i64 k ∧ Hid (wr.ownsRow z 23 1 v k rs) ∧ Hid (Ls wr z rs (c.rs.take k)) ∧ Hid (Below z W1 wr)) (fun _ i _ => nr - (intOf i).toNat)
  case atStart => exact ⟨0, [], Nat.zero_le _, rfl, O2.out, (⟨rfl, fun j l hl => by simp at hl⟩ : Ls _ z [] (c.rs.take 0)), B2.out⟩
  case round =>
    obtain ⟨k, rs, hk, rfl, HO, HL, HB⟩ := hrel
    obtain ⟨la, cp, rfl⟩ := own_slice HO.out
    have hzw : z ≤ wr.heap.size := by have := HB.out.size; rw [Hz.out] at this; exact this
    have lw : w.heap.size < wr.heap.size := by omega
    have K0 := VF.out wr HB.out
    by_cases hlt : k < nr
    · have hkn : (k : Int) < (nr : Int) := by omega
      obtain ⟨l, hl⟩ : ∃ l, c.rs[k]? = some l := ⟨c.rs[k]'(by rw [Hnr.out]; exact hlt), by simp [Hnr.out, hlt]⟩
      obtain ⟨b, off, ai, ci, hra, hbl, hcc, hse⟩ := (SEE.out wr HB.out).rt k l hl
      have hni := (NIL.out wr HB.out).rt b off k l ai l.length ci hra hl hcc
      simp only at hra
      subst hra
      have hlb := HZ.out.rl l (List.mem_of_getElem? hl)
      obtain ⟨m, hm⟩ : ∃ m, l.length = m := ⟨_, rfl⟩
      rw [hm] at hcc hlb
      have NL := hide (show ai = none → m = 0 ∧ ci = 0 from fun e => ⟨by rw [← hm]; exact nil_len hse e, hni e⟩)
      have Hm := hide hm
      have HSE := hide hse
      have HLk := hide hl
      have c4 := K0.2.2.2.2.1
      clear hm hse hl hni K0
      go_wp2_with (first
        | (at_builtin; refine wpList_append_opt rfl (.tmp 20) (.tmp 25) 23 rfl wr.heap.size 22 iU (.int .u64 0) 1 8 Try.underlying23 hiU hzU hsU hyU rfl (by decide) (.slice (some ⟨wr.heap.size, 0, none⟩) 0 0) 0 [] rfl (owns_nil0 (Nat.le_refl _)) ai m ci (ucs l) rfl NL.out (by rw [ucs_len, Hm.out]; omega) (news_u (HSE.out.below ((Below.refl _ wr).alloc (Nat.le_refl _) _))) (ucs_one _) (by unfold maxLen; omega) (by omega) (by simp) ?_; intro v4 w4 hown4 hgr4 _; rw [Nat.zero_add, List.nil_append] at hown4; obtain ⟨l4, p4, rfl⟩ := own_slice hown4; have O4 := hide hown4; have G4 := hide (show (wr.alloc (.cells #[] 22)).grownBy w4 (some wr.heap.size) from hgr4); have sz4 := hgr4.size; simp only [World.size_alloc] at sz4; clear hown4 hgr4)
        | (at_builtin; refine wpList_append_opt rfl (.tmp 19) (.tmp 27) 24 rfl z 23 iS (.slice none 0 0) 1 24 Try.underlying24 hiS hzS hsS hyS rfl (by decide) (.slice la k cp) k rs rfl (((HO.out.alloc _).kept G4.out (.inr (fun e => by have := (HO.out.lt _ e).2; omega))).alloc _) (some ⟨w4.heap.size, 0, none⟩) 1 1 [.slice l4 m p4] rfl (fun h => by cases h) rfl (fun ad had q u hu => by obtain ⟨rfl, rfl⟩ := one_val hu; cases had; rw [Go.WideShapes.add_plain]; simp) (by simp [Value.oneCell']) (by unfold maxLen; omega) (by omega) (by simp; omega) ?_; intro v6 w6 hown6 hgr6 _; have O6 := hide hown6; have G6 := hide (show (w4.alloc (.cells #[.slice l4 m p4] 23)).grownBy w6 (Value.slice la k cp).ownBlock from hgr6); clear hown6 hgr6))
      go_roundw
      case rel =>
        have K1 : Kp 22 wr w4 z := kp_new hzw G4.out
        have O4z := owns_low O4.out hzw
        have HOa := ((HO.out.alloc (.cells #[] 22)).kept G4.out (.inr (fun e => by have := (HO.out.lt _ e).2; omega))).alloc (.cells #[.slice l4 m p4] 23)
        have K2 : Kp 22 w4 w6 z := (kp_alloc _ w4 z _).trans (kp_row HOa (by decide) G6.out)
        have b4 : Below z wr w4 := below_new hzw G4.out (fun x e => by cases e; exact hzw)
        have b6 : Below z w4 w6 := below_new (by omega) G6.out (fun x e => (HO.out.lt x e).1)
        refine ⟨k + 1, _, by omega, by go_num, O6.out, ?_, HB.out.trans (b4.trans b6)⟩
        rw [take_step HLk.out, ← Hm.out]
        exact ls_step ((HL.out.on K1).on K2) (K2 _ _ _ (by rw [Hm.out]; exact O4z))
      case measure => simp [intOf]; omega
    · obtain rfl : k = nr := by omega
      have hnk : ¬ (k : Int) < (k : Int) := by omega
      have RT := hide (show ∃ rs, wr.ownsRow z 23 1 (.slice la k cp) k rs ∧ Ls wr z rs c.rs from ⟨rs, HO.out, by have := HL.out; rwa [List.take_of_length_le (by rw [Hnr.out]; exact Nat.le_refl _)] at this⟩)
      have c4 := K0.2.2.2.2.1
      have c6 := K0.2.2.2.2.2.2.1
      obtain ⟨W3, hW3⟩ : ∃ W3, W3 = wr := ⟨_, rfl⟩
      subst hW3
      clear K0 HO HL
      go_upto_region 7 with (at_make; refine wpList_make_own _ rfl _ _ 25 rfl z 41 iO zO 9 Try.underlying25 hiO hzO hsO _ _ _ n rfl rfl (by omega) (by rw [hyO]; omega) (by unfold maxLen; omega) hzw ?_; intro w5 hown5 hgr5; have O5 := hide hown5; have G5 := hide hgr5; clear hown5 hgr5)
      have RT5 := hide (show ∃ rs, w5.ownsRow z 23 1 (.slice la k cp) k rs ∧ Ls w5 z rs c.rs from by
        obtain ⟨rs, h1, h2⟩ := RT.out
        exact ⟨rs, kp_none G5.out _ _ _ h1, h2.on (kp_none G5.out)⟩)
      have B5 := hide (show Below z W1 w5 from HB.out.trans (below_of_grown_none G5.out _ hzw))
      clear RT HB G5 c4 c6
      go_wp2_with fail
      go_loopw [5, 6] (fun v i wr => ∃ (q : Nat) (xs : List Value), q ≤ n ∧ i = .int .i64 q ∧ Hid (wr.ownsRow z 41 9 v q xs) ∧ Hid (Lo wr z xs (c.os.take q)) ∧ Hid (∃ rs, wr.ownsRow z 23 1 (.slice la k cp) k rs ∧ Ls wr z rs c.rs) ∧ Hid (Below z W1 wr)) (fun _ i _ => n - (intOf i).toNat)
      case atStart => exact ⟨0, [], Nat.zero_le _, rfl, O5.out, (⟨rfl, fun j l hl => by simp at hl⟩ : Lo _ z [] (c.os.take 0)), RT5.out, B5.out⟩
      case round =>
        clear O5 RT5 B5
        obtain ⟨q, xs, hq, rfl, HO, HL, RT, HB⟩ := hrel
        obtain ⟨lb, cp2, rfl⟩ := own_slice HO.out
        have hzw : z ≤ wr.heap.size := by have := HB.out.size; rw [Hz.out] at this; exact this
        have lw : w.heap.size < wr.heap.size := by omega
        have K0 := VF.out wr HB.out
        by_cases hlt : q < n
        · have hqn : (q : Int) < (n : Int) := by omega
          obtain ⟨o, ho⟩ : ∃ o, c.os[q]? = some o := ⟨c.os[q]'(by rw [Hn.out]; exact hlt), by simp [Hn.out, hlt]⟩
          obtain ⟨b, off, ai, ci, hoa, hbl, hcc, hse⟩ := (SEE.out wr HB.out).ob q o ho
          have hni := (NIL.out wr HB.out).ob b off q o ai o.sl.length ci hoa ho (hcc 8 (by decide))
          simp only at hoa
          subst hoa
          have hlb := HZ.out.sl o (List.mem_of_getElem? ho)
          have Ho := hide ho
          obtain ⟨us, li, fi, ta, ag, ge, lk, nx, sl⟩ := o
          simp only at hlb hse hni
          obtain ⟨m, hm⟩ : ∃ m, sl.length = m := ⟨_, rfl⟩
          have r0 := hcc 0 (by decide)
          have r1 := hcc 1 (by decide)
          have r2 := hcc 2 (by decide)
          have r3 := hcc 3 (by decide)
          have r4 := hcc 4 (by decide)
          have r5 := hcc 5 (by decide)
          have r6 := hcc 6 (by decide)
          have r7 := hcc 7 (by decide)
          have r8 := hcc 8 (by decide)
          simp only [Ob.cell, Nat.add_zero, hm] at r0 r1 r2 r3 r4 r5 r6 r7 r8
          rw [hm] at hlb
          have NL := hide (show ai = none → m = 0 ∧ ci = 0 from fun e => ⟨by rw [← hm]; exact nil_len hse e, hni e⟩)
          have Hm := hide hm
          have HSE := hide hse
          have c6 := K0.2.2.2.2.2.2.1
          clear hm hse ho hni K0 hcc
          obtain ⟨WX, hWX⟩ : ∃ WX, wr.alloc (.cells #[.bool us, .bool li, .bool fi, .bool ta, .int .i64 ag, .int .u64 ge, .int .u64 lk, .int .u64 nx, .slice ai m ci] 41) = WX := ⟨_, rfl⟩
          have RX := hide (show WX.rowIs wr.heap.size 41 9 (lrow [.bool us, .bool li, .bool fi, .bool ta, .int .i64 ag, .int .u64 ge, .int .u64 lk, .int .u64 nx, .slice ai m ci]) from by rw [← hWX]; exact rowL_alloc wr [.bool us, .bool li, .bool fi, .bool ta, .int .i64 ag, .int .u64 ge, .int .u64 lk, .int .u64 nx, .slice ai m ci] _ rfl)
          have sX := hide (show WX.heap.size = wr.heap.size + 1 by rw [← hWX]; simp)
          have BX := hide (show Below wr.heap.size wr WX from by rw [← hWX]; exact (Below.refl _ wr).alloc (Nat.le_refl _) _)
          have HSX := hide (HSE.out.below BX.out)
          have e8 : WX.cell? ⟨wr.heap.size, 8, none⟩ = some (.slice ai m ci) := RX.out.cell (i := 8) (by decide)
          have lX : wr.heap.size < WX.heap.size := by rw [sX.out]; omega
          have HWX := hide hWX
          go_upto_region 11 with (fail)
          try rw [hWX]
          clear hWX r0 r1 r2 r3 r4 r5 r6 r7 r8 c6
          go_upto_region 12 with (at_builtin; refine wpList_append_opt rfl (.tmp 45) (.tmp 47) 23 rfl WX.heap.size 22 iU (.int .u64 0) 1 8 Try.underlying23 hiU hzU hsU hyU rfl (by decide) (.slice (some ⟨WX.heap.size, 0, none⟩) 0 0) 0 [] rfl (owns_nil0 (Nat.le_refl _)) ai m ci (ucs sl) rfl NL.out (by rw [ucs_len, Hm.out]; omega) (news_u (HSX.out.below ((Below.refl _ WX).alloc (Nat.le_refl _) _))) (ucs_one _) (by unfold maxLen; omega) (by omega) (by simp) ?_; intro v5 w6 hown5 hgr5 _; rw [Nat.zero_add, List.nil_append] at hown5; obtain ⟨l5, p5, rfl⟩ := own_slice hown5; have O5 := hide hown5; have G5 := hide (show (WX.alloc (.cells #[] 22)).grownBy w6 (some WX.heap.size) from hgr5); have R6 := hide (show w6.rowIs wr.heap.size 41 9 (lrow [.bool us, .bool li, .bool fi, .bool ta, .int .i64 ag, .int .u64 ge, .int .u64 lk, .int .u64 nx, .slice ai m ci]) from row_on RX.out (below_new (Nat.le_refl _) hgr5 (fun x e => by cases e; exact Nat.le_refl _))); have sz6 := hgr5.size; simp only [World.size_alloc] at sz6; have y8 : w6.cell? ⟨wr.heap.size, 8, none⟩ = some (.slice ai m ci) := R6.out.cell (i := 8) (by decide); have f8 : w6.frozen? ⟨wr.heap.size, 8, none⟩ = false := R6.out.frozen 8; clear hown5 hgr5)
          have y0 : w6.cell? ⟨wr.heap.size, 0, none⟩ = some (.bool us) := R6.out.cell (i := 0) (by decide)
          have y1 : w6.cell? ⟨wr.heap.size, 1, none⟩ = some (.bool li) := R6.out.cell (i := 1) (by decide)
          have y2 : w6.cell? ⟨wr.heap.size, 2, none⟩ = some (.bool fi) := R6.out.cell (i := 2) (by decide)
          have y3 : w6.cell? ⟨wr.heap.size, 3, none⟩ = some (.bool ta) := R6.out.cell (i := 3) (by decide)
          have y4 : w6.cell? ⟨wr.heap.size, 4, none⟩ = some (.int .i64 ag) := R6.out.cell (i := 4) (by decide)
          have y5 : w6.cell? ⟨wr.heap.size, 5, none⟩ = some (.int .u64 ge) := R6.out.cell (i := 5) (by decide)
          have y6 : w6.cell? ⟨wr.heap.size, 6, none⟩ = some (.int .u64 lk) := R6.out.cell (i := 6) (by decide)
          have y7 : w6.cell? ⟨wr.heap.size, 7, none⟩ = some (.int .u64 nx) := R6.out.cell (i := 7) (by decide)
          have G5' := hide (show ((wr.alloc (.cells #[.bool us, .bool li, .bool fi, .bool ta, .int .i64 ag, .int .u64 ge, .int .u64 lk, .int .u64 nx, .slice ai m ci] 41)).alloc (.cells #[] 22)).grownBy w6 (some (wr.heap.size + 1)) from by rw [HWX.out, ← sX.out]; exact G5.out)
          obtain ⟨W7, hW7⟩ : ∃ W7, w6.setCell ⟨wr.heap.size, 8, none⟩ (.slice l5 m p5) = W7 := ⟨_, rfl⟩
          have HO7 := hide (show W7.ownsRow z 41 9 (.slice lb q cp2) q xs from by rw [← hW7]; exact own_obj HO.out G5'.out _)
          have K7 := hide (show Kp 22 wr W7 z from fun v n xs h => by rw [← hW7]; exact own_obj h G5'.out _)
          have K7' := hide (show Kp 23 wr W7 z from fun v n xs h => by rw [← hW7]; exact own_obj h G5'.out _)
          have O7 := hide (show W7.ownsRow z 22 1 (.slice l5 m p5) m (ucs sl) from by rw [← hW7]; exact owns_low (own_set O5.out _ _ (fun e => by have h1 := (O5.out.lt _ e).1; have h2 := sX.out; simp only at h1; omega)) (by have := sX.out; omega))
          have hz7 : z ≤ W7.heap.size := by
            rw [show W7.heap.size = w6.heap.size by rw [← hW7]; simp]
            have := sX.out
            omega
          have B7 := hide (show Below z W1 W7 from by
            rw [← hW7]
            exact (HB.out.trans (((BX.out.mono hzw)).trans (below_new (z := z) (by have := sX.out; omega) G5.out (fun x e => by cases e; have := sX.out; omega)))).setCell (by simp only; omega) _)
          have R7 := hide (show W7.rowIs wr.heap.size 41 9 (lrow [.bool us, .bool li, .bool fi, .bool ta, .int .i64 ag, .int .u64 ge, .int .u64 lk, .int .u64 nx, .slice l5 m p5]) from by
            rw [← hW7]
            refine (R6.out.set 8 _).congr (fun i hi => ?_)
            by_cases e : i = 8
            · subst e; rfl
            · rw [if_neg e]
              have : i = 0 ∨ i = 1 ∨ i = 2 ∨ i = 3 ∨ i = 4 ∨ i = 5 ∨ i = 6 ∨ i = 7 := by omega
              rcases this with rfl | rfl | rfl | rfl | rfl | rfl | rfl | rfl <;> rfl)
          try rw [hW7]
          clear hW7 y0 y1 y2 y3 y4 y5 y6 y7 y8 f8 e8 lX
          have y0 : W7.cell? ⟨wr.heap.size, 0, none⟩ = some (.bool us) := R7.out.cell (i := 0) (by decide)
          have y1 : W7.cell? ⟨wr.heap.size, 1, none⟩ = some (.bool li) := R7.out.cell (i := 1) (by decide)
          have y2 : W7.cell? ⟨wr.heap.size, 2, none⟩ = some (.bool fi) := R7.out.cell (i := 2) (by decide)
          have y3 : W7.cell? ⟨wr.heap.size, 3, none⟩ = some (.bool ta) := R7.out.cell (i := 3) (by decide)
          have y4 : W7.cell? ⟨wr.heap.size, 4, none⟩ = some (.int .i64 ag) := R7.out.cell (i := 4) (by decide)
          have y5 : W7.cell? ⟨wr.heap.size, 5, none⟩ = some (.int .u64 ge) := R7.out.cell (i := 5) (by decide)
          have y6 : W7.cell? ⟨wr.heap.size, 6, none⟩ = some (.int .u64 lk) := R7.out.cell (i := 6) (by decide)
          have y7 : W7.cell? ⟨wr.heap.size, 7, none⟩ = some (.int .u64 nx) := R7.out.cell (i := 7) (by decide)
          have y8 : W7.cell? ⟨wr.heap.size, 8, none⟩ = some (.slice l5 m p5) := R7.out.cell (i := 8) (by decide)
          go_wp2_with (at_builtin; refine wpList_append_opt rfl (.tmp 50) (.tmp 52) 25 rfl z 41 iO zO 9 64 Try.underlying25 hiO hzO hsO hyO hcO (by decide) (.slice lb q cp2) q xs rfl (HO7.out.alloc _) (some ⟨W7.heap.size, 0, none⟩) 1 1 (Ob.cells ⟨us, li, fi, ta, ag, ge, lk, nx, sl⟩ (.slice l5 m p5)) rfl (fun h => by cases h) rfl (fun ad had j u hu => by cases had; exact cells_new W7 _ 41 j u hu) (by simp [Ob.cells, Value.oneCell']) (by unfold maxLen; omega) (by omega) (by simp; omega) ?_; intro v8 w8 hown8 hgr8 _; have O8 := hide hown8; have G8 := hide hgr8; clear hown8 hgr8)
          go_roundw
          case rel =>
            have K8 : Kp 22 W7 w8 z := (kp_alloc _ W7 z _).trans (kp_row (HO7.out.alloc _) (by decide) G8.out)
            have K8' : Kp 23 W7 w8 z := (kp_alloc _ W7 z _).trans (kp_row (HO7.out.alloc _) (by decide) G8.out)
            refine ⟨q + 1, _, by omega, by go_num, O8.out, ?_, ?_, B7.out.trans (below_new (by omega) G8.out (fun x e => (HO7.out.lt x e).1))⟩
            · rw [take_step Ho.out, ← Hm.out]
              exact lo_step (b := ⟨us, li, fi, ta, ag, ge, lk, nx, sl⟩) ((HL.out.on K7.out).on K8) (K8 _ _ _ (by rw [Hm.out]; exact O7.out))
            · obtain ⟨rs, h1, h2⟩ := RT.out
              exact ⟨rs, K8' _ _ _ (K7'.out _ _ _ h1), (h2.on K7.out).on K8⟩
          case measure => simp [intOf]; omega
        · obtain rfl : q = n := by omega
          have hqq : ¬ (q : Int) < (q : Int) := by omega
          have OB := hide (show ∃ xs, wr.ownsRow z 41 9 (.slice lb q cp2) q xs ∧ Lo wr z xs c.os from ⟨xs, HO.out, by have := HL.out; rwa [List.take_of_length_le (by rw [Hn.out]; exact Nat.le_refl _)] at this⟩)
          have RVr := hide (row_on RV.out (show Below W1.heap.size W1 wr by rw [Hz.out]; exact HB.out))
          have RZr := hide (row_on R1.out (show Below W1.heap.size W1 wr by rw [Hz.out]; exact HB.out))
          have BWr := hide (show Below w.heap.size w wr from BW.out.trans (HB.out.mono (by omega)))
          have c4 := K0.2.2.2.2.1
          have c6 := K0.2.2.2.2.2.2.1
          have f4 : wr.frozen? ⟨w.heap.size, 4, none⟩ = false := RVr.out.frozen 4
          have f6 : wr.frozen? ⟨w.heap.size, 6, none⟩ = false := RVr.out.frozen 6
          clear K0 HO HL
          obtain ⟨W8, hW8⟩ : ∃ W8, (wr.setCell ⟨w.heap.size, 4, none⟩ (.slice la k cp)).setCell ⟨w.heap.size, 6, none⟩ (.slice lb q cp2) = W8 := ⟨_, rfl⟩
          have s8 := hide (show W8.heap.size = wr.heap.size by rw [← hW8]; simp)
          have R8 := hide (show W8.rowIs w.heap.size 29 14 (lrow [.int .i64 ph, .int .i64 co, .int .u64 ro, .slice aa na ca, .slice la k cp, .slice wa nw cw, .slice lb q cp2, .slice fa nf cf, .slice ga ng cg, .slice qa nqz cq, .int .u64 k0, .int .u64 k1, .int .u64 k2, .int .u64 k3]) from by
            rw [← hW8]
            refine ((RVr.out.set 4 _).set 6 _).congr (fun i hi => ?_)
            have : i = 0 ∨ i = 1 ∨ i = 2 ∨ i = 3 ∨ i = 4 ∨ i = 5 ∨ i = 6 ∨ i = 7 ∨ i = 8 ∨ i = 9 ∨ i = 10 ∨ i = 11 ∨ i = 12 ∨ i = 13 := by omega
            rcases this with rfl | rfl | rfl | rfl | rfl | rfl | rfl | rfl | rfl | rfl | rfl | rfl | rfl | rfl <;> rfl)
          have Z8 := hide (show W8.rowIs rb 29 14 (lrow [.int .i64 0, .int .i64 0, .int .u64 0, .slice none 0 0, .slice none 0 0, .slice none 0 0, .slice none 0 0, .slice none 0 0, .slice none 0 0, .slice none 0 0, .int .u64 0, .int .u64 0, .int .u64 0, .int .u64 0]) from by rw [← hW8]; exact (RZr.out.setOther (by simp only; omega) _).setOther (by simp only; omega) _)
          have B8 := hide (show Below w.heap.size w W8 from by rw [← hW8]; exact (BWr.out.setCell (Nat.le_refl _) _).setCell (Nat.le_refl _) _)
          have K8 := hide (show Kp 22 wr W8 z from fun v n xs h => by rw [← hW8]; exact own_low (own_low h (by simp only; omega) _) (by simp only; omega) _)
          have RT8 := hide (show ∃ rs, W8.ownsRow z 23 1 (.slice la k cp) k rs ∧ Ls W8 z rs c.rs from by
            obtain ⟨rs, h1, h2⟩ := RT.out
            refine ⟨rs, ?_, h2.on K8.out⟩
            rw [← hW8]
            exact own_low (own_low h1 (by simp only; omega) _) (by simp only; omega) _)
          have OB8 := hide (show ∃ xs, W8.ownsRow z 41 9 (.slice lb q cp2) q xs ∧ Lo W8 z xs c.os from by
            obtain ⟨xs, h1, h2⟩ := OB.out
            refine ⟨xs, ?_, h2.on K8.out⟩
            rw [← hW8]
            exact own_low (own_low h1 (by simp only; omega) _) (by simp only; omega) _)
          have QS := hide ((HSw.out.below B8.out).qu)
          have NQ := hide (show qa = none → nqz = 0 ∧ cq = 0 from fun e => ⟨by rw [← Hnq.out]; exact nil_lenN QS.out e, HN1.out.qu e⟩)
          have hz8 : z ≤ W8.heap.size := by rw [s8.out]; exact hzw
          go_upto_region 15 with (fail)
          try rw [hW8]
          clear hW8 c4 c6 f4 f6
          have c9 : W8.cell? ⟨w.heap.size, 9, none⟩ = some (.slice qa nqz cq) := R8.out.cell (i := 9) (by decide)
          have lw8 : w.heap.size < W8.heap.size := R8.out.lt
          go_upto_region 16 with (at_builtin; refine wpList_append_opt rfl (.tmp 58) (.tmp 60) 26 rfl W8.heap.size 3 iI (.int .i64 0) 1 8 Try.underlying26 hiI hzI hsI hyI rfl (by decide) (.slice (some ⟨W8.heap.size, 0, none⟩) 0 0) 0 [] rfl (owns_nil0 (Nat.le_refl _)) qa nqz cq (ncs c.qu) rfl NQ.out (by rw [ncs_len, Hnq.out]; omega) (news_n (QS.out.below ((Below.refl _ W8).alloc (Nat.le_refl _) _))) (ncs_one _) (by unfold maxLen; omega) (by omega) (by simp) ?_; intro v9 w9 hown9 hgr9 _; rw [Nat.zero_add, List.nil_append] at hown9; obtain ⟨l9, p9, rfl⟩ := own_slice hown9; have O9 := hide hown9; have G9 := hide (show (W8.alloc (.cells #[] 3)).grownBy w9 (some W8.heap.size) from hgr9); have B89 := hide (show Below W8.heap.size W8 w9 from below_new (Nat.le_refl _) hgr9 (fun x e => by cases e; exact Nat.le_refl _)); have f9 : w9.frozen? ⟨w.heap.size, 9, none⟩ = false := (row_on R8.out B89.out).frozen 9; have d9 : w9.cell? ⟨w.heap.size, 9, none⟩ = some (.slice qa nqz cq) := (row_on R8.out B89.out).cell (i := 9) (by decide); clear hown9 hgr9)
          obtain ⟨WA, hWA⟩ : ∃ WA, w9.setCell ⟨w.heap.size, 9, none⟩ (.slice l9 nqz p9) = WA := ⟨_, rfl⟩
          have RA := hide (show WA.rowIs w.heap.size 29 14 (lrow [.int .i64 ph, .int .i64 co, .int .u64 ro, .slice aa na ca, .slice la k cp, .slice wa nw cw, .slice lb q cp2, .slice fa nf cf, .slice ga ng cg, .slice l9 nqz p9, .int .u64 k0, .int .u64 k1, .int .u64 k2, .int .u64 k3]) from by
            rw [← hWA]
            refine ((row_on R8.out B89.out).set 9 _).congr (fun i hi => ?_)
            have : i = 0 ∨ i = 1 ∨ i = 2 ∨ i = 3 ∨ i = 4 ∨ i = 5 ∨ i = 6 ∨ i = 7 ∨ i = 8 ∨ i = 9 ∨ i = 10 ∨ i = 11 ∨ i = 12 ∨ i = 13 := by omega
            rcases this with rfl | rfl | rfl | rfl | rfl | rfl | rfl | rfl | rfl | rfl | rfl | rfl | rfl | rfl <;> rfl)
          have ZA := hide (show WA.rowIs rb 29 14 (lrow [.int .i64 0, .int .i64 0, .int .u64 0, .slice none 0 0, .slice none 0 0, .slice none 0 0, .slice none 0 0, .slice none 0 0, .slice none 0 0, .slice none 0 0, .int .u64 0, .int .u64 0, .int .u64 0, .int .u64 0]) from by rw [← hWA]; exact (row_on Z8.out B89.out).setOther (by simp only; omega) _)
          have BA := hide (show Below w.heap.size w WA from by rw [← hWA]; exact (B8.out.trans (B89.out.mono (by omega))).setCell (Nat.le_refl _) _)
          have CA := hide (show Cp WA z c ⟨ph, co, ro, aa, na, ca, la, cp, wa, nw, cw, lb, cp2, fa, nf, cf, ga, ng, cg, l9, p9, k0, k1, k2, k3⟩ from by
            rw [← hWA]
            refine Cp.set ?_ (by simp only; omega) _
            obtain ⟨rs, h1, h2⟩ := RT8.out
            obtain ⟨xs, h3, h4⟩ := OB8.out
            have kU : Kp 22 W8 w9 z := kp_new hz8 G9.out
            refine ⟨⟨rs, by rw [Hnr.out]; exact kp_new hz8 G9.out _ _ _ h1, h2.on kU⟩, ⟨xs, by rw [Hn.out]; exact (h3.alloc _).kept G9.out (.inr (fun e => by have := (h3.lt _ e).2; omega)), h4.on kU⟩, ?_⟩
            rw [Hnq.out]
            exact owns_low O9.out hz8)
          try rw [hWA]
          clear hWA c9 f9 d9
          have x0 : WA.cell? ⟨w.heap.size, 0, none⟩ = some (.int .i64 ph) := RA.out.cell (i := 0) (by decide)
          have x1 : WA.cell? ⟨w.heap.size, 1, none⟩ = some (.int .i64 co) := RA.out.cell (i := 1) (by decide)
          have x2 : WA.cell? ⟨w.heap.size, 2, none⟩ = some (.int .u64 ro) := RA.out.cell (i := 2) (by decide)
          have x3 : WA.cell? ⟨w.heap.size, 3, none⟩ = some (.slice aa na ca) := RA.out.cell (i := 3) (by decide)
          have x4 : WA.cell? ⟨w.heap.size, 4, none⟩ = some (.slice la k cp) := RA.out.cell (i := 4) (by decide)
          have x5 : WA.cell? ⟨w.heap.size, 5, none⟩ = some (.slice wa nw cw) := RA.out.cell (i := 5) (by decide)
          have x6 : WA.cell? ⟨w.heap.size, 6, none⟩ = some (.slice lb q cp2) := RA.out.cell (i := 6) (by decide)
          have x7 : WA.cell? ⟨w.heap.size, 7, none⟩ = some (.slice fa nf cf) := RA.out.cell (i := 7) (by decide)
          have x8 : WA.cell? ⟨w.heap.size, 8, none⟩ = some (.slice ga ng cg) := RA.out.cell (i := 8) (by decide)
          have x9 : WA.cell? ⟨w.heap.size, 9, none⟩ = some (.slice l9 nqz p9) := RA.out.cell (i := 9) (by decide)
          have x10 : WA.cell? ⟨w.heap.size, 10, none⟩ = some (.int .u64 k0) := RA.out.cell (i := 10) (by decide)
          have x11 : WA.cell? ⟨w.heap.size, 11, none⟩ = some (.int .u64 k1) := RA.out.cell (i := 11) (by decide)
          have x12 : WA.cell? ⟨w.heap.size, 12, none⟩ = some (.int .u64 k2) := RA.out.cell (i := 12) (by decide)
          have x13 : WA.cell? ⟨w.heap.size, 13, none⟩ = some (.int .u64 k3) := RA.out.cell (i := 13) (by decide)
          have z0 : WA.cell? ⟨rb, 0, none⟩ = some (.int .i64 0) := ZA.out.cell (i := 0) (by decide)
          have z1 : WA.cell? ⟨rb, 1, none⟩ = some (.int .i64 0) := ZA.out.cell (i := 1) (by decide)
          have z2 : WA.cell? ⟨rb, 2, none⟩ = some (.int .u64 0) := ZA.out.cell (i := 2) (by decide)
          have z3 : WA.cell? ⟨rb, 3, none⟩ = some (.slice none 0 0) := ZA.out.cell (i := 3) (by decide)
          have z4 : WA.cell? ⟨rb, 4, none⟩ = some (.slice none 0 0) := ZA.out.cell (i := 4) (by decide)
          have z5 : WA.cell? ⟨rb, 5, none⟩ = some (.slice none 0 0) := ZA.out.cell (i := 5) (by decide)
          have z6 : WA.cell? ⟨rb, 6, none⟩ = some (.slice none 0 0) := ZA.out.cell (i := 6) (by decide)
          have z7 : WA.cell? ⟨rb, 7, none⟩ = some (.slice none 0 0) := ZA.out.cell (i := 7) (by decide)
          have z8 : WA.cell? ⟨rb, 8, none⟩ = some (.slice none 0 0) := ZA.out.cell (i := 8) (by decide)
          have z9 : WA.cell? ⟨rb, 9, none⟩ = some (.slice none 0 0) := ZA.out.cell (i := 9) (by decide)
          have z10 : WA.cell? ⟨rb, 10, none⟩ = some (.int .u64 0) := ZA.out.cell (i := 10) (by decide)
          have z11 : WA.cell? ⟨rb, 11, none⟩ = some (.int .u64 0) := ZA.out.cell (i := 11) (by decide)
          have z12 : WA.cell? ⟨rb, 12, none⟩ = some (.int .u64 0) := ZA.out.cell (i := 12) (by decide)
          have z13 : WA.cell? ⟨rb, 13, none⟩ = some (.int .u64 0) := ZA.out.cell (i := 13) (by decide)
          have zf : ∀ i, WA.frozen? ⟨rb, i, none⟩ = false := fun i => ZA.out.frozen i
          have rne : ¬ rb = w.heap.size := by omega
          have rne' : ¬ w.heap.size = rb := by omega
          go_wp2_with fail
          refine bodyPost_ret (v := .agg #[.int .i64 ph, .int .i64 co, .int .u64 ro, .slice aa na ca, .slice la k cp, .slice wa nw cw, .slice lb q cp2, .slice fa nf cf, .slice ga ng cg, .slice l9 nqz p9, .int .u64 k0, .int .u64 k1, .int .u64 k2, .int .u64 k3]) (by simp [results, Try.results6, go_sem, *]) rfl ?_
          have key : ∀ Wf, Cp Wf z c ⟨ph, co, ro, aa, na, ca, la, cp, wa, nw, cw, lb, cp2, fa, nf, cf, ga, ng, cg, l9, p9, k0, k1, k2, k3⟩ → Below w.heap.size w Wf → Ct w Wf (.returned (.agg #[.int .i64 ph, .int .i64 co, .int .u64 ro, .slice aa na ca, .slice la k cp, .slice wa nw cw, .slice lb q cp2, .slice fa nf cf, .slice ga ng cg, .slice l9 nqz p9, .int .u64 k0, .int .u64 k1, .int .u64 k2, .int .u64 k3])) c ⟨ph, co, ro, aa, na, ca, ra, cr, wa, nw, cw, oa, cb, fa, nf, cf, ga, ng, cg, qa, cq, k0, k1, k2, k3⟩ := fun Wf h1 h2 => ⟨la, cp, lb, cp2, l9, p9, by simp only [vl, Hn.out, Hnr.out, Hnq.out], h1.low (by omega), h2⟩
          refine key _ ?_ ?_
          · repeat' refine Cp.set ?_ (by simp only; omega) _
            exact CA.out
          · repeat' refine Below.setCell ?_ (by simp only; omega) _
            exact BA.out
end Gr
end Go.Proofs.Ytlbcjolbgeficaa
