/-
  Graph: GraphClosed's walk
-/
import Derived.Test.YtakgidhblkjjbaaGrL
import Derived.Test.YtakgidhblkjjbaaGrK
namespace Go.Proofs.Ytakgidhblkjjbaa
open Go.RowKit
set_option linter.unusedVariables false
set_option linter.unusedSimpArgs false
set_option linter.unnecessarySimpa false
set_option maxRecDepth 20000
namespace Gr
theorem clo_rb (os : List Ob) (l : List Int) : Clo os l (rb os l) := by
  constructor
  · intro h hh h0
    rw [rb_iff, show gd os h - 1 + 1 = gd os h by omega]
    exact .root hh h0
  · intro i o hi ho hr h hh h0
    rw [rb_iff] at hr
    rw [rb_iff, show gd os h - 1 + 1 = gd os h by omega]
    exact .step hr (by simpa using ho) hh h0
theorem clo_least {os : List Ob} {l : List Int} {f : Nat → Bool} (h : Clo os l f) {i : Nat} (hr : rb os l i = true) : f i = true := by
  rw [rb_iff] at hr
  have key : ∀ k, Rc os l k → f (k - 1) = true := by
    intro k hk
    induction hk with
    | root h1 h2 => exact h.1 _ h1 h2
    | @step k o x hk h2 h3 h4 ih =>
      have hp := hk.pos
      exact h.2 (k - 1) o (by omega) h2 ih x h3 h4
  exact key _ hr
/-- Truths that are lent. -/
def lentB (sl : List Bool) (i : Nat) : Bool := decide (i < sl.length) && sl[i]?.getD false

set_option maxHeartbeats 8000000 in
theorem closed_walk {c : Vc} {a : Av} {w : World} {fa' sa : Option Addr} {fc sc : Nat} {l : List Int} {sl : List Bool} (hS : Shows w c a) (hB : Bd c.os) (hL : SeesU w fa' l) (hW : Wd l) (hll : l.length ≤ 35184372088832) (hSl : SeesB w sa sl) (hsl : sl.length ≤ 281474976710656) :
    Calls Try.prog 5 #[vl c a, .slice fa' l.length fc, .slice sa sl.length sc] w fun e w' => e = .returned (.bool true) ∧ Below w.heap.size w w' := by
  obtain ⟨W0, hW0, B0, R0⟩ := vbox w c a
  have VF := hide (fun (wx : World) (hb : Below W0.heap.size W0 wx) => vcells (row_on R0 hb))
  have HB0 := hide B0
  have HS0 := hide (hS.below B0)
  have HL0 := hide (hL.below B0)
  have HSl := hide (hSl.below B0)
  have l0 : w.heap.size < W0.heap.size := R0.lt
  have RE := hide (fun (w1 : World) (h1 : Below W0.heap.size W0 w1) => reach_ok (fc := fc) (a := a) (HS0.out.below h1).ob (HL0.out.below h1) hB hW hll)
  have CL := hide (fun (w1 : World) (h1 : Below W0.heap.size W0 w1) (g : Nat) (f : Nat → Bool) (h2 : w1.rowIs g 4 c.os.length (fun i => .bool (f i))) => closed_ok (fc := fc) (gc := c.os.length) (a := a) (HS0.out.below h1) hB (HL0.out.below h1) hW hll h2)
  have hmk := run_make_row' (P := Try.prog) 32 4 _ 1 Try.underlying32 infoBb rfl .i64 .i64 c.os.length (by have := hB.no; omega) (by have := hB.no; omega)
  have hno := hB.no
  clear hS hB hL hW hll hSl B0 R0
  obtain ⟨ph, co, ro, aa, na, ca, ra, cr, wa, nw, cw, oa, cb, fa, nf, cf, ga, ng, cg, qa, cq, k0, k1, k2, k3⟩ := a
  simp only [vl] at RE CL ⊢
  simp only at hW0 VF RE CL
  obtain ⟨n, hn⟩ : ∃ n, c.os.length = n := ⟨_, rfl⟩
  obtain ⟨nr, hnre⟩ : ∃ nr, c.rs.length = nr := ⟨_, rfl⟩
  obtain ⟨nq, hnqe⟩ : ∃ nq, c.qu.length = nq := ⟨_, rfl⟩
  obtain ⟨N, hN⟩ : ∃ N, l.length = N := ⟨_, rfl⟩
  obtain ⟨ns, hns⟩ : ∃ ns, sl.length = ns := ⟨_, rfl⟩
  simp only [hn, hnre, hnqe, hN] at hW0 VF RE CL hmk hno ⊢
  rw [hns] at hsl ⊢
  have Hns := hide hns
  clear hn hnre hnqe hN hns
  obtain ⟨os, hos⟩ : ∃ os, c.os = os := ⟨_, rfl⟩
  rw [hos] at RE CL
  have AL := hide (fun w1 => alive_ok w1)
  have BR : Below W0.heap.size W0 W0 := Below.refl _ _
  go_enter Try.func5, Try.ntmps5
  go_upto_region 3 with (go_at_call 9; refine (AL.out _).mono ?_; rintro e w1 ⟨rfl, hb⟩; have HB1 := hide hb; clear hb)
  clear hW0 AL
  have RE1 := hide (RE.out w1 HB1.out)
  obtain ⟨c0, c1, c2, c3, c4, c5, c6, c7, c8, c9, c10, c11, c12, c13⟩ := VF.out w1 HB1.out
  go_upto_region 4 with (go_at_call 11; refine RE1.out.mono ?_; rintro e w2 ⟨g, rfl, hg, hr, hb⟩; have HR := hide hr; have HB2 := hide (HB1.out.trans (hb.mono HB1.out.size)); have hgl : w1.heap.size ≤ g := hg; clear hr hb)
  clear c0 c1 c2 c3 c4 c5 c6 c7 c8 c9 c10 c11 c12 c13 RE RE1
  obtain ⟨c0, c1, c2, c3, c4, c5, c6, c7, c8, c9, c10, c11, c12, c13⟩ := VF.out w2 HB2.out
  have CL1 := hide ((CL.out w2 HB2.out g (rb os l) HR.out).mono (R' := fun e w' => e = .returned (.bool true) ∧ Below w2.heap.size w2 w') (by rintro e w' ⟨ht, hb⟩; rcases ht.get with ⟨_, h2⟩ | ⟨h1, _⟩; exact ⟨h2, hb⟩; exact absurd (clo_rb os l) h1))
  go_upto_region 6 with (go_at_call 26; refine CL1.out.mono ?_; rintro e w3 ⟨rfl, hb⟩; have HB3 := hide (HB2.out.trans (hb.mono HB2.out.size)); have HR3 := hide (row_on HR.out hb); clear hb)
  clear c0 c1 c2 c3 c4 c5 c6 c7 c8 c9 c10 c11 c12 c13 CL1
  have c6 := (VF.out w3 HB3.out).2.2.2.2.2.2.1
  obtain ⟨z, hz⟩ : ∃ z, w3.heap.size = z := ⟨_, rfl⟩
  have Hz := hide hz
  have hgz : g < z := by rw [← hz]; exact HR3.out.lt
  have hz0 : W0.heap.size ≤ z := by rw [← hz]; exact HB3.out.size
  obtain ⟨W4, hW4⟩ : ∃ W4, w3.alloc (.cells (madeCells #[.bool false] n) 4) = W4 := ⟨_, rfl⟩
  have R4 := hide (show W4.rowIs z 4 n (fun _ => .bool false) by rw [← hW4, ← hz]; exact rows_made _ _ _ _)
  have B4 := hide (show Below z w3 W4 by rw [← hW4, ← hz]; exact (Below.refl _ w3).alloc (Nat.le_refl _) _)
  go_wp2_with fail
  clear hmk hW4 c6
  go_loopw [9] (fun i wr => ∃ k : Nat, k ≤ n ∧ i = .int .i64 k ∧ Hid (wr.rowIs z 4 n (fun i => .bool (decide (i < k) && lentB sl i))) ∧ Hid (Below z w3 wr)) (fun i _ => n - (intOf i).toNat)
  case atStart => exact ⟨0, Nat.zero_le _, rfl, R4.out.congr (fun i hi => by simp), B4.out⟩
  case round =>
    obtain ⟨k, hk, rfl, HA, HBr⟩ := hrel
    have BW := hide (show Below W0.heap.size W0 wr from HB3.out.trans (HBr.out.mono hz0))
    by_cases hlt : k < n
    · have hkn : (k : Int) < (n : Int) := by omega
      have e0 := HA.out.cell hlt
      have f0 := HA.out.frozen k
      have step : ∀ v : Bool, lentB sl k = v → Hid ((wr.setCell ⟨z, k, none⟩ (.bool v)).rowIs z 4 n (fun i => .bool (decide (i < k + 1) && lentB sl i))) := by
        intro v hv
        refine (HA.out.set k _).congr (fun i hi => ?_)
        by_cases e : i = k
        · subst e; simp [hv]
        · have : decide (i < k + 1) = decide (i < k) := by simp; omega
          rw [if_neg e, this]
      have ST := hide step
      clear step
      by_cases hks : k < ns
      · have hks2 : (k : Int) < (ns : Int) := by omega
        obtain ⟨bv, hbv⟩ : ∃ bv, sl[k]? = some bv := ⟨sl[k]'(by rw [Hns.out]; exact hks), by simp [Hns.out, hks]⟩
        obtain ⟨b, off, rfl, hbl, hcc⟩ := HSl.out.below BW.out k bv hbv
        have SV := hide (ST.out bv (by unfold lentB; rw [hbv, Hns.out]; simp [hks]))
        clear hbv
        go_wp2_with fail
        go_roundw
        case rel => exact ⟨k + 1, by omega, by go_num, SV.out, HBr.out.setCell (by simp) _⟩
        case measure => simp [intOf]; omega
      · have hks2 : ¬ (k : Int) < (ns : Int) := by omega
        have SV := hide (ST.out false (by simp [lentB, Hns.out, hks]))
        go_wp2_with fail
        go_roundw
        case rel => exact ⟨k + 1, by omega, by go_num, SV.out, HBr.out.setCell (by simp) _⟩
        case measure => simp [intOf]; omega
    · have hkn : ¬ (k : Int) < (n : Int) := by omega
      have HO := hide (show wr.rowIs z 4 n (fun i => .bool (lentB sl i)) from HA.out.congr (fun i hi => by rw [show decide (i < k) = true from decide_eq_true (by omega)]; simp))
      have CL2 := hide (CL.out wr BW.out z (lentB sl) HO.out)
      have HRr := hide (row_on HR3.out (show Below w3.heap.size w3 wr by rw [Hz.out]; exact HBr.out))
      obtain ⟨c0, c1, c2, c3, c4, c5, c6, c7, c8, c9, c10, c11, c12, c13⟩ := VF.out wr BW.out
      obtain ⟨wo, rfl⟩ : ∃ wo, wo = wr := ⟨_, rfl⟩
      by_cases hcl : Clo os l (lentB sl)
      · have CL3 := hide (CL2.out.mono (R' := fun e w' => e = .returned (.bool true) ∧ Below wo.heap.size wo w') (by rintro e w' ⟨ht, hb⟩; rcases ht.get with ⟨_, h2⟩ | ⟨h1, _⟩; exact ⟨h2, hb⟩; exact absurd hcl h1))
        have LE := hide (fun i (h : rb os l i = true) => clo_least hcl h)
        clear CL2 hcl
        go_upto_region 14 with (go_at_call 26; refine CL3.out.mono ?_; rintro e w5 ⟨rfl, hb⟩; have HB5 := hide (BW.out.trans (hb.mono BW.out.size)); have HO5 := hide (row_on HO.out hb); have HR5 := hide (row_on HRr.out hb); clear hb)
        clear c0 c1 c2 c3 c4 c5 c6 c7 c8 c9 c10 c11 c12 c13 CL3 CL
        go_loopw [10] (fun i wr => ∃ k : Nat, k ≤ n ∧ i = .int .i64 k ∧ wr = w5) (fun i _ => n - (intOf i).toNat)
        case atStart => exact ⟨0, Nat.zero_le _, rfl, rfl⟩
        case round =>
          obtain ⟨k2, hk2, rfl, rfl⟩ := hrel
          by_cases hlt2 : k2 < n
          · have hkn2 : (k2 : Int) < (n : Int) := by omega
            have d0 := HR5.out.cell hlt2
            have d1 := HO5.out.cell hlt2
            have IM := LE.out k2
            obtain ⟨x, hx⟩ : ∃ x, rb os l k2 = x := ⟨_, rfl⟩
            obtain ⟨y, hy⟩ : ∃ y, lentB sl k2 = y := ⟨_, rfl⟩
            rw [hx] at d0 IM
            rw [hy] at d1 IM
            clear hx hy
            cases x
            · clear IM
              go_wp2_with fail
              go_roundw
              case rel => exact ⟨k2 + 1, by omega, by go_num, trivial⟩
              case measure => simp [intOf]; omega
            · obtain rfl : y = true := IM rfl
              clear IM
              go_wp2_with fail
              go_roundw
              case rel => exact ⟨k2 + 1, by omega, by go_num, trivial⟩
              case measure => simp [intOf]; omega
          · have hkn2 : ¬ (k2 : Int) < (n : Int) := by omega
            go_wp2_with fail
            go_ret
            exact ⟨rfl, HB0.out.trans (HB5.out.mono HB0.out.size)⟩
      · have CL3 := hide (CL2.out.mono (R' := fun e w' => e = .returned (.bool false) ∧ Below wo.heap.size wo w') (by rintro e w' ⟨ht, hb⟩; rcases ht.get with ⟨h1, _⟩ | ⟨_, h2⟩; exact absurd h1 hcl; exact ⟨h2, hb⟩))
        clear CL2 hcl
        go_wp2_with (go_at_call 26; refine CL3.out.mono ?_; rintro e w5 ⟨rfl, hb⟩; have HB5 := hide (BW.out.trans (hb.mono BW.out.size)); clear hb)
        go_ret
        exact ⟨rfl, HB0.out.trans (HB5.out.mono HB0.out.size)⟩
end Gr
end Go.Proofs.Ytakgidhblkjjbaa
