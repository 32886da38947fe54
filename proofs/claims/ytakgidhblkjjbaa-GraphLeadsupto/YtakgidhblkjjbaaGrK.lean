/-
  Graph: the law's good and closed
-/
import Derived.Test.YtakgidhblkjjbaaGrG
namespace Go.Proofs.Ytakgidhblkjjbaa
open Go.RowKit
set_option linter.unusedVariables false
set_option linter.unusedSimpArgs false
set_option linter.unnecessarySimpa false
set_option maxRecDepth 20000
namespace Gr
set_option maxHeartbeats 2000000 in
theorem goodl_ok {c : Vc} {a : Av} {w : World} (hS : Sob w a.oa c.os) (hB : Bd c.os) {u : Int} (h0 : 0 ≤ u) (h1 : u < 18446744073709551616) : Calls Try.prog 27 #[vl c a, .int .u64 u] w fun e w' => e = .returned (.int .i64 ((gd c.os u : Int) - 1)) ∧ Below w.heap.size w w' := by
  obtain ⟨x, hx⟩ : ∃ x, u % 4294967296 = x := ⟨_, rfl⟩
  obtain ⟨y, hy⟩ : ∃ y, u / 4294967296 = y := ⟨_, rfl⟩
  have GV := hide (gd_val (os := c.os) hx hy)
  have hw1 : wrap64 (bits .and .u64 u 4294967295) = x := by rw [wrap64_low u h0 h1, hx]
  have hsh : u / 4294967296 = y := hy
  have hx0 : 0 ≤ x ∧ x < 4294967296 := by omega
  have hno := hB.no
  obtain ⟨W0, hW0, B0, R0⟩ := vbox w c a
  have c6 := (vcells R0).2.2.2.2.2.2.1
  have HS := hide (hS.below B0)
  have HB0 := hide B0
  clear hx hy h0 h1 hB hS B0 R0
  obtain ⟨ph, co, ro, aa, na, ca, ra, cr, wa, nw, cw, oa, cb, fa, nf, cf, ga, ng, cg, qa, cq, k0, k1, k2, k3⟩ := a
  simp only [vl]
  simp only at hW0 c6 HS
  obtain ⟨n, hn⟩ : ∃ n, c.os.length = n := ⟨_, rfl⟩
  rw [hn] at hW0 c6 hno ⊢
  have Hn := hide hn
  clear hn
  by_cases q1 : 1 ≤ x
  · by_cases q2 : x ≤ (n : Int)
    · obtain ⟨k, rfl⟩ : ∃ k : Nat, x = (k : Int) + 1 := ⟨x.toNat - 1, by omega⟩
      have hko : k < n := by omega
      have hko2 : (k : Int) < (n : Int) := by omega
      have hkl : k < c.os.length := by rw [Hn.out]; exact hko
      obtain ⟨o, ho⟩ : ∃ o, c.os[k]? = some o := ⟨c.os[k], by simp [hkl]⟩
      obtain ⟨b, off, ai, ci, hoa, hbl, hoc, hse⟩ := HS.out k o ho
      subst hoa
      have OC := hide (Ob.cells9 hoc)
      clear hoc hse
      obtain ⟨us, li, fi, ta, ag, ge, lk, nx, sl⟩ := o
      have o0 := OC.out.1
      have o5 := OC.out.2.2.2.2.2.1
      simp only at o0 o5
      have YES := hide (fun h1 h2 => GV.out.1 k _ rfl ho h1 h2)
      have NOT := hide (fun h1 => GV.out.2.1 k _ rfl ho h1)
      simp only at YES NOT
      clear OC ho hkl
      have l2 : ¬ ((n : Int) ≤ (k : Int)) := by omega
      cases us
      · have NO := hide (NOT.out (by simp))
        clear YES NOT
        go_enter Try.func27, Try.ntmps27
        go_wp2
        go_ret
        exact ⟨ret_int (by rw [NO.out]; rfl), HB0.out⟩
      · by_cases hg : ge = y
        · have hg2 : (ge != y) = false := by simp [hg]
          have YS := hide (YES.out rfl hg)
          clear YES NOT hg
          go_enter Try.func27, Try.ntmps27
          go_wp2
          go_ret
          exact ⟨ret_int (by rw [YS.out]; omega), HB0.out⟩
        · have hg2 : (ge != y) = true := by simp [hg]
          have NO := hide (NOT.out (fun _ => hg))
          clear YES NOT hg
          go_enter Try.func27, Try.ntmps27
          go_wp2
          go_ret
          exact ⟨ret_int (by rw [NO.out]; rfl), HB0.out⟩
    · have NO := hide (GV.out.2.2.2 (by rw [Hn.out]; omega))
      obtain ⟨k, rfl⟩ : ∃ k : Nat, x = (k : Int) + 1 := ⟨x.toNat - 1, by omega⟩
      have l2 : (n : Int) ≤ (k : Int) := by omega
      clear GV
      go_enter Try.func27, Try.ntmps27
      go_wp2
      go_ret
      exact ⟨ret_int (by rw [NO.out]; rfl), HB0.out⟩
  · have NO := hide (GV.out.2.2.1 (by omega))
    obtain rfl : x = 0 := by omega
    clear GV
    go_enter Try.func27, Try.ntmps27
    go_wp2
    go_ret
    exact ⟨ret_int (by rw [NO.out]; rfl), HB0.out⟩

/-- A set that has the objects of all good handles of a list. -/
def ClF (os : List Ob) (l : List Int) (f : Nat → Bool) : Prop := ∀ h ∈ l, gd os h ≠ 0 → f (gd os h - 1) = true
/-- .. and all that its objects show. -/
def ClO (os : List Ob) (f : Nat → Bool) (k : Nat) : Prop := ∀ i o, i < k → os[i]? = some o → f i = true → ClF os o.sl f
def Clo (os : List Ob) (l : List Int) (f : Nat → Bool) : Prop := ClF os l f ∧ ClO os f os.length
theorem clf_take {os : List Ob} {l : List Int} {f : Nat → Bool} {k : Nat} {u : Int} (h : ClF os (l.take k) f) (hu : l[k]? = some u) (h2 : gd os u ≠ 0 → f (gd os u - 1) = true) : ClF os (l.take (k + 1)) f := by
  intro x hx hx0
  rw [List.take_add_one, hu] at hx
  simp at hx
  rcases hx with hx | hx
  · exact h x hx hx0
  · subst hx; exact h2 hx0

set_option maxHeartbeats 8000000 in
theorem closed_ok {c : Vc} {a : Av} {w : World} {fa' : Option Addr} {fc g gc : Nat} {l : List Int} {f : Nat → Bool} (hS : Shows w c a) (hB : Bd c.os) (hL : SeesU w fa' l) (hW : Wd l) (hll : l.length ≤ 35184372088832) (hF : w.rowIs g 4 c.os.length (fun i => .bool (f i))) :
    Calls Try.prog 26 #[vl c a, .slice fa' l.length fc, .slice (some ⟨g, 0, none⟩) c.os.length gc] w fun e w' => Tells e (Clo c.os l f) ∧ Below w.heap.size w w' := by
  obtain ⟨W0, hW0, B0, R0⟩ := vbox w c a
  have VF := hide (fun (wx : World) (hb : Below W0.heap.size W0 wx) => vcells (row_on R0 hb))
  have HB0 := hide B0
  have HS0 := hide (hS.below B0).ob
  have HF0 := hide (row_on hF B0)
  have HL0 := hide (hL.below B0)
  have l0 : w.heap.size < W0.heap.size := R0.lt
  have GO := hide (fun (w1 : World) (h1 : Sob w1 a.oa c.os) (u : Int) (h2 : 0 ≤ u ∧ u < 18446744073709551616) => goodl_ok (a := a) h1 hB h2.1 h2.2)
  have HBd := hide hB
  have HWd := hide hW
  have hno := hB.no
  clear hS hB hL hW hF B0 R0
  obtain ⟨ph, co, ro, aa, na, ca, ra, cr, wa, nw, cw, oa, cb, fa, nf, cf, ga, ng, cg, qa, cq, k0, k1, k2, k3⟩ := a
  simp only [vl] at GO ⊢
  simp only at hW0 VF GO HS0
  obtain ⟨n, hn⟩ : ∃ n, c.os.length = n := ⟨_, rfl⟩
  obtain ⟨nr, hnre⟩ : ∃ nr, c.rs.length = nr := ⟨_, rfl⟩
  obtain ⟨nq, hnqe⟩ : ∃ nq, c.qu.length = nq := ⟨_, rfl⟩
  obtain ⟨N, hN⟩ : ∃ N, l.length = N := ⟨_, rfl⟩
  simp only [hn, hnre, hnqe] at hW0 VF GO HF0 ⊢
  rw [hN] at hll ⊢
  rw [hn] at hno
  have Hn := hide hn
  have HN := hide hN
  clear hn hnre hnqe hN
  go_enter Try.func26, Try.ntmps26
  go_wp2_with fail
  clear hW0
  go_loopw [7] (fun i wr => ∃ k : Nat, k ≤ N ∧ i = .int .i64 k ∧ Hid (ClF c.os (l.take k) f) ∧ Hid (Below W0.heap.size W0 wr)) (fun i _ => N - (intOf i).toNat)
  case atStart => exact ⟨0, Nat.zero_le _, rfl, (fun h hh => by simp at hh : ClF c.os (l.take 0) f), by show Below _ W0 W0; exact Below.refl _ _⟩
  case round =>
    obtain ⟨k, hk, rfl, HK, HB⟩ := hrel
    by_cases hlt : k < N
    · have hkn : (k : Int) < (N : Int) := by omega
      obtain ⟨u, hu⟩ : ∃ u, l[k]? = some u := ⟨l[k]'(by rw [HN.out]; exact hlt), by simp [HN.out, hlt]⟩
      have hwu := HWd.out u (List.mem_of_getElem? hu)
      obtain ⟨b, off, rfl, hbl, hcc⟩ := HL0.out.below HB.out k u hu
      have D1 : Below W0.heap.size W0 wr.drew := ⟨HB.out.os, HB.out.tape, HB.out.output, HB.out.size, HB.out.block⟩
      have Dr : Below wr.heap.size wr wr.drew := ⟨rfl, rfl, rfl, Nat.le_refl _, fun _ _ => rfl⟩
      have K0 := VF.out wr.drew D1
      have hcd : wr.drew.cell? ⟨b, off + k, none⟩ = some (.int .u64 u) := hcc
      have GX := hide (GO.out wr.drew (HS0.out.below D1) u hwu)
      have HU := hide hu
      obtain ⟨m, hm⟩ : ∃ m, gd c.os u = m := ⟨_, rfl⟩
      have hmn : m ≤ n := by rw [← hm, ← Hn.out]; exact gd_le _ _
      rw [hm] at GX
      have Hm := hide hm
      clear hu hm hwu
      go_upto_region 4 with (fail)
      go_region_held (fun w' => w'.cell? ⟨w.heap.size, 0, none⟩ = some (.int .i64 ph) ∧ w'.cell? ⟨w.heap.size, 1, none⟩ = some (.int .i64 co) ∧ w'.cell? ⟨w.heap.size, 2, none⟩ = some (.int .u64 ro) ∧ w'.cell? ⟨w.heap.size, 3, none⟩ = some (.slice aa na ca) ∧ w'.cell? ⟨w.heap.size, 4, none⟩ = some (.slice ra nr cr) ∧ w'.cell? ⟨w.heap.size, 5, none⟩ = some (.slice wa nw cw) ∧ w'.cell? ⟨w.heap.size, 6, none⟩ = some (.slice oa n cb) ∧ w'.cell? ⟨w.heap.size, 7, none⟩ = some (.slice fa nf cf) ∧ w'.cell? ⟨w.heap.size, 8, none⟩ = some (.slice ga ng cg) ∧ w'.cell? ⟨w.heap.size, 9, none⟩ = some (.slice qa nq cq) ∧ w'.cell? ⟨w.heap.size, 10, none⟩ = some (.int .u64 k0) ∧ w'.cell? ⟨w.heap.size, 11, none⟩ = some (.int .u64 k1) ∧ w'.cell? ⟨w.heap.size, 12, none⟩ = some (.int .u64 k2) ∧ w'.cell? ⟨w.heap.size, 13, none⟩ = some (.int .u64 k3) ∧ w'.cell? ⟨b, off + k, none⟩ = some (.int .u64 u)) (first | exact ⟨K0.1, K0.2.1, K0.2.2.1, K0.2.2.2.1, K0.2.2.2.2.1, K0.2.2.2.2.2.1, K0.2.2.2.2.2.2.1, K0.2.2.2.2.2.2.2.1, K0.2.2.2.2.2.2.2.2.1, K0.2.2.2.2.2.2.2.2.2.1, K0.2.2.2.2.2.2.2.2.2.2.1, K0.2.2.2.2.2.2.2.2.2.2.2.1, K0.2.2.2.2.2.2.2.2.2.2.2.2.1, K0.2.2.2.2.2.2.2.2.2.2.2.2.2, hcd⟩ | exact ⟨K1.1, K1.2.1, K1.2.2.1, K1.2.2.2.1, K1.2.2.2.2.1, K1.2.2.2.2.2.1, K1.2.2.2.2.2.2.1, K1.2.2.2.2.2.2.2.1, K1.2.2.2.2.2.2.2.2.1, K1.2.2.2.2.2.2.2.2.2.1, K1.2.2.2.2.2.2.2.2.2.2.1, K1.2.2.2.2.2.2.2.2.2.2.2.1, K1.2.2.2.2.2.2.2.2.2.2.2.2.1, K1.2.2.2.2.2.2.2.2.2.2.2.2.2, hc1⟩) ((go_at_call 27; refine GX.out.mono ?_; rintro e w1 ⟨rfl, hb⟩; have HB1 := hide hb; have K1 := VF.out w1 (D1.trans (hb.mono D1.size)); have hc1 : w1.cell? ⟨b, off + k, none⟩ = some (.int .u64 u) := (hb.cell (p := ⟨b, off + k, none⟩) hbl).trans hcd; clear hb))
      have BX := hide (show Below W0.heap.size W0 w1 from D1.trans (HB1.out.mono D1.size))
      clear K0 K1 hcd hc1 D1 Dr hcc
      by_cases hm0 : m = 0
      · subst hm0
        have NX := hide (clf_take HK.out HU.out (fun h => absurd Hm.out h))
        go_wp2_with fail
        go_roundw
        case rel => exact ⟨k + 1, by omega, by go_num, NX.out, BX.out⟩
        case measure => simp [intOf]; omega
      · obtain ⟨q, rfl⟩ : ∃ q, m = q + 1 := ⟨m - 1, by omega⟩
        have hq : q < n := by omega
        have hq2 : (q : Int) < (n : Int) := by omega
        have cq' := (row_on HF0.out BX.out).cell hq
        obtain ⟨bv, hbv⟩ : ∃ bv, f q = bv := ⟨_, rfl⟩
        rw [hbv] at cq'
        have HBV := hide hbv
        clear hbv
        cases bv
        · have NO := hide (show ¬ Clo c.os l f from fun h => by
            have := h.1 u (List.mem_of_getElem? HU.out) (by rw [Hm.out]; omega)
            rw [Hm.out] at this
            simp at this
            rw [HBV.out] at this
            cases this)
          go_wp2_with fail
          go_ret
          exact ⟨Tells.no NO.out, HB0.out.trans (BX.out.mono HB0.out.size)⟩
        · have NX := hide (clf_take HK.out HU.out (fun h => by rw [Hm.out]; simpa using HBV.out))
          go_wp2_with fail
          go_roundw
          case rel => exact ⟨k + 1, by omega, by go_num, NX.out, BX.out⟩
          case measure => simp [intOf]; omega
    · have hkn : ¬ (k : Int) < (N : Int) := by omega
      have CF := hide (show ClF c.os l f by have := HK.out; rw [List.take_of_length_le (by rw [HN.out]; omega)] at this; exact this)
      obtain ⟨wo, rfl⟩ : ∃ wo, wo = wr := ⟨_, rfl⟩
      go_wp2_with fail
      clear HK hkn hlt hk
      go_loopw [9] (fun i wr => ∃ k : Nat, k ≤ n ∧ i = .int .i64 k ∧ Hid (ClO c.os f k) ∧ Hid (Below W0.heap.size W0 wr)) (fun i _ => n - (intOf i).toNat)
      case atStart => exact ⟨0, Nat.zero_le _, rfl, (fun i o hi => absurd hi (by omega) : ClO c.os f 0), HB.out⟩
      case round =>
        obtain ⟨i, hi, rfl, HK, HB2⟩ := hrel
        have c6 := (VF.out wr HB2.out).2.2.2.2.2.2.1
        by_cases hlt : i < n
        · have hin : (i : Int) < (n : Int) := by omega
          obtain ⟨o, ho⟩ : ∃ o, c.os[i]? = some o := ⟨c.os[i]'(by rw [Hn.out]; exact hlt), by simp [Hn.out, hlt]⟩
          obtain ⟨b, off, ai, ci, hoa, hbl, hoc, hse⟩ := HS0.out i o ho
          have hom := List.mem_of_getElem? ho
          have hons := HBd.out.ns o hom
          have hosl := HBd.out.sl o hom
          subst hoa
          have O8 := hide (fun (wx : World) (hb : Below W0.heap.size W0 wx) => (hb.cell (p := ⟨b, off + i * 9 + 8, none⟩) hbl).trans (hoc 8 (by decide)))
          simp only [Ob.cell] at O8
          obtain ⟨M, hM⟩ : ∃ M, o.sl.length = M := ⟨_, rfl⟩
          rw [hM] at O8 hons
          have HMM := hide hM
          have HSE := hide hse
          have HSL := hide hosl
          have Ho := hide ho
          clear hoc hse ho hom hosl hM
          obtain ⟨wo2, rfl⟩ : ∃ wo2, wo2 = wr := ⟨_, rfl⟩
          go_wp2_with fail
          clear c6
          go_loopw [10] (fun j wr => ∃ k : Nat, k ≤ M ∧ j = .int .i64 k ∧ Hid (f i = true → ClF c.os (o.sl.take k) f) ∧ Hid (Below W0.heap.size W0 wr)) (fun j _ => M - (intOf j).toNat)
          case atStart => exact ⟨0, Nat.zero_le _, rfl, (fun _ h hh => by simp at hh : f i = true → ClF c.os (o.sl.take 0) f), HB2.out⟩
          case round =>
            obtain ⟨k, hk, rfl, HK3, HB3⟩ := hrel
            have c6 := (VF.out wr HB3.out).2.2.2.2.2.2.1
            have o8 := O8.out wr HB3.out
            by_cases hlt3 : k < M
            · have hkn : (k : Int) < (M : Int) := by omega
              obtain ⟨u, hu⟩ : ∃ u, o.sl[k]? = some u := ⟨o.sl[k]'(by rw [HMM.out]; exact hlt3), by simp [HMM.out, hlt3]⟩
              have hwu := HSL.out u (List.mem_of_getElem? hu)
              obtain ⟨b3, off3, hai, hbl3, hcc⟩ := HSE.out.below HB3.out k u hu
              subst hai
              have D1 : Below W0.heap.size W0 wr.drew := ⟨HB3.out.os, HB3.out.tape, HB3.out.output, HB3.out.size, HB3.out.block⟩
              have K0 := VF.out wr.drew D1
              have hcd : wr.drew.cell? ⟨b3, off3 + k, none⟩ = some (.int .u64 u) := hcc
              have od8 := O8.out wr.drew D1
              have GX := hide (GO.out wr.drew (HS0.out.below D1) u hwu)
              have HU := hide hu
              obtain ⟨m, hm⟩ : ∃ m, gd c.os u = m := ⟨_, rfl⟩
              have hmn : m ≤ n := by rw [← hm, ← Hn.out]; exact gd_le _ _
              rw [hm] at GX
              have Hm := hide hm
              clear hu hm hwu
              go_upto_region 13 with (fail)
              go_region_held (fun w' => w'.cell? ⟨w.heap.size, 0, none⟩ = some (.int .i64 ph) ∧ w'.cell? ⟨w.heap.size, 1, none⟩ = some (.int .i64 co) ∧ w'.cell? ⟨w.heap.size, 2, none⟩ = some (.int .u64 ro) ∧ w'.cell? ⟨w.heap.size, 3, none⟩ = some (.slice aa na ca) ∧ w'.cell? ⟨w.heap.size, 4, none⟩ = some (.slice ra nr cr) ∧ w'.cell? ⟨w.heap.size, 5, none⟩ = some (.slice wa nw cw) ∧ w'.cell? ⟨w.heap.size, 6, none⟩ = some (.slice (some ⟨b, off, none⟩) n cb) ∧ w'.cell? ⟨w.heap.size, 7, none⟩ = some (.slice fa nf cf) ∧ w'.cell? ⟨w.heap.size, 8, none⟩ = some (.slice ga ng cg) ∧ w'.cell? ⟨w.heap.size, 9, none⟩ = some (.slice qa nq cq) ∧ w'.cell? ⟨w.heap.size, 10, none⟩ = some (.int .u64 k0) ∧ w'.cell? ⟨w.heap.size, 11, none⟩ = some (.int .u64 k1) ∧ w'.cell? ⟨w.heap.size, 12, none⟩ = some (.int .u64 k2) ∧ w'.cell? ⟨w.heap.size, 13, none⟩ = some (.int .u64 k3) ∧ w'.cell? ⟨b3, off3 + k, none⟩ = some (.int .u64 u) ∧ w'.cell? ⟨b, off + i * 9 + 8, none⟩ = some (.slice (some ⟨b3, off3, none⟩) M ci)) (first | exact ⟨K0.1, K0.2.1, K0.2.2.1, K0.2.2.2.1, K0.2.2.2.2.1, K0.2.2.2.2.2.1, K0.2.2.2.2.2.2.1, K0.2.2.2.2.2.2.2.1, K0.2.2.2.2.2.2.2.2.1, K0.2.2.2.2.2.2.2.2.2.1, K0.2.2.2.2.2.2.2.2.2.2.1, K0.2.2.2.2.2.2.2.2.2.2.2.1, K0.2.2.2.2.2.2.2.2.2.2.2.2.1, K0.2.2.2.2.2.2.2.2.2.2.2.2.2, hcd, od8⟩ | exact ⟨K1.1, K1.2.1, K1.2.2.1, K1.2.2.2.1, K1.2.2.2.2.1, K1.2.2.2.2.2.1, K1.2.2.2.2.2.2.1, K1.2.2.2.2.2.2.2.1, K1.2.2.2.2.2.2.2.2.1, K1.2.2.2.2.2.2.2.2.2.1, K1.2.2.2.2.2.2.2.2.2.2.1, K1.2.2.2.2.2.2.2.2.2.2.2.1, K1.2.2.2.2.2.2.2.2.2.2.2.2.1, K1.2.2.2.2.2.2.2.2.2.2.2.2.2, hc1, oc1⟩) ((go_at_call 27; refine GX.out.mono ?_; rintro e w1 ⟨rfl, hb⟩; have HB1 := hide hb; have K1 := VF.out w1 (D1.trans (hb.mono D1.size)); have oc1 := O8.out w1 (D1.trans (hb.mono D1.size)); have hc1 : w1.cell? ⟨b3, off3 + k, none⟩ = some (.int .u64 u) := (hb.cell (p := ⟨b3, off3 + k, none⟩) hbl3).trans hcd; clear hb))
              have BX := hide (show Below W0.heap.size W0 w1 from D1.trans (HB1.out.mono D1.size))
              clear K0 K1 hcd hc1 oc1 od8 o8 c6 D1 hcc
              have fi' := (row_on HF0.out BX.out).cell hlt
              obtain ⟨iv, hiv⟩ : ∃ iv, f i = iv := ⟨_, rfl⟩
              rw [hiv] at fi'
              have HIV := hide hiv
              clear hiv
              cases iv
              · have NX := hide (show f i = true → ClF c.os (o.sl.take (k + 1)) f from fun h => by rw [HIV.out] at h; cases h)
                go_wp2_with fail
                go_roundw
                case rel => exact ⟨k + 1, by omega, by go_num, NX.out, BX.out⟩
                case measure => simp [intOf]; omega
              · by_cases hm0 : m = 0
                · subst hm0
                  have NX := hide (show f i = true → ClF c.os (o.sl.take (k + 1)) f from fun h => clf_take (HK3.out h) HU.out (fun h => absurd Hm.out h))
                  go_wp2_with fail
                  go_roundw
                  case rel => exact ⟨k + 1, by omega, by go_num, NX.out, BX.out⟩
                  case measure => simp [intOf]; omega
                · obtain ⟨q, rfl⟩ : ∃ q, m = q + 1 := ⟨m - 1, by omega⟩
                  have hq : q < n := by omega
                  have hq2 : (q : Int) < (n : Int) := by omega
                  have cq' := (row_on HF0.out BX.out).cell hq
                  obtain ⟨bv, hbv⟩ : ∃ bv, f q = bv := ⟨_, rfl⟩
                  rw [hbv] at cq'
                  have HBV := hide hbv
                  clear hbv
                  cases bv
                  · have NO := hide (show ¬ Clo c.os l f from fun h => by
                      have := h.2 i o (by rw [Hn.out]; exact hlt) Ho.out HIV.out u (List.mem_of_getElem? HU.out) (by rw [Hm.out]; omega)
                      rw [Hm.out] at this
                      simp at this
                      rw [HBV.out] at this
                      cases this)
                    go_wp2_with fail
                    go_ret
                    exact ⟨Tells.no NO.out, HB0.out.trans (BX.out.mono HB0.out.size)⟩
                  · have NX := hide (show f i = true → ClF c.os (o.sl.take (k + 1)) f from fun h => clf_take (HK3.out h) HU.out (fun h => by rw [Hm.out]; simpa using HBV.out))
                    go_wp2_with fail
                    go_roundw
                    case rel => exact ⟨k + 1, by omega, by go_num, NX.out, BX.out⟩
                    case measure => simp [intOf]; omega
            · have hkn : ¬ (k : Int) < (M : Int) := by omega
              have NX := hide (show ClO c.os f (i + 1) from fun i' o' hi' ho' hf => by
                by_cases e : i' < i
                · exact HK.out i' o' e ho' hf
                · obtain rfl : i' = i := by omega
                  rw [Ho.out] at ho'
                  cases ho'
                  have := HK3.out hf
                  rw [List.take_of_length_le (by rw [HMM.out]; omega)] at this
                  exact this)
              go_wp2_with fail
              go_roundw
              case rel => exact ⟨i + 1, by omega, by go_num, NX.out, HB3.out⟩
              case measure => simp [intOf]; omega
        · have hin : ¬ (i : Int) < (n : Int) := by omega
          have YES := hide (show Clo c.os l f from ⟨CF.out, fun i' o' hi' => HK.out i' o' (by rw [Hn.out] at hi'; omega)⟩)
          go_wp2_with fail
          go_ret
          exact ⟨Tells.yes YES.out, HB0.out.trans (HB2.out.mono HB0.out.size)⟩
end Gr
end Go.Proofs.Ytakgidhblkjjbaa
