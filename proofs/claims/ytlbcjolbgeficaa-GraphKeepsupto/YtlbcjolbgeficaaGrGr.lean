/-
  Graph: GraphReaches' walk
-/
import Derived.Test.YtlbcjolbgeficaaGrL
import Derived.Test.YtlbcjolbgeficaaGrRd
namespace Go.Proofs.Ytlbcjolbgeficaa
open Go.RowKit
set_option linter.unusedVariables false
set_option linter.unusedSimpArgs false
set_option linter.unnecessarySimpa false
set_option maxRecDepth 20000
namespace Gr
theorem sameRow {w : World} {g g' n : Nat} {f : Nat → Bool} (h : w.rowIs g 4 n (fun i => .bool (f i))) (h' : w.rowIs g' 4 n (fun i => .bool (f i))) (hn : n ≤ 9223372036854775807) :
    Calls Try.prog 15 #[.slice (some ⟨g, 0, none⟩) n n, .slice (some ⟨g', 0, none⟩) n n] w fun e w' => e = .returned (.bool true) ∧ Below w.heap.size w w' ∧ w'.heap = w.heap :=
  (sameB (row_seesB h) (row_seesB h') (by simp) hn).mono (by rintro e w' ⟨he, m, rfl⟩; exact ⟨he, below_drewN (Below.refl _ _) m, rfl⟩)
theorem sameOwnU {w : World} {b b' : Nat} {ao ao' : Option Addr} {n cap cap' : Nat} {l : List Int} (h : w.ownsRow b 22 1 (.slice ao n cap) n (ucs l)) (h' : w.ownsRow b' 22 1 (.slice ao' n cap') n (ucs l)) (hl : l.length = n) (hn : n ≤ 9223372036854775807) :
    Calls Try.prog 14 #[.slice ao n cap, .slice ao' n cap'] w fun e w' => e = .returned (.bool true) ∧ Below w.heap.size w w' ∧ w'.heap = w.heap :=
  (sameU (own_seesU h) (own_seesU h') hl hn).mono (by rintro e w' ⟨he, m, rfl⟩; exact ⟨he, below_drewN (Below.refl _ _) m, rfl⟩)
theorem sameOwnN {w : World} {b b' : Nat} {ao ao' : Option Addr} {n cap cap' : Nat} {l : List Int} (h : w.ownsRow b 3 1 (.slice ao n cap) n (ncs l)) (h' : w.ownsRow b' 3 1 (.slice ao' n cap') n (ncs l)) (hl : l.length = n) (hn : n ≤ 9223372036854775807) :
    Calls Try.prog 20 #[.slice ao n cap, .slice ao' n cap'] w fun e w' => e = .returned (.bool true) ∧ Below w.heap.size w w' ∧ w'.heap = w.heap :=
  (sameN (own_seesN h) (own_seesN h') hl hn).mono (by rintro e w' ⟨he, m, rfl⟩; exact ⟨he, below_drewN (Below.refl _ _) m, rfl⟩)

set_option maxHeartbeats 16000000 in
theorem reaches_walk {c : Vc} {a : Av} {w : World} {fa' : Option Addr} {fc : Nat} {l : List Int} (hS : Shows w c a) (hB : Bv c) (hL : SeesU w fa' l) (hW : Wd l) (hll : l.length ≤ 35184372088832) :
    Calls Try.prog 4 #[vl c a, .slice fa' l.length fc] w fun e w' => e = .returned (.bool true) ∧ Below w.heap.size w w' := by
  obtain ⟨W0, hW0, B0, R0⟩ := vbox w c a
  have VF := hide (fun (wx : World) (hb : Below W0.heap.size W0 wx) => vcells (row_on R0 hb))
  have HB0 := hide B0
  have HS0 := hide (hS.below B0)
  have HL0 := hide (hL.below B0)
  have l0 : w.heap.size < W0.heap.size := R0.lt
  have RE := hide (fun (w1 : World) (h1 : Below W0.heap.size W0 w1) => reach_ok (fc := fc) (a := a) (HS0.out.below h1).ob (HL0.out.below h1) hB.bd hW hll)
  have RR := hide (fun (w1 : World) (h1 : Below W0.heap.size W0 w1) => rreach_ok (fc := fc) (a := a) (HS0.out.below h1).ob (HL0.out.below h1) hB.bd hW hll)
  have RO := hide (fun (w1 : World) (h1 : Below W0.heap.size W0 w1) => roots_ok (HS0.out.below h1) hB)
  have QO := hide (fun (w1 : World) (h1 : Below W0.heap.size W0 w1) => rroots_ok (HS0.out.below h1) hB)
  have LI := hide (fun (w1 : World) (h1 : Below W0.heap.size W0 w1) => live_ok (HS0.out.below h1) hB)
  have QL := hide (fun (w1 : World) (h1 : Below W0.heap.size W0 w1) => rlive_ok (HS0.out.below h1) hB)
  have DE := hide (fun (w1 : World) (h1 : Below W0.heap.size W0 w1) => dead_ok (HS0.out.below h1) hB)
  have QD := hide (fun (w1 : World) (h1 : Below W0.heap.size W0 w1) => rdead_ok (HS0.out.below h1) hB)
  have HE := hide (fun (w1 : World) (h1 : Below W0.heap.size W0 w1) => held_ok (HS0.out.below h1) hB)
  have QH := hide (fun (w1 : World) (h1 : Below W0.heap.size W0 w1) => rheld_ok (HS0.out.below h1) hB)
  have hno := hB.bd.no
  have hrl := rts_len hB
  have hdl : (dd c).length ≤ c.os.length := ddk_len c _
  clear hS hB hL hW hll B0 R0
  obtain ⟨ph, co, ro, aa, na, ca, ra, cr, wa, nw, cw, oa, cb, fa, nf, cf, ga, ng, cg, qa, cq, k0, k1, k2, k3⟩ := a
  simp only [vl] at RE RR RO QO LI QL DE QD HE QH ⊢
  simp only at hW0 VF RE RR RO QO LI QL DE QD HE QH
  obtain ⟨n, hn⟩ : ∃ n, c.os.length = n := ⟨_, rfl⟩
  obtain ⟨nr, hnre⟩ : ∃ nr, c.rs.length = nr := ⟨_, rfl⟩
  obtain ⟨nq, hnqe⟩ : ∃ nq, c.qu.length = nq := ⟨_, rfl⟩
  obtain ⟨N, hN⟩ : ∃ N, l.length = N := ⟨_, rfl⟩
  obtain ⟨m, hm⟩ : ∃ m, (rts c).length = m := ⟨_, rfl⟩
  obtain ⟨nd, hnd⟩ : ∃ nd, (dd c).length = nd := ⟨_, rfl⟩
  rw [hm] at hrl
  rw [hnd] at hdl
  simp only [hn, hnre, hnqe, hN] at hW0 VF RE RR RO QO LI QL DE QD HE QH hno hdl ⊢
  have Hm := hide hm
  have Hnd := hide hnd
  clear hn hnre hnqe hN hm hnd
  have AL := hide (fun w1 => alive_ok w1)
  have SB := hide (fun (wx : World) (g g' : Nat) (f : Nat → Bool) (h : wx.rowIs g 4 n (fun i => .bool (f i))) (h' : wx.rowIs g' 4 n (fun i => .bool (f i))) => sameRow h h' (show n ≤ 9223372036854775807 by omega))
  have hnB : n ≤ 9223372036854775807 := by omega
  go_enter Try.func4, Try.ntmps4
  go_upto_region 3 with (go_at_call 5; refine (AL.out _).mono ?_; rintro e w1 ⟨rfl, hb⟩; have HB1 := hide hb; clear hb)
  clear hW0 AL
  have D1 : Below W0.heap.size W0 w1.drew := ⟨HB1.out.os, HB1.out.tape, HB1.out.output, HB1.out.size, HB1.out.block⟩
  have K0 := VF.out w1.drew D1
  go_region_held (fun w' => w'.cell? ⟨w.heap.size, 0, none⟩ = some (.int .i64 ph) ∧ w'.cell? ⟨w.heap.size, 1, none⟩ = some (.int .i64 co) ∧ w'.cell? ⟨w.heap.size, 2, none⟩ = some (.int .u64 ro) ∧ w'.cell? ⟨w.heap.size, 3, none⟩ = some (.slice aa na ca) ∧ w'.cell? ⟨w.heap.size, 4, none⟩ = some (.slice ra nr cr) ∧ w'.cell? ⟨w.heap.size, 5, none⟩ = some (.slice wa nw cw) ∧ w'.cell? ⟨w.heap.size, 6, none⟩ = some (.slice oa n cb) ∧ w'.cell? ⟨w.heap.size, 7, none⟩ = some (.slice fa nf cf) ∧ w'.cell? ⟨w.heap.size, 8, none⟩ = some (.slice ga ng cg) ∧ w'.cell? ⟨w.heap.size, 9, none⟩ = some (.slice qa nq cq) ∧ w'.cell? ⟨w.heap.size, 10, none⟩ = some (.int .u64 k0) ∧ w'.cell? ⟨w.heap.size, 11, none⟩ = some (.int .u64 k1) ∧ w'.cell? ⟨w.heap.size, 12, none⟩ = some (.int .u64 k2) ∧ w'.cell? ⟨w.heap.size, 13, none⟩ = some (.int .u64 k3)) (first | exact K0 | exact K1 | exact K2 | exact K3 | exact K4 | exact K5 | exact K6) (first
    | (go_at_call 7; refine (RE.out _ (by exact D1)).mono ?_; rintro e w2 ⟨g2, rfl, hg, hr, hb⟩; have HR2 := hide hr; have B2 := hide (D1.trans (hb.mono D1.size)); have K1 := VF.out w2 B2.out; clear hr hb hg)
    | (go_at_call 16; refine (RR.out _ (by exact B2.out)).mono ?_; rintro e w3 ⟨g3, rfl, hg, hr, hb⟩; have HR3 := hide hr; have HR23 := hide (row_on HR2.out hb); have B3 := hide (B2.out.trans (hb.mono B2.out.size)); have K2 := VF.out w3 B3.out; have SB3 := hide (SB.out w3 g2 g3 _ HR23.out HR3.out); clear hr hb hg)
    | (go_at_call 15; refine SB3.out.mono ?_; rintro e w4 ⟨rfl, hb, _⟩; have B4 := hide (B3.out.trans (hb.mono B3.out.size)); have K3 := VF.out w4 B4.out; clear hb)
    | (go_at_call 8; refine (RO.out _ (by exact B4.out)).mono ?_; rintro e w5 ⟨ao5, cp5, rfl, ho, hb⟩; rw [Hm.out] at ho; (try rw [Hm.out]); have HO5 := hide ho; have B5 := hide (B4.out.trans (hb.mono B4.out.size)); have K4 := VF.out w5 B5.out; clear ho hb)
    | (go_at_call 17; refine (QO.out _ (by exact B5.out)).mono ?_; rintro e w6 ⟨ao6, cp6, rfl, ho, hb⟩; rw [Hm.out] at ho; (try rw [Hm.out]); have HO6 := hide ho; have HO56 := hide (owns_on HO5.out hb); have B6 := hide (B5.out.trans (hb.mono B5.out.size)); have K5 := VF.out w6 B6.out; have SU6 := hide (sameOwnU HO56.out HO6.out Hm.out (by omega)); clear ho hb)
    | (go_at_call 14; refine SU6.out.mono ?_; rintro e w7 ⟨rfl, hb, _⟩; have B7 := hide (B6.out.trans (hb.mono B6.out.size)); have K6 := VF.out w7 B7.out; clear hb))
  clear K0 K1 K2 K3 K4 K5 K6 D1 SB3 SU6 HR2 HR3 HR23 HO5 HO6 HO56
  go_upto_region 5 with (fail)
  have D7 : Below W0.heap.size W0 w7.drew := ⟨B7.out.os, B7.out.tape, B7.out.output, B7.out.size, B7.out.block⟩
  have K0 := VF.out w7.drew D7
  go_region_held (fun w' => w'.cell? ⟨w.heap.size, 0, none⟩ = some (.int .i64 ph) ∧ w'.cell? ⟨w.heap.size, 1, none⟩ = some (.int .i64 co) ∧ w'.cell? ⟨w.heap.size, 2, none⟩ = some (.int .u64 ro) ∧ w'.cell? ⟨w.heap.size, 3, none⟩ = some (.slice aa na ca) ∧ w'.cell? ⟨w.heap.size, 4, none⟩ = some (.slice ra nr cr) ∧ w'.cell? ⟨w.heap.size, 5, none⟩ = some (.slice wa nw cw) ∧ w'.cell? ⟨w.heap.size, 6, none⟩ = some (.slice oa n cb) ∧ w'.cell? ⟨w.heap.size, 7, none⟩ = some (.slice fa nf cf) ∧ w'.cell? ⟨w.heap.size, 8, none⟩ = some (.slice ga ng cg) ∧ w'.cell? ⟨w.heap.size, 9, none⟩ = some (.slice qa nq cq) ∧ w'.cell? ⟨w.heap.size, 10, none⟩ = some (.int .u64 k0) ∧ w'.cell? ⟨w.heap.size, 11, none⟩ = some (.int .u64 k1) ∧ w'.cell? ⟨w.heap.size, 12, none⟩ = some (.int .u64 k2) ∧ w'.cell? ⟨w.heap.size, 13, none⟩ = some (.int .u64 k3)) (first | exact K0 | exact K1 | exact K2 | exact K3 | exact K4 | exact K5 | exact K6 | exact K7 | exact K8 | exact K9) (first
    | (go_at_call 9; refine (LI.out _ (by exact D7)).mono ?_; rintro e w8 ⟨g8, rfl, hg, hr, hb⟩; have HR8 := hide hr; have B8 := hide (D7.trans (hb.mono D7.size)); have K1 := VF.out w8 B8.out; clear hr hb hg)
    | (go_at_call 19; refine (QL.out _ (by exact B8.out)).mono ?_; rintro e w9 ⟨g9, rfl, hg, hr, hb⟩; have HR9 := hide hr; have HR89 := hide (row_on HR8.out hb); have B9 := hide (B8.out.trans (hb.mono B8.out.size)); have K2 := VF.out w9 B9.out; have SB9 := hide (SB.out w9 g8 g9 _ HR89.out HR9.out); clear hr hb hg)
    | (go_at_call_of 15 (Value.slice (some ⟨g8, 0, none⟩) n n); refine SB9.out.mono ?_; rintro e w10 ⟨rfl, hb, _⟩; have B10 := hide (B9.out.trans (hb.mono B9.out.size)); have K3 := VF.out w10 B10.out; clear hb)
    | (go_at_call 10; refine (DE.out _ (by exact B10.out)).mono ?_; rintro e w11 ⟨ao11, cp11, rfl, ho, hb⟩; rw [Hnd.out] at ho; (try rw [Hnd.out]); have HO11 := hide ho; have B11 := hide (B10.out.trans (hb.mono B10.out.size)); have K4 := VF.out w11 B11.out; clear ho hb)
    | (go_at_call 21; refine (QD.out _ (by exact B11.out)).mono ?_; rintro e w12 ⟨ao12, cp12, rfl, ho, hb⟩; rw [Hnd.out] at ho; (try rw [Hnd.out]); have HO12 := hide ho; have HO1112 := hide (owns_on HO11.out hb); have B12 := hide (B11.out.trans (hb.mono B11.out.size)); have K5 := VF.out w12 B12.out; have SU12 := hide (sameOwnN HO1112.out HO12.out Hnd.out (by omega)); clear ho hb)
    | (go_at_call 20; refine SU12.out.mono ?_; rintro e w13 ⟨rfl, hb, _⟩; have B13 := hide (B12.out.trans (hb.mono B12.out.size)); have K6 := VF.out w13 B13.out; clear hb)
    | (go_at_call 12; refine (HE.out _ (by exact B13.out)).mono ?_; rintro e w14 ⟨g14, rfl, hg, hr, hb⟩; have HR14 := hide hr; have B14 := hide (B13.out.trans (hb.mono B13.out.size)); have K7 := VF.out w14 B14.out; clear hr hb hg)
    | (go_at_call 18; refine (QH.out _ (by exact B14.out)).mono ?_; rintro e w15 ⟨g15, rfl, hg, hr, hb⟩; have HR15 := hide hr; have HR1415 := hide (row_on HR14.out hb); have B15 := hide (B14.out.trans (hb.mono B14.out.size)); have K8 := VF.out w15 B15.out; have SB15 := hide (SB.out w15 g14 g15 _ HR1415.out HR15.out); clear hr hb hg)
    | (go_at_call 15; refine SB15.out.mono ?_; rintro e w16 ⟨rfl, hb, _⟩; have B16 := hide (B15.out.trans (hb.mono B15.out.size)); have K9 := VF.out w16 B16.out; clear hb))
  go_wp2_with fail
  go_ret
  exact ⟨rfl, HB0.out.trans (B16.out.mono HB0.out.size)⟩
end Gr
end Go.Proofs.Ytlbcjolbgeficaa
