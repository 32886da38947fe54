/-
  Graph: GraphWays' walk
-/
import Derived.Test.YtakgidhblkjjbaaGrWw
import Derived.Test.YtakgidhblkjjbaaGrL
import Derived.Test.YtakgidhblkjjbaaGrI
namespace Go.Proofs.Ytakgidhblkjjbaa
open Go.RowKit
set_option linter.unusedVariables false
set_option linter.unusedSimpArgs false
set_option linter.unnecessarySimpa false
set_option maxRecDepth 20000
namespace Gr
set_option maxHeartbeats 8000000 in
theorem ways_walk {c : Vc} {a : Av} {w : World} (hS : Shows w c a) (hB : Bv c) (tg : Int) :
    Calls Try.prog 8 #[vl c a, .int .i64 tg] w fun e w' => e = .returned (.bool true) ∧ Below w.heap.size w w' := by
  obtain ⟨W0, hW0, B0, R0⟩ := vbox w c a
  have VF := hide (fun (wx : World) (hb : Below W0.heap.size W0 wx) => vcells (row_on R0 hb))
  have HB0 := hide B0
  have HS0 := hide (hS.below B0)
  have WA := hide (fun (w1 : World) (h1 : Below W0.heap.size W0 w1) => way_ok (HS0.out.below h1) hB tg)
  have RW := hide (fun (w1 : World) (h1 : Below W0.heap.size W0 w1) (wy : List Int) (h2 : Wl c tg wy) => rway_ok (HS0.out.below h1) hB h2)
  have hno := hB.bd.no
  clear hS hB B0 R0
  obtain ⟨ph, co, ro, aa, na, ca, ra, cr, wa, nw, cw, oa, cb, fa, nf, cf, ga, ng, cg, qa, cq, k0, k1, k2, k3⟩ := a
  simp only [vl] at WA RW ⊢
  simp only at hW0 VF WA RW
  obtain ⟨n, hn⟩ : ∃ n, c.os.length = n := ⟨_, rfl⟩
  obtain ⟨nr, hnre⟩ : ∃ nr, c.rs.length = nr := ⟨_, rfl⟩
  obtain ⟨nqz, hnqe⟩ : ∃ nq, c.qu.length = nq := ⟨_, rfl⟩
  simp only [hn, hnre, hnqe] at hW0 VF WA RW hno ⊢
  have Hn := hide hn
  clear hn hnre hnqe
  have AL := hide (fun w1 => alive_ok w1)
  go_enter Try.func8, Try.ntmps8
  go_upto_region 3 with (go_at_call 9; refine (AL.out _).mono ?_; rintro e w1 ⟨rfl, hb⟩; have HB1 := hide hb; clear hb)
  clear hW0 AL
  have D1 : Below W0.heap.size W0 w1.drew := ⟨HB1.out.os, HB1.out.tape, HB1.out.output, HB1.out.size, HB1.out.block⟩
  have K0 := VF.out w1.drew D1
  go_region_held (fun w' => w'.cell? ⟨w.heap.size, 0, none⟩ = some (.int .i64 ph) ∧ w'.cell? ⟨w.heap.size, 1, none⟩ = some (.int .i64 co) ∧ w'.cell? ⟨w.heap.size, 2, none⟩ = some (.int .u64 ro) ∧ w'.cell? ⟨w.heap.size, 3, none⟩ = some (.slice aa na ca) ∧ w'.cell? ⟨w.heap.size, 4, none⟩ = some (.slice ra nr cr) ∧ w'.cell? ⟨w.heap.size, 5, none⟩ = some (.slice wa nw cw) ∧ w'.cell? ⟨w.heap.size, 6, none⟩ = some (.slice oa n cb) ∧ w'.cell? ⟨w.heap.size, 7, none⟩ = some (.slice fa nf cf) ∧ w'.cell? ⟨w.heap.size, 8, none⟩ = some (.slice ga ng cg) ∧ w'.cell? ⟨w.heap.size, 9, none⟩ = some (.slice qa nqz cq) ∧ w'.cell? ⟨w.heap.size, 10, none⟩ = some (.int .u64 k0) ∧ w'.cell? ⟨w.heap.size, 11, none⟩ = some (.int .u64 k1) ∧ w'.cell? ⟨w.heap.size, 12, none⟩ = some (.int .u64 k2) ∧ w'.cell? ⟨w.heap.size, 13, none⟩ = some (.int .u64 k3)) (first | exact K0 | exact K1 | exact K2 | exact K3) (first
    | (go_at_call 24; refine (WA.out _ (by exact D1)).mono ?_; rintro e w2 ⟨wy, hwy, ao2, cp2, rfl, ho, hb⟩; have HWY := hide hwy; have HO2 := hide ho; have B2 := hide (D1.trans (hb.mono D1.size)); have K1 := VF.out w2 B2.out; clear ho hb hwy)
    | (go_at_call 28; refine (RW.out _ (by exact B2.out) wy HWY.out).mono ?_; rintro e w3 ⟨ao3, cp3, rfl, ho, hb⟩; have HO3 := hide ho; have HO23 := hide (owns_on HO2.out hb); have B3 := hide (B2.out.trans (hb.mono B2.out.size)); have K2 := VF.out w3 B3.out; clear ho hb)
    | (go_at_call 18; refine (sameN (own_seesN HO23.out) (own_seesN HO3.out) rfl (by have := (wf_of HWY.out).len; rw [Hn.out] at this; omega)).mono ?_; rintro e w4 ⟨rfl, m4, rfl⟩; have B4 := hide (below_drewN B3.out m4); have K3 := VF.out (w3.drewN m4) B4.out))
  clear K0 K1 K2 K3 D1
  go_wp2_with fail
  go_ret
  exact ⟨rfl, HB0.out.trans (B4.out.mono HB0.out.size)⟩
end Gr
end Go.Proofs.Ytakgidhblkjjbaa
