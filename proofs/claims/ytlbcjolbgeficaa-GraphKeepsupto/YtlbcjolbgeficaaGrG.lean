/-
  Graph: Live, Dead, Held
-/
import Derived.Test.YtlbcjolbgeficaaGrF
namespace Go.Proofs.Ytlbcjolbgeficaa
open Go.RowKit
set_option linter.unusedVariables false
set_option linter.unusedSimpArgs false
set_option linter.unnecessarySimpa false
set_option maxRecDepth 20000
namespace Gr
theorem hd_wd (k g : Int) : 0 ≤ hd k g ∧ hd k g < 18446744073709551616 := ⟨hd_lo k g, hd_hi k g⟩
theorem hof_wd (os : List Ob) (k : Int) : 0 ≤ hof os k ∧ hof os k < 18446744073709551616 := by
  unfold hof
  split
  · exact hd_wd _ _
  · omega
theorem rts_wd {c : Vc} (h : Bv c) : Wd (rts c) := by
  intro u hu
  rcases List.mem_append.1 hu with hu | hu
  · have hu := (List.mem_filter.1 hu).1
    obtain ⟨l, hl, hul⟩ := List.mem_flatten.1 hu
    exact (h.rl l hl).2 u hul
  · obtain ⟨k, _, rfl⟩ := List.mem_map.1 hu
    exact hof_wd _ _
theorem rts_len {c : Vc} (h : Bv c) : (rts c).length ≤ 8796093022208 := by
  have h1 := List.length_filter_le nz c.rs.flatten
  have h2 := List.length_filter_le (isO c.os.length) c.qu
  have h3 := h.sum
  unfold rts
  rw [List.length_append, List.length_map]
  omega
theorem Bt.lift {w w1 w' : World} {e : Ending} {n : Nat} {f : Nat → Bool} (h : Bt w1 w' e n f) (hb : Below w.heap.size w w1) : Bt w w' e n f := by
  obtain ⟨g, h1, h2, h3, h4⟩ := h
  exact ⟨g, h1, Nat.le_trans hb.size h2, h3, hb.trans (h4.mono hb.size)⟩

set_option maxHeartbeats 4000000 in
theorem live_ok {c : Vc} {a : Av} {w : World} (hS : Shows w c a) (hB : Bv c) : Calls Try.prog 9 #[vl c a] w fun e w' => Bt w w' e c.os.length (rb c.os (rts c)) := by
  obtain ⟨m, hm⟩ : ∃ m, (rts c).length = m := ⟨_, rfl⟩
  have Hm := hide hm
  obtain ⟨W0, hW0, B0, R0⟩ := vbox w c a
  have VF := hide (fun (wx : World) (hb : Below W0.heap.size W0 wx) => vcells (row_on R0 hb))
  have HB0 := hide B0
  have HS0 := hide (hS.below B0)
  have l0 : w.heap.size < W0.heap.size := R0.lt
  have HBv := hide hB
  have RO := hide (fun (w1 : World) (h1 : Shows w1 c a) => roots_ok h1 hB)
  have RE := hide (fun (w1 : World) (h1 : Shows w1 c a) (ao : Option Addr) (cp : Nat) (h2 : SeesU w1 ao (rts c)) => reach_ok (fc := cp) h1.ob h2 hB.bd (rts_wd hB) (by have := rts_len hB; omega))
  have hno := hB.bd.no
  clear hS hB B0 R0
  obtain ⟨ph, co, ro, aa, na, ca, ra, cr, wa, nw, cw, oa, cb, fa, nf, cf, ga, ng, cg, qa, cq, k0, k1, k2, k3⟩ := a
  simp only [vl] at RO RE ⊢
  simp only at hW0 VF RO RE
  obtain ⟨n, hn⟩ : ∃ n, c.os.length = n := ⟨_, rfl⟩
  obtain ⟨nr, hnre⟩ : ∃ nr, c.rs.length = nr := ⟨_, rfl⟩
  obtain ⟨nq, hnqe⟩ : ∃ nq, c.qu.length = nq := ⟨_, rfl⟩
  rw [hn, hnre, hnqe] at hW0 VF RO RE ⊢
  rw [hn] at hno
  have Hn := hide hn
  have Hnr := hide hnre
  have Hnq := hide hnqe
  clear hn hnre hnqe
  have D0 : Below W0.heap.size W0 W0.drew := ⟨rfl, rfl, rfl, Nat.le_refl _, fun _ _ => rfl⟩
  rw [hm] at RE
  clear hm
  have K0 := VF.out W0.drew D0
  go_enter Try.func9, Try.ntmps9
  go_upto_region 1 with (fail)
  go_region_held (fun w' => w'.cell? ⟨w.heap.size, 0, none⟩ = some (.int .i64 ph) ∧ w'.cell? ⟨w.heap.size, 1, none⟩ = some (.int .i64 co) ∧ w'.cell? ⟨w.heap.size, 2, none⟩ = some (.int .u64 ro) ∧ w'.cell? ⟨w.heap.size, 3, none⟩ = some (.slice aa na ca) ∧ w'.cell? ⟨w.heap.size, 4, none⟩ = some (.slice ra nr cr) ∧ w'.cell? ⟨w.heap.size, 5, none⟩ = some (.slice wa nw cw) ∧ w'.cell? ⟨w.heap.size, 6, none⟩ = some (.slice oa n cb) ∧ w'.cell? ⟨w.heap.size, 7, none⟩ = some (.slice fa nf cf) ∧ w'.cell? ⟨w.heap.size, 8, none⟩ = some (.slice ga ng cg) ∧ w'.cell? ⟨w.heap.size, 9, none⟩ = some (.slice qa nq cq) ∧ w'.cell? ⟨w.heap.size, 10, none⟩ = some (.int .u64 k0) ∧ w'.cell? ⟨w.heap.size, 11, none⟩ = some (.int .u64 k1) ∧ w'.cell? ⟨w.heap.size, 12, none⟩ = some (.int .u64 k2) ∧ w'.cell? ⟨w.heap.size, 13, none⟩ = some (.int .u64 k3)) (first | exact K0 | exact K2 | exact K1) (first
    | (go_at_call 8; refine (RO.out _ (by exact HS0.out.below D0)).mono ?_; rintro e w1 ⟨ao, cp, rfl, ho, hb⟩; rw [Hm.out] at ho; (try rw [Hm.out]); have HO := hide ho; have HB := hide (D0.trans hb); have K1 := VF.out w1 HB.out; have RX := hide (RE.out w1 (HS0.out.below HB.out) ao cp (own_seesU ho)); clear ho hb)
    | (go_at_call 7; refine RX.out.mono ?_; rintro e w2 ⟨g, rfl, hg, hr, hb⟩; have HR := hide hr; have HB2 := hide hb; have K2 := VF.out w2 (HB.out.trans (HB2.out.mono HB.out.size)); clear hr hb))
  go_wp2_with fail
  go_ret
  exact Bt.lift ⟨g, rfl, hg, HR.out, HB2.out⟩ (HB0.out.trans (HB.out.mono HB0.out.size))
end Gr
end Go.Proofs.Ytlbcjolbgeficaa
