/-
  Hue: HueSteps for whatever view and number
-/
import Derived.Test.YtnodkeoikamonabHuSp
namespace Go.Proofs.Ytnodkeoikamonab
open Go.RowKit
set_option linter.unusedVariables false
set_option linter.unusedSimpArgs false
set_option linter.unnecessarySimpa false
set_option maxRecDepth 20000
namespace Hu
open Gr

set_option maxHeartbeats 4000000 in
theorem steps_nil {c : Vc} {a : Av} {w : World} {gl bs : List Int} {ba : Option Addr} {bc : Nat} (h0 : H0 w c a gl ba bs) (wi sl0 hh : Int) (hn : c.os.length = 0) : Calls Try.prog 6 #[vl c a, .slice ba bs.length bc, .int .i64 wi, .int .i64 sl0, .int .u64 hh] w fun e w' => e = .returned (.bool true) ∧ Below w.heap.size w w' := by
  obtain ⟨W0, hW0, B0, R0⟩ := vbox w c a
  have VF := hide (fun (wx : World) (hb : Below W0.heap.size W0 wx) => vcells (row_on R0 hb))
  have HB0 := hide B0
  have GR := hide (fun (wx : World) (hb : Below w.heap.size w wx) => great_ok (bc := bc) (w := wx) ⟨h0.s.below hb, h0.b, h0.n.below hb, h0.cb, h0.no, h0.ng, h0.g.below hb, h0.l.below hb, h0.gl, h0.bl⟩)
  have UPW := hide (fun (wx : World) (hb : Below W0.heap.size W0 wx) => show Below w.heap.size w wx from HB0.out.trans (hb.mono HB0.out.size))
  unfold Gt at GR
  clear B0 R0 h0
  obtain ⟨ph, co, ro, aa, na, ca, ra, cr, wa, nw, cw, oa, cb, fa, nf, cf, ga, ng, cg, qa, cq, k0, k1, k2, k3⟩ := a
  simp only [vl] at GR ⊢
  simp only at hW0 VF GR
  obtain ⟨nr, hnre⟩ : ∃ nr, c.rs.length = nr := ⟨_, rfl⟩
  obtain ⟨nqz, hnqe⟩ : ∃ nqz, c.qu.length = nqz := ⟨_, rfl⟩
  obtain ⟨nbs, hnbs⟩ : ∃ nbs, bs.length = nbs := ⟨_, rfl⟩
  simp only [hn, hnre, hnqe, hnbs] at hW0 VF GR ⊢
  clear hn hnre hnqe hnbs
  go_enter Try.func6, Try.ntmps6
  go_upto_region 3 with (go_at_call 9; refine (awake_ok).mono ?_; rintro e w1 ⟨rfl, hb⟩; have HB1 := hide hb; clear hb)
  clear hW0
  obtain ⟨x0, x1, x2, x3, x4, x5, x6, x7, x8, x9, x10, x11, x12, x13⟩ := VF.out w1 HB1.out
  have AF := hide (fun (wx : World) (hb : Below W0.heap.size W0 wx) => (VF.out wx hb).2.2.2.2.2.2.1)
  go_upto_if 44 with (go_at_call 10; refine (GR.out _ (UPW.out _ HB1.out)).mono ?_; rintro e w2 ⟨v, rfl, hsm, hb⟩; have HB2 := hide (HB1.out.trans (hb.mono HB1.out.size)); have x62 := AF.out w2 HB2.out; clear hsm hb)
  all_goals go_wp2_with fail
  all_goals go_ret
  all_goals exact ⟨rfl, UPW.out _ HB2.out⟩
theorem steps_walk {c : Vc} {a : Av} {w : World} {gl bs : List Int} {ba : Option Addr} {bc : Nat} (h0 : H0 w c a gl ba bs) (wi sl0 hh : Int) (hnb : ba = none → bc = 0) (hwi : -9223372036854775808 ≤ wi ∧ wi ≤ 9223372036854775807) (hsl : -9223372036854775808 ≤ sl0 ∧ sl0 ≤ 9223372036854775807) (hhb : 0 ≤ hh ∧ hh < 18446744073709551616) : Calls Try.prog 6 #[vl c a, .slice ba bs.length bc, .int .i64 wi, .int .i64 sl0, .int .u64 hh] w fun e w' => e = .returned (.bool true) ∧ Below w.heap.size w w' := by
  by_cases hn : c.os.length = 0
  · exact steps_nil h0 wi sl0 hh hn
  · have hw : 0 ≤ wq wi := by unfold wq; split <;> omega
    have h1 := Int.emod_nonneg (wq wi) (show (c.os.length : Int) ≠ 0 by omega)
    have h2 := Int.emod_lt_of_pos (wq wi) (show (0 : Int) < (c.os.length : Int) by omega)
    have hq : ((wq wi) % (c.os.length : Int)).toNat < c.os.length := by omega
    refine steps_main h0 wi sl0 hh hnb hwi hsl hhb (q := ((wq wi) % (c.os.length : Int)).toNat) (o := c.os[((wq wi) % (c.os.length : Int)).toNat]) (by simp [hq]) ?_
    rw [Int.tmod_eq_emod_of_nonneg hw]
    omega
end Hu
end Go.Proofs.Ytnodkeoikamonab
