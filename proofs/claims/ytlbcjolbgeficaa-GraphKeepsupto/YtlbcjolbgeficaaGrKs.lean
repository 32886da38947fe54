/-
  Graph: GraphKeeps: sameView of two views that show the same
-/
import Derived.Test.YtlbcjolbgeficaaGrKc
import Derived.Test.YtlbcjolbgeficaaGrRa
import Derived.Deep.CutRange
import Derived.BigQuiet
namespace Go.Proofs.Ytlbcjolbgeficaa
open Go.RowKit
set_option linter.unusedVariables false
set_option linter.unusedSimpArgs false
set_option linter.unnecessarySimpa false
set_option maxRecDepth 20000
namespace Gr
theorem two_rows (w : World) (l1 l2 : List Value) (h1 : l1.length = 9) (h2 : l2.length = 9) : ((w.alloc (.cells l1.toArray 41)).alloc (.cells l2.toArray 41)).drew.rowIs w.heap.size 41 9 (lrow l1) ∧ ((w.alloc (.cells l1.toArray 41)).alloc (.cells l2.toArray 41)).drew.rowIs (w.heap.size + 1) 41 9 (lrow l2) ∧ Below w.heap.size w ((w.alloc (.cells l1.toArray 41)).alloc (.cells l2.toArray 41)).drew := by
  have q1 := rowL_alloc w l1 41 h1
  have q2 := rowL_alloc (w.alloc (.cells l1.toArray 41)) l2 41 h2
  refine ⟨(q1.alloc _).drew, ?_, (((Below.refl _ w).alloc (Nat.le_refl _) _).alloc (by simp) _).drew⟩
  simpa using q2.drew
set_option maxHeartbeats 16000000 in
theorem sameView_ok {c : Vc} {a a' : Av} {w : World} (hS : Shows w c a) (hS' : Shows w c a') (hZ : Sz c) : Calls Try.prog 13 #[vl c a, vl c a'] w fun e w' => e = .returned (.bool true) ∧ Below w.heap.size w w' := by
  obtain ⟨W0, hW0, B0, R0⟩ := vbox w c a
  obtain ⟨W1, hW1, B1, R1⟩ := vbox W0 c a'
  have HS := hide hS
  have HS' := hide hS'
  have HZ := hide hZ
  have hno := hZ.no
  have hnr := hZ.nr
  have hnq := hZ.nq
  have l0 : w.heap.size < W0.heap.size := R0.lt
  have l1 : W0.heap.size < W1.heap.size := R1.lt
  have RX := hide (row_on R0 B1)
  have RY := hide R1
  have HB := hide (B0.trans (B1.mono B0.size))
  have SN := hide (sameN (cap := a.cq) (cap' := a'.cq) (hS.below HB.out).qu (hS'.below HB.out).qu rfl (show c.qu.length ≤ 9223372036854775807 by omega))
  clear hS hS' hZ B0 B1 R0 R1
  obtain ⟨ph, co, ro, aa, na, ca, ra, cr, wa, nw, cw, oa, cb, fa, nf, cf, ga, ng, cg, qa, cq, k0, k1, k2, k3⟩ := a
  obtain ⟨ph', co', ro', aa', na', ca', ra', cr', wa', nw', cw', oa', cb', fa', nf', cf', ga', ng', cg', qa', cq', k0', k1', k2', k3'⟩ := a'
  simp only [vl, vcl] at RX RY hW0 hW1 SN ⊢
  obtain ⟨n, hn⟩ : ∃ n, c.os.length = n := ⟨_, rfl⟩
  obtain ⟨nr, hnre⟩ : ∃ nr, c.rs.length = nr := ⟨_, rfl⟩
  obtain ⟨nqz, hnqe⟩ : ∃ nqz, c.qu.length = nqz := ⟨_, rfl⟩
  rw [hn, hnre, hnqe] at RX RY hW0 hW1 ⊢
  rw [hn] at hno
  rw [hnre] at hnr
  rw [hnqe] at hnq SN
  have Hn := hide hn
  have Hnr := hide hnre
  clear hn hnre hnqe
  have x4 : W1.cell? ⟨w.heap.size, 4, none⟩ = some (.slice ra nr cr) := RX.out.cell (i := 4) (by decide)
  have x6 : W1.cell? ⟨w.heap.size, 6, none⟩ = some (.slice oa n cb) := RX.out.cell (i := 6) (by decide)
  have x9 : W1.cell? ⟨w.heap.size, 9, none⟩ = some (.slice qa nqz cq) := RX.out.cell (i := 9) (by decide)
  have y4 : W1.cell? ⟨W0.heap.size, 4, none⟩ = some (.slice ra' nr cr') := RY.out.cell (i := 4) (by decide)
  have y6 : W1.cell? ⟨W0.heap.size, 6, none⟩ = some (.slice oa' n cb') := RY.out.cell (i := 6) (by decide)
  have y9 : W1.cell? ⟨W0.heap.size, 9, none⟩ = some (.slice qa' nqz cq') := RY.out.cell (i := 9) (by decide)
  have lw1 : w.heap.size < W1.heap.size := by omega
  go_enter Try.func13, Try.ntmps13
  go_upto_region 3 with (go_at_call 20; refine SN.out.mono ?_; rintro e w2 ⟨rfl, m2, rfl⟩)
  clear hW0 hW1 x4 x6 x9 y4 y6 y9 SN
  go_wp2_with fail
  go_loopw [5] (fun i wr => ∃ k : Nat, k ≤ nr ∧ i = .int .i64 k ∧ Hid (Below W1.heap.size W1 wr)) (fun i _ => nr - (intOf i).toNat)
  case atStart => exact ⟨0, Nat.zero_le _, rfl, below_drewN (Below.refl _ _) _⟩
  case round =>
    obtain ⟨k, hk, rfl, HW⟩ := hrel
    have HBr := hide (HB.out.trans (HW.out.mono HB.out.size))
    have x4 : wr.cell? ⟨w.heap.size, 4, none⟩ = some (.slice ra nr cr) := (row_on RX.out HW.out).cell (i := 4) (by decide)
    have y4 : wr.cell? ⟨W0.heap.size, 4, none⟩ = some (.slice ra' nr cr') := (row_on RY.out HW.out).cell (i := 4) (by decide)
    by_cases hlt : k < nr
    · have hkn : (k : Int) < (nr : Int) := by omega
      obtain ⟨l, hl⟩ : ∃ l, c.rs[k]? = some l := ⟨c.rs[k]'(by rw [Hnr.out]; exact hlt), by simp [Hnr.out, hlt]⟩
      obtain ⟨b, off, ai, ci, hra, hbl, hcc, hse⟩ := (HS.out.below HBr.out).rt k l hl
      obtain ⟨b', off', aj, cj, hra', hbl', hcc', hse'⟩ := (HS'.out.below HBr.out).rt k l hl
      simp only at hra hra'
      subst hra hra'
      have HSE := hide hse
      have HSE' := hide hse'
      have hlb := HZ.out.rl l (List.mem_of_getElem? hl)
      obtain ⟨nn, hnn⟩ : ∃ nn, l.length = nn := ⟨_, rfl⟩
      have Hnn := hide hnn
      rw [hnn] at hcc hcc' hlb
      clear hse hse' hnn
      go_upto_region 6 with (fail)
      go_quiet ((go_at_call 14; exact Calls.quiet_of (by exact sameU (w := wr.drewN _) HSE.out HSE'.out Hnn.out (by omega))))
      go_wp2_with fail
      go_roundw
      case rel => exact ⟨k + 1, by omega, by go_num, below_drewN HW.out _⟩
      case measure => simp [intOf]; omega
    · obtain rfl : k = nr := by omega
      have hkn : ¬ (k : Int) < (k : Int) := by omega
      obtain ⟨V, hV⟩ : ∃ V, V = wr := ⟨_, rfl⟩
      subst hV
      have HWV := hide HW.out
      clear HW
      go_wp2_with fail
      go_loopw [6] (fun i wr => ∃ k : Nat, k ≤ n ∧ i = .int .i64 k ∧ Hid (Below W1.heap.size W1 wr)) (fun i _ => n - (intOf i).toNat)
      case atStart => exact ⟨0, Nat.zero_le _, rfl, HWV.out⟩
      case round =>
        obtain ⟨q, hq, rfl, HW⟩ := hrel
        have HBr := hide (HB.out.trans (HW.out.mono HB.out.size))
        have x6 : wr.cell? ⟨w.heap.size, 6, none⟩ = some (.slice oa n cb) := (row_on RX.out HW.out).cell (i := 6) (by decide)
        have y6 : wr.cell? ⟨W0.heap.size, 6, none⟩ = some (.slice oa' n cb') := (row_on RY.out HW.out).cell (i := 6) (by decide)
        by_cases hlt : q < n
        · have hqn : (q : Int) < (n : Int) := by omega
          obtain ⟨o, ho⟩ : ∃ o, c.os[q]? = some o := ⟨c.os[q]'(by rw [Hn.out]; exact hlt), by simp [Hn.out, hlt]⟩
          obtain ⟨b, off, ai, ci, hoa, hbl, hcc, hse⟩ := (HS.out.below HBr.out).ob q o ho
          obtain ⟨b', off', aj, cj, hoa', hbl', hcc', hse'⟩ := (HS'.out.below HBr.out).ob q o ho
          simp only at hoa hoa'
          subst hoa hoa'
          have hlb := HZ.out.sl o (List.mem_of_getElem? ho)
          obtain ⟨us, li, fi, ta, ag, ge, lk, nx, sl⟩ := o
          simp only at hlb hse hse'
          obtain ⟨m, hm⟩ : ∃ m, sl.length = m := ⟨_, rfl⟩
          have r0 := hcc 0 (by decide)
          have r1 := hcc 1 (by decide)
          have r2 := hcc 2 (by decide)
          have r3 := hcc 3 (by decide)
          have r4 := hcc 4 (by decide)
          have r5 := hcc 5 (by decide)
          have r6 := hcc 6 (by decide)
          have r7 := hcc 7 (by decide)
          have r8 := hcc 8 (by decide)
          have t0 := hcc' 0 (by decide)
          have t1 := hcc' 1 (by decide)
          have t2 := hcc' 2 (by decide)
          have t3 := hcc' 3 (by decide)
          have t4 := hcc' 4 (by decide)
          have t5 := hcc' 5 (by decide)
          have t6 := hcc' 6 (by decide)
          have t7 := hcc' 7 (by decide)
          have t8 := hcc' 8 (by decide)
          simp only [Ob.cell, Nat.add_zero, hm] at r0 t0 r1 t1 r2 t2 r3 t3 r4 t4 r5 t5 r6 t6 r7 t7 r8 t8
          rw [hm] at hlb
          have Hm := hide hm
          have HSE := hide hse
          have HSE' := hide hse'
          have lw : w.heap.size < wr.heap.size := by have := HW.out.size; omega
          have lw0 : W0.heap.size < wr.heap.size := by have := HW.out.size; omega
          clear hm hse hse' ho hcc hcc'
          go_upto_region 11 with (fail)
          go_cut [7, 8] from 59 to 68 (fun v7 v8 wx => ∃ b7 b8, v7 = .pointer (some ⟨b7, 0, none⟩) ∧ v8 = .pointer (some ⟨b8, 0, none⟩) ∧ wx.rowIs b7 41 9 (lrow [.bool us, .bool li, .bool fi, .bool ta, .int .i64 ag, .int .u64 ge, .int .u64 lk, .int .u64 nx, .slice ai m ci]) ∧ wx.rowIs b8 41 9 (lrow [.bool us, .bool li, .bool fi, .bool ta, .int .i64 ag, .int .u64 ge, .int .u64 lk, .int .u64 nx, .slice aj m cj]) ∧ Below wr.heap.size wr wx)
          case first =>
            go_region
            all_goals go_wp2_with fail
            all_goals go_meet
            · have z := two_rows wr [.bool us, .bool li, .bool fi, .bool ta, .int .i64 ag, .int .u64 ge, .int .u64 lk, .int .u64 nx, .slice ai m ci] [.bool us, .bool li, .bool fi, .bool ta, .int .i64 ag, .int .u64 ge, .int .u64 lk, .int .u64 nx, .slice aj m cj] rfl rfl
              exact ⟨_, _, rfl, rfl, z.1, z.2.1, z.2.2⟩
            · have z := two_rows wr [.bool us, .bool li, .bool fi, .bool ta, .int .i64 ag, .int .u64 ge, .int .u64 lk, .int .u64 nx, .slice aj m cj] [.bool us, .bool li, .bool fi, .bool ta, .int .i64 ag, .int .u64 ge, .int .u64 lk, .int .u64 nx, .slice ai m ci] rfl rfl
              exact ⟨_, _, rfl, rfl, z.2.1, z.1, z.2.2⟩
          case rest =>
            obtain ⟨b7, b8, rfl, rfl, Q7, Q8, hb⟩ := hcut
            have HBX := hide hb
            have p0 := Q7.cell (i := 0) (by decide)
            have p2 := Q7.cell (i := 2) (by decide)
            have p3 := Q7.cell (i := 3) (by decide)
            have p5 := Q7.cell (i := 5) (by decide)
            have p8 := Q7.cell (i := 8) (by decide)
            have q0 := Q8.cell (i := 0) (by decide)
            have q2 := Q8.cell (i := 2) (by decide)
            have q3 := Q8.cell (i := 3) (by decide)
            have q5 := Q8.cell (i := 5) (by decide)
            have q8 := Q8.cell (i := 8) (by decide)
            simp only [lrow] at p0 q0 p2 q2 p3 q3 p5 q5 p8 q8
            have SX := hide (sameU (cap := ci) (cap' := cj) (HSE.out.below hb) (HSE'.out.below hb) Hm.out (by omega))
            clear Q7 Q8 hb r0 t0 r1 t1 r2 t2 r3 t3 r4 t4 r5 t5 r6 t6 r7 t7 r8 t8 x6 y6
            go_wp2_with (go_at_call 14; refine SX.out.mono ?_; rintro e w3 ⟨rfl, m3, rfl⟩)
            go_roundw
            case rel => exact ⟨q + 1, by omega, by go_num, below_drewN (HW.out.trans (HBX.out.mono HW.out.size)) _⟩
            case measure => simp [intOf]; omega
        · obtain rfl : q = n := by omega
          have hqq : ¬ (q : Int) < (q : Int) := by omega
          go_wp2_with fail
          go_ret
          exact ⟨rfl, HBr.out⟩
end Gr
end Go.Proofs.Ytlbcjolbgeficaa
