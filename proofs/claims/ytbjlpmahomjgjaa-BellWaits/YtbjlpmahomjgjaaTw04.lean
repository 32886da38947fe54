/-
  Lemmas: BellWW.
-/
import Derived.Test.YtbjlpmahomjgjaaTw03
import Derived.Deep.CutRange
import Derived.Deep.CutBlock
import Derived.Deep.QuietTactic
set_option linter.unusedVariables false
set_option linter.unusedSimpArgs false
set_option linter.unnecessarySimpa false
set_option maxRecDepth 20000
namespace Go.Proofs.Ytbjlpmahomjgjaa
open Go.RowKit
namespace Bell

/-- With turns behind the schedule: ended, or as many steps as were asked for. -/
theorem end_of {n k ns : Nat} {sched : Nat → Int} (h1 : 1 ≤ n) (h8 : n ≤ 8) (hk : k ≤ 20) : decide (cnt ((rn (PB n k ns sched) 65536).going (PB n k ns sched)) n = 0) = false → 0 < ns ∧ 2000 < ns ∧ (rn (PB n k ns sched) 65536).k = 65536 := fun h => by
  have hc : ¬ cnt ((rn (PB n k ns sched) 65536).going (PB n k ns sched)) n = 0 := of_decide_eq_false h
  have ht : ¬ (rn (PB n k ns sched) 65536).turn (PB n k ns sched) < 0 := fun ht => by
    rcases turn_ok (PB n k ns sched) (rn (PB n k ns sched) 65536) with ⟨_, e⟩ | ⟨q, e, _, _⟩
    · exact hc e
    · rw [e] at ht; omega
  have hs : 2000 < ns := Nat.lt_of_not_le fun hs => ht (ended (P := PB n k ns sched) rfl h1 h8 (fun _ _ => rfl) hk hs)
  have hkk := runSt_k (PB n k ns sched) (st0 (kBell n) (PB n k ns sched) (fun _ => 0)) rfl 65536
  refine ⟨by omega, hs, ?_⟩
  rcases Nat.lt_or_ge (rn (PB n k ns sched) 65536).k 65536 with l | l
  · exact absurd (hkk.2 l) ht
  · exact Nat.le_antisymm hkk.1 l

theorem infoN : (Try.prog.info? 3).map (fun i => (i.zero.map Value.cells, i.size, i.bytes)) = some (some #[.int .i64 0], 1, 8) := by kernel_rfl

set_option maxHeartbeats 16000000 in
theorem waits_walk {w : World} {room each most : Int} {aos : Option Addr} {ns caps : Nat} {sched : Nat → Int} (hr : 0 ≤ room ∧ room ≤ 255) (he : 0 ≤ each ∧ each ≤ 255) (SI : SeesI w w.heap.size aos ns sched) (hns : ns ≤ maxLen) :
    Calls Try.prog 8 #[.int .u8 room, .int .u8 each, .slice aos ns caps, .int .i64 most] w fun e w' => e = .returned (.bool true) ∧ Below w.heap.size w w' := by
  obtain ⟨n0, hn0, hn7⟩ : ∃ x : Nat, room.tmod 8 = (x : Int) ∧ x ≤ 7 := ⟨(room % 8).toNat, by rw [Int.tmod_eq_emod_of_nonneg hr.1]; omega, by omega⟩
  obtain ⟨k, hk0, hk⟩ : ∃ x : Nat, each.tmod 20 = (x : Int) ∧ x ≤ 19 := ⟨(each % 20).toNat, by rw [Int.tmod_eq_emod_of_nonneg he.1]; omega, by omega⟩
  obtain ⟨n, hn⟩ : ∃ x : Nat, x = n0 + 1 := ⟨_, rfl⟩
  have HN := hide (show 1 ≤ n ∧ n ≤ 8 ∧ k ≤ 19 by omega)
  have C1 := hide (show IntKind.i64.wrap (n0 : Int) = (n0 : Int) by rw [IntKind.wrap_i64]; omega)
  have C2 := hide (show IntKind.i64.wrap (k : Int) = (k : Int) by rw [IntKind.wrap_i64]; omega)
  have C3 := hide (show wrap64 ((n0 : Int) + 1) = (n : Int) by rw [hn]; exact up_wrap' (by omega))
  have HSI := hide SI
  have HNS := hide hns
  obtain ⟨mm, hmm, hm0, hm1⟩ : ∃ mm : Int, ((most < 0 ∧ mm = 0) ∨ (¬ most < 0 ∧ 65536 < most ∧ mm = 65536) ∨ (¬ most < 0 ∧ ¬ 65536 < most ∧ mm = most)) ∧ 0 ≤ mm ∧ mm ≤ 65536 := by
    by_cases a : most < 0
    · exact ⟨0, .inl ⟨a, rfl⟩, by omega, by omega⟩
    · by_cases b : 65536 < most
      · exact ⟨65536, .inr (.inl ⟨a, b, rfl⟩), by omega, by omega⟩
      · exact ⟨most, .inr (.inr ⟨a, b, rfl⟩), by omega, by omega⟩
  have HMM := hide (And.intro hm0 hm1)
  clear hr he SI hn hn7 hk hm0 hm1 hns
  go_enter Try.func8, Try.ntmps8
  go_wp2_with fail
  refine (awake_any w).mono ?_
  rintro e w1 ⟨rfl, hb1⟩
  have HB1 := hide hb1
  clear hb1
  have c1 := C1.out
  have c2 := C2.out
  go_upto_region 4 with (fail)
  rw [C3.out]
  clear c1 c2 C1 C2 C3 hn0 hk0
  go_cut [3] from 36 to 38 (fun s3 wy => s3 = .int .i64 mm ∧ wy = w1)
  case first =>
    rcases hmm with ⟨a, rfl⟩ | ⟨a, b, rfl⟩ | ⟨a, b, rfl⟩
    all_goals go_wp2_with fail
    all_goals go_meet
    all_goals
      case rel => exact ⟨rfl, rfl⟩
  case rest =>
    obtain ⟨e1, e2⟩ := hcut
    subst e1
    rw [e2]
    clear e2 hmm
    by_cases hlong : (20000 : Int) < ns
    · go_wp2_with fail
      go_ret
      exact ⟨rfl, HB1.out⟩
    · have HSL := hide (show ns ≤ 20000 by omega)
      obtain ⟨W2, hW2⟩ : ∃ W2, w1.alloc (.cells #[.int .u64 0, .int .u64 0] 42) = W2 := ⟨_, rfl⟩
      have B2 := hide (show Below w1.heap.size w1 W2 from by rw [← hW2]; exact (Below.refl _ w1).alloc (Nat.le_refl _) _)
      have R2 := hide (show W2.rowIs w1.heap.size 42 2 (fun _ => .int .u64 0) from by
        rw [← hW2]
        exact rowIs_cells _ 42 _ 2 rfl (fun i hi => by
          match i, hi with
          | 0, _ | 1, _ => rfl))
      go_wp2_with fail
      refine (rings_any W2 n k HN.out.1 HN.out.2.1 (by have := HN.out.2.2; omega)).mono ?_
      rintro e w3 ⟨gh, rfl, hH, hb3⟩
      have B3 := hide hb3
      have HH3 := hide hH
      have R3 := hide (R2.out.of_block (hb3.block w1.heap.size R2.out.lt))
      have s13 : w1.heap.size < w3.heap.size := R3.out.lt
      have B03 := hide (HB1.out.trans ((B2.out.trans (hb3.mono B2.out.size)).mono HB1.out.size))
      clear hb3 hH hW2
      go_wp2_with fail
      have SI3 := hide (show SeesI w3 w3.heap.size aos ns sched from (HSI.out.below B03.out (Nat.le_refl _)).up B03.out.size)
      refine (play_rings (caps := caps) HN.out.1 HN.out.2.1 (by have := HN.out.2.2; omega) HSL.out HMM.out R3.out HH3.out SI3.out).mono ?_
      rintro e w4 ⟨hb4, sa, sc, wa, aa, rfl, S4, A4⟩
      have LST := hide (fun i (hi : i < (rn (PB n k ns sched) mm.toNat).k) => law_step (P := PB n k ns sched) rfl HN.out.1 HN.out.2.1 (fun h _ => by have := HN.out.2.2; show k ≤ 256; omega) hi)
      have LETS := hide (fun r => one_lets (P := PB n k ns sched) rfl HN.out.1 HN.out.2.1 (fun h _ => by have := HN.out.2.2; show k ≤ 256; omega) mm.toNat r)
      have TELL := hide (fun h r hh hr => tells (P := PB n k ns sched) rfl HN.out.1 HN.out.2.1 (fun h _ => by have := HN.out.2.2; show k ≤ 256; omega) mm.toNat (h := h) (r := r) hh hr)
      have KLE := hide (show (rn (PB n k ns sched) mm.toNat).k ≤ 65536 from Nat.le_trans (runSt_k (PB n k ns sched) _ rfl mm.toNat).1 (by have := HMM.out; omega))
      generalize (rn (PB n k ns sched) mm.toNat).k = kk at S4 LST KLE ⊢
      generalize (rn (PB n k ns sched) mm.toNat).s = ss at S4 LST
      generalize (rn (PB n k ns sched) mm.toNat).done = dn at A4 LETS TELL
      generalize (rn (PB n k ns sched) mm.toNat).ans = an at A4 LETS TELL
      generalize decide (cnt ((rn (PB n k ns sched) mm.toNat).going (PB n k ns sched)) n = 0) = en
      have B04 := hide (B03.out.trans (hb4.mono B03.out.size))
      have HS4 := hide S4
      have HA4 := hide A4
      clear hb4 S4 A4 s13
      simp only
      obtain ⟨W5, hW5⟩ : ∃ W5, w4.alloc (.cells #[.slice sa kk sc, .slice wa 2 2, .bool en] 30) = W5 := ⟨_, rfl⟩
      have B5 := hide (show Below w4.heap.size w4 W5 from by rw [← hW5]; exact (Below.refl _ w4).alloc (Nat.le_refl _) _)
      have R5 := hide (show W5.rowIs w4.heap.size 30 3 (lrow [.slice sa kk sc, .slice wa 2 2, .bool en]) from by rw [← hW5]; exact rowL_alloc w4 [.slice sa kk sc, .slice wa 2 2, .bool en] _ rfl)
      have hmk := run_make_z (P := Try.prog) 26 3 _ 1 8 Try.underlying26 infoN n (by have := HN.out; omega) (by have := HN.out; omega)
      simp only [Nat.mul_one] at hmk
      obtain ⟨W6, hW6⟩ : ∃ W6, W5.alloc (.cells (madeCells #[.int .i64 0] n) 3) = W6 := ⟨_, rfl⟩
      obtain ⟨W7, hW7⟩ : ∃ W7, W6.alloc (.cells (madeCells #[.int .i64 0] n) 3) = W7 := ⟨_, rfl⟩
      have GR := hide (show W7.rowIs W5.heap.size 3 n (fun _ => .int .i64 0) from by rw [← hW7, ← hW6]; exact (World.rowIs_made W5 _ n _).alloc _)
      have GO := hide (show W7.rowIs W6.heap.size 3 n (fun _ => .int .i64 0) from by rw [← hW7]; exact World.rowIs_made W6 _ n _)
      have z56 : W6.heap.size = W5.heap.size + 1 := by rw [← hW6]; simp
      have z45 : W5.heap.size = w4.heap.size + 1 := by rw [← hW5]; simp
      have z67 : W7.heap.size = W6.heap.size + 1 := by rw [← hW7]; simp
      have B57 := hide (show Below W5.heap.size W5 W7 from by rw [← hW7, ← hW6]; exact ((Below.refl _ W5).alloc (Nat.le_refl _) _).alloc (by simp) _)
      obtain ⟨gr, hgr⟩ : ∃ x, W5.heap.size = x := ⟨_, rfl⟩
      obtain ⟨go, hgo⟩ : ∃ x, W6.heap.size = x := ⟨_, rfl⟩
      obtain ⟨bt, hbt⟩ : ∃ x, w4.heap.size = x := ⟨_, rfl⟩
      have R7 := hide (R5.out.of_block (B57.out.block w4.heap.size (by omega)))
      have B47 := hide (B5.out.trans (B57.out.mono (by omega)))
      have HS7 := hide (HS4.out.below B47.out (Nat.le_refl _))
      have HA7 := hide (HA4.out.below B47.out (Nat.le_refl _))
      rw [hgr] at GR z56 z45
      rw [hgo] at GO z56 z67
      rw [hbt] at R7 z45 HS7 HA7
      have ZZ := hide (And.intro z45 (And.intro z56 z67))
      clear z45 z56 z67 HS4 HA4 B5 R5 R2 R3 HH3 SI3 B2 B3
      go_wp2_with fail
      clear hmk hW5 hW6 hW7
      go_loopw [16] (fun i wy => ∃ j, j ≤ kk ∧ i = .int .i64 ((j : Nat) : Int) ∧ wy.rowIs gr 3 n (fun q => .int .i64 ((addsAt (PB n k ns sched) j q : Nat) : Int)) ∧ wy.rowIs go 3 n (fun q => .int .i64 ((doneAt (PB n k ns sched) j q : Nat) : Int)) ∧ Touch W7 wy (fun q => q = gr ∨ q = go)) (fun i _ => kk - (intOf i).toNat)
      case atStart => exact ⟨0, Nat.zero_le _, rfl, World.rowIs.congr GR.out (fun i hi => rfl), World.rowIs.congr GO.out (fun i hi => rfl), Touch.refl _ _⟩
      case round =>
        obtain ⟨j, hj, rfl, RA, RD, T1⟩ := hrel
        have sT := T1.size
        have HT := hide T1
        have HRA := hide RA
        have HRD := hide RD
        have R7r := hide (R7.out.of_block (T1.block bt (by have := ZZ.out; omega) (by have := ZZ.out; omega)))
        have q0 : wr.cell? ⟨bt, 0, none⟩ = some (.slice sa kk sc) := R7r.out.cell (i := 0) (by omega)
        by_cases hlt : j < kk
        · have hlt' : (j : Int) < kk := by omega
          obtain ⟨h, E, LS⟩ := LST.out j hlt
          obtain ⟨bS, oS, rfl, hbS, hcS⟩ := HS7.out j hlt
          obtain ⟨xh, xa, xt, xd, xp, xo, hx⟩ : ∃ a b c d e f, ss j = ⟨a, b, c, d, e, f⟩ := ⟨_, _, _, _, _, _, rfl⟩
          rw [hx] at LS hcS
          have hkS : ∀ i, i < 6 → wr.cell? ⟨bS, oS + j * 6 + i, none⟩ = some ((⟨xh, xa, xt, xd, xp, xo⟩ : Stp).cell i) := fun i hi => (World.cell?_of_block (a := ⟨bS, oS + j * 6 + i, none⟩) (T1.block bS (by have := ZZ.out; omega) (by have := ZZ.out; omega))).trans (hcS i hi)
          have k0 : wr.cell? ⟨bS, oS + j * 6 + 0, none⟩ = some (.int .i64 xh) := hkS 0 (by omega)
          have k1 : wr.cell? ⟨bS, oS + j * 6 + 1, none⟩ = some (.int .i64 xa) := hkS 1 (by omega)
          have k2 : wr.cell? ⟨bS, oS + j * 6 + 2, none⟩ = some (.int .i64 xt) := hkS 2 (by omega)
          have k3 : wr.cell? ⟨bS, oS + j * 6 + 3, none⟩ = some (.int .u64 xd) := hkS 3 (by omega)
          have k4 : wr.cell? ⟨bS, oS + j * 6 + 4, none⟩ = some (.int .u64 xp) := hkS 4 (by omega)
          have k5 : wr.cell? ⟨bS, oS + j * 6 + 5, none⟩ = some (.bool xo) := hkS 5 (by omega)
          rw [Nat.add_zero] at k0
          have exh : xh = (h : Int) := LS.hand
          subst exh
          have hn1 : ¬ (n : Int) ≤ (h : Int) := by have : h < n := LS.lt; omega
          have hn2 : ¬ (h : Int) < 0 := by omega
          have HLS := hide LS
          have HGK := hide (And.intro (up_wrap' (k := j) (by have := KLE.out; omega)) (meas_up' hlt))
          clear T1 RA RD hj hcS hkS hx LS
          obtain ⟨W8, hW8⟩ : ∃ W8, wr.alloc (.cells #[.int .i64 (h : Int), .int .i64 xa, .int .i64 xt, .int .u64 xd, .int .u64 xp, .bool xo] 63) = W8 := ⟨_, rfl⟩
          have RS8 := hide (show W8.rowIs wr.heap.size 63 6 (fun i => (⟨(h : Int), xa, xt, xd, xp, xo⟩ : Stp).cell i) from by
            rw [← hW8]
            exact rowIs_cells _ 63 _ 6 rfl (fun i hi => by
              match i, hi with
              | 0, _ | 1, _ | 2, _ | 3, _ | 4, _ | 5, _ => rfl))
          have RA8 := hide (show W8.rowIs gr 3 n (fun q => .int .i64 ((addsAt (PB n k ns sched) j q : Nat) : Int)) from by rw [← hW8]; exact HRA.out.alloc _)
          have RD8 := hide (show W8.rowIs go 3 n (fun q => .int .i64 ((doneAt (PB n k ns sched) j q : Nat) : Int)) from by rw [← hW8]; exact HRD.out.alloc _)
          have T8 := hide (show Touch W7 W8 (fun q => q = gr ∨ q = go) from by rw [← hW8]; exact HT.out.alloc _)
          obtain ⟨bs, hbs⟩ : ∃ x, wr.heap.size = x := ⟨_, rfl⟩
          rw [hbs] at RS8
          have v0 : W8.cell? ⟨bs, 0, none⟩ = some (.int .i64 (h : Int)) := RS8.out.cell (i := 0) (by omega)
          have v1 : W8.cell? ⟨bs, 1, none⟩ = some (.int .i64 xa) := RS8.out.cell (i := 1) (by omega)
          have v2 : W8.cell? ⟨bs, 2, none⟩ = some (.int .i64 xt) := RS8.out.cell (i := 2) (by omega)
          have v3 : W8.cell? ⟨bs, 3, none⟩ = some (.int .u64 xd) := RS8.out.cell (i := 3) (by omega)
          have hh : h < n := HLS.out.lt
          have hh' : (h : Int) < (n : Int) := by omega
          have va := RA8.out.cell (i := h) hh
          have vd := RD8.out.cell (i := h) hh
          have WAY := hide HLS.out.way
          obtain ⟨a, ha⟩ : ∃ x, addsAt (PB n k ns sched) j h = x := ⟨_, rfl⟩
          obtain ⟨d0, hd0⟩ : ∃ x, doneAt (PB n k ns sched) j h = x := ⟨_, rfl⟩
          have HDK := hide (show doneAt (PB n k ns sched) j h ≤ 19 from by
            obtain ⟨R, H⟩ := run_i (PB n k ns sched) rfl HN.out.1 HN.out.2.1 (fun h _ => by have := HN.out.2.2; show k ≤ 256; omega) j
            have h9 : (rn (PB n k ns sched) j).done h ≤ k := H.le h hh
            have := HN.out.2.2
            unfold doneAt
            omega)
          have HAK := hide (show addsAt (PB n k ns sched) j h ≤ 20 from by
            have := HDK.out
            unfold addsAt adds
            unfold doneAt at this
            split <;> omega)
          rw [ha] at HAK
          rw [hd0] at HDK
          have HGB := hide (show go < bs from by rw [← hbs]; exact HRD.out.lt)
          have HWU := hide (show IntKind.u64.wrap (d0 : Int) = (d0 : Int) by have := HDK.out; rw [IntKind.wrap_u64]; omega)
          rw [ha] at va WAY
          rw [hd0] at vd WAY
          go_upto_region 18 with (fail)
          clear hW8 k0 k1 k2 k3 k4 k5 q0 hbs
          go_cut [18] from 88 to 129 (fun s wy => s = .bool E ∧ ∃ m, wy = W8.drewN m)
          case first =>
            have way := WAY.out
            clear WAY HLS LETS TELL LST
            cases way with
            | look h1 h2 h3 =>
              simp only at h1 h2
              subst h1 h2 h3
              go_quiet (fail)
              go_wp2_with fail
              go_meet
              case rel => exact ⟨rfl, _, rfl⟩
            | spin h1 h2 h3 h4 =>
              simp only at h1 h2 h4
              subst h1 h2 h4
              have h3' : (d0 : Int) < (a : Int) := by omega
              have hw := HWU.out
              go_quiet (fail)
              go_wp2_with fail
              go_meet
              case rel => exact ⟨rfl, _, rfl⟩
            | goes h1 h2 h3 h4 =>
              simp only at h1 h2 h4
              subst h1 h2
              have h3' : (d0 : Int) < (a : Int) := by omega
              have hw := HWU.out
              go_quiet (fail)
              go_wp2_with fail
              go_meet
              case rel => exact ⟨congrArg Value.bool (by simpa using h4), _, rfl⟩
            | add h1 h2 =>
              simp only at h1 h2
              subst h1 h2
              go_quiet (fail)
              go_wp2_with fail
              go_meet
              case rel => exact ⟨rfl, _, rfl⟩
            | clear h1 h2 =>
              simp only at h1 h2
              subst h1 h2
              go_quiet (fail)
              go_wp2_with fail
              go_meet
              case rel => exact ⟨rfl, _, rfl⟩
            | lets h1 h2 =>
              simp only at h1 h2
              subst h1 h2
              go_quiet (fail)
              go_wp2_with fail
              go_meet
              case rel => exact ⟨rfl, _, rfl⟩
          case rest =>
            obtain ⟨e1, m8, e2⟩ := hcut
            subst e1
            rw [e2]
            clear e2
            have hE4 : E = true → ¬ xa = 4 := fun hE h4 => by
              have way := WAY.out
              subst hE
              cases way with
              | goes h1 _ _ _ => simp only at h1; omega
              | lets h1 _ => simp only at h1; omega
            have fA := RA8.out.frozen h
            have fD := RD8.out.frozen h
            have lgr := RA8.out.lt
            have lgo := RD8.out.lt
            have nrg : gr ≠ go := by have := ZZ.out; omega
            have HGA := hide (And.intro (up_wrap' (k := a) (by have := HAK.out; omega)) (up_wrap' (k := d0) (by have := HDK.out; omega)))
            have HAdd := hide HLS.out.add
            have HDn := hide HLS.out.dn
            have HAll := hide HLS.out.all
            have HHA := hide (And.intro ha hd0)
            clear HLS WAY LETS TELL LST ha hd0 v2 v3 sT
            cases E with
            | false =>
              by_cases h4 : xa = 4
              · subst h4
                go_wp2_with fail
                go_roundw
                case rel =>
                  refine ⟨j + 1, hlt, congrArg (Value.int .i64) HGK.out.1, ?_, ?_, ?_⟩
                  · refine World.rowIs.congr ((show (W8.drewN m8).rowIs gr 3 n _ from RA8.out).set h _) (fun i hi => ?_)
                    have := HAdd.out i
                    by_cases e : i = h
                    · subst e
                      rw [if_pos ⟨rfl, rfl⟩, HHA.out.1] at this
                      simp only [if_pos, this, HGA.out.1]
                    · rw [if_neg (fun x => e x.1)] at this
                      simp only [if_neg e, this, Nat.add_zero]
                  · refine World.rowIs.setOther (show (W8.drewN m8).rowIs go 3 n _ from World.rowIs.congr RD8.out (fun i hi => ?_)) (by simpa using nrg.symm) _
                    have := HDn.out i
                    simp at this
                    simp only [this]
                  · exact Touch.setCell (touch_drewN T8.out m8) ⟨gr, h, none⟩ (.inl (.inl rfl)) _
                case measure => rw [HGK.out.1]; exact HGK.out.2
              · go_wp2_with fail
                go_roundw
                case rel =>
                  refine ⟨j + 1, hlt, congrArg (Value.int .i64) HGK.out.1, ?_, ?_, touch_drewN T8.out m8⟩
                  · refine World.rowIs.congr (show (W8.drewN m8).rowIs gr 3 n _ from RA8.out) (fun i hi => ?_)
                    have := HAdd.out i
                    rw [if_neg (fun x => h4 x.2)] at this
                    simp only [this, Nat.add_zero]
                  · refine World.rowIs.congr (show (W8.drewN m8).rowIs go 3 n _ from RD8.out) (fun i hi => ?_)
                    have := HDn.out i
                    simp at this
                    simp only [this]
                case measure => rw [HGK.out.1]; exact HGK.out.2
            | true =>
              have h4 : ¬ xa = 4 := hE4 rfl
              clear hE4
              go_wp2_with fail
              go_loopw [19] (fun i wy => ∃ q, q ≤ n ∧ i = .int .i64 ((q : Nat) : Int) ∧ wy.rowIs gr 3 n (fun q => .int .i64 ((addsAt (PB n k ns sched) (j + 1) q : Nat) : Int)) ∧ wy.rowIs go 3 n (fun q => .int .i64 ((doneAt (PB n k ns sched) (j + 1) q : Nat) : Int)) ∧ Touch W7 wy (fun q => q = gr ∨ q = go) ∧ wy.cell? ⟨bs, 0, none⟩ = some (.int .i64 (h : Int))) (fun i _ => n - (intOf i).toNat)
              case atStart =>
                refine ⟨0, Nat.zero_le _, rfl, ?_, ?_, ?_, ?_⟩
                · refine World.rowIs.setOther (show (W8.drewN m8).rowIs gr 3 n _ from World.rowIs.congr RA8.out (fun i hi => ?_)) (by simpa using nrg) _
                  have := HAdd.out i
                  rw [if_neg (fun x => h4 x.2)] at this
                  simp only [this, Nat.add_zero]
                · refine World.rowIs.congr ((show (W8.drewN m8).rowIs go 3 n _ from RD8.out).set h _) (fun i hi => ?_)
                  have := HDn.out i
                  by_cases e : i = h
                  · subst e
                    rw [if_pos ⟨rfl, trivial⟩, HHA.out.2] at this
                    simp only [if_pos, this, HGA.out.2]
                  · rw [if_neg (fun x => e x.1)] at this
                    simp only [if_neg e, this, Nat.add_zero]
                · exact Touch.setCell (touch_drewN T8.out m8) ⟨go, h, none⟩ (.inl (.inr rfl)) _
                · rw [World.cell?_setCell_far _ _ _ _ (by have := HGB.out; show go ≠ bs; omega)]
                  exact v0
              case round =>
                obtain ⟨q, hq, rfl, RA9, RD9, T9, v9⟩ := hrel
                have HRA9 := hide RA9
                have HRD9 := hide RD9
                have HT9 := hide T9
                clear RA9 RD9 T9 v0 v1 va vd fA fD
                by_cases hqn : q < n
                · have hqn' : (q : Int) < n := by omega
                  have va9 := HRA9.out.cell (i := q) hqn
                  have vd9 := HRD9.out.cell (i := h) hh
                  have cmp : ¬ ((addsAt (PB n k ns sched) (j + 1) q : Nat) : Int) < ((doneAt (PB n k ns sched) (j + 1) h : Nat) : Int) := by
                    have := HAll.out trivial q hqn
                    omega
                  have HGQ := hide (And.intro (up_wrap' (k := q) (by have := HN.out; omega)) (meas_up' hqn))
                  go_upto_region 26 with (fail)
                  go_quiet (fail)
                  go_wp2_with fail
                  go_roundw
                  case rel => exact ⟨q + 1, hqn, congrArg (Value.int .i64) HGQ.out.1, HRA9.out, HRD9.out, touch_drewN HT9.out _, v9⟩
                  case measure => rw [HGQ.out.1]; exact HGQ.out.2
                · have hqn' : ¬ (q : Int) < n := by omega
                  go_wp2_with fail
                  go_roundw
                  case rel => exact ⟨j + 1, hlt, congrArg (Value.int .i64) HGK.out.1, HRA9.out, HRD9.out, HT9.out⟩
                  case measure => rw [HGK.out.1]; exact HGK.out.2
        · have hlt' : ¬ (j : Int) < kk := by omega
          have B7r := hide (show Below (bt + 1) W7 wr from T1.below (fun q hq => by have := ZZ.out; omega) (by have := ZZ.out; omega))
          have HAr := hide (HA7.out.below B7r.out (by omega))
          have B0r := hide (show Below w.heap.size w wr from (B04.out.trans (B47.out.mono (by have := B04.out.size; omega))).trans (B7r.out.mono (by have := B04.out.size; omega)))
          clear HT HRA HRD R7r R7 HS7 HA7 LST T1 RA RD GR GO B47 B57 B7r KLE
          go_wp2_with fail
          clear q0 sT hj hlt hlt'
          obtain ⟨WR, hWR⟩ : ∃ X, X = wr := ⟨_, rfl⟩
          subst hWR
          go_loopw [20] (fun i wy => ∃ r, r ≤ k ∧ i = .int .i64 ((r : Nat) : Int) ∧ wy = WR) (fun i _ => k - (intOf i).toNat)
          case atStart => exact ⟨0, Nat.zero_le _, rfl, rfl⟩
          case round =>
            obtain ⟨r, hr, rfl, ew⟩ := hrel
            rw [ew]
            clear ew
            by_cases hrk : r < k
            · have hrk' : (r : Int) < k := by omega
              have HGR := hide (And.intro (up_wrap' (k := r) (by have := HN.out; omega)) (meas_up' hrk))
              have HWR := hide (show IntKind.u64.wrap (r : Int) = (r : Int) by have := HN.out; rw [IntKind.wrap_u64]; omega)
              go_wp2_with fail
              go_loopw [21, 22, 23] (fun l e i wy => ∃ q, q ≤ n ∧ l = .int .i64 ((cnt (fun h => decide (r < dn h) && (an h r).ok) q : Nat) : Int) ∧ e = .int .i64 ((cnt (fun h => decide (r < dn h)) q : Nat) : Int) ∧ i = .int .i64 ((q : Nat) : Int) ∧ wy = WR) (fun _ _ i _ => n - (intOf i).toNat)
              case atStart => exact ⟨0, Nat.zero_le _, rfl, rfl, rfl, rfl⟩
              case round =>
                obtain ⟨q, hq, rfl, rfl, rfl, ew⟩ := hrel
                rw [ew]
                clear ew
                have lq1 := cnt_le (fun h => decide (r < dn h) && (an h r).ok) q
                have lq2 := cnt_le (fun h => decide (r < dn h)) q
                by_cases hqn : q < n
                · have hqn' : (q : Int) < n := by omega
                  have HGQ := hide (And.intro (up_wrap' (k := q) (by have := HN.out; omega)) (meas_up' hqn))
                  obtain ⟨bq, oq, av, cq, rfl, hbq, hcq, hjq⟩ := HAr.out q hqn
                  have HC1 := hide (And.intro (@cnt_true (fun h => decide (r < dn h) && (an h r).ok) q) (@cnt_false (fun h => decide (r < dn h) && (an h r).ok) q))
                  have HC2 := hide (And.intro (@cnt_true (fun h => decide (r < dn h)) q) (@cnt_false (fun h => decide (r < dn h)) q))
                  obtain ⟨c1, hc1⟩ : ∃ x, cnt (fun h => decide (r < dn h) && (an h r).ok) q = x := ⟨_, rfl⟩
                  obtain ⟨c2, hc2⟩ : ∃ x, cnt (fun h => decide (r < dn h)) q = x := ⟨_, rfl⟩
                  rw [hc1] at lq1 ⊢
                  rw [hc2] at lq2 ⊢
                  rw [hc1] at HC1
                  rw [hc2] at HC2
                  have HU1 := hide (up_wrap' (k := c1) (by have := HN.out; omega))
                  have HU2 := hide (up_wrap' (k := c2) (by have := HN.out; omega))
                  by_cases hd : r < dn q
                  · have hd' : ¬ ((dn q : Nat) : Int) ≤ (r : Int) := by omega
                    have hd'' : (r : Int) < ((dn q : Nat) : Int) := by omega
                    obtain ⟨bv, ov, rfl, hbv, hcv⟩ := hjq r hd
                    have g0 : WR.cell? ⟨bv, ov + r * 2, none⟩ = some (.bool (an q r).ok) := hcv 0 (by omega)
                    have g1 : WR.cell? ⟨bv, ov + r * 2 + 1, none⟩ = some (.int .u64 (r : Int)) := (hcv 1 (by omega)).trans (by show some (Value.int .u64 (an q r).val) = _; rw [TELL.out q r hqn hd])
                    have hw := HWR.out
                    clear hcv hjq lq1 lq2 hc1 hc2
                    cases hok : (an q r).ok with
                    | true =>
                      rw [hok] at g0
                      go_wp2_with fail
                      go_roundw
                      case rel =>
                        refine ⟨q + 1, hqn, ?_, ?_, congrArg (Value.int .i64) HGQ.out.1, trivial⟩
                        · rw [HC1.out.1 (by simp [hd, hok]), HU1.out]
                        · rw [HC2.out.1 (by simp [hd]), HU2.out]
                      case measure => rw [HGQ.out.1]; exact HGQ.out.2
                    | false =>
                      rw [hok] at g0
                      go_wp2_with fail
                      go_roundw
                      case rel =>
                        refine ⟨q + 1, hqn, ?_, ?_, congrArg (Value.int .i64) HGQ.out.1, trivial⟩
                        · rw [HC1.out.2 (by simp [hok])]
                        · rw [HC2.out.1 (by simp [hd]), HU2.out]
                      case measure => rw [HGQ.out.1]; exact HGQ.out.2
                  · have hd' : ((dn q : Nat) : Int) ≤ (r : Int) := by omega
                    clear hjq lq1 lq2 hc1 hc2
                    go_wp2_with fail
                    go_roundw
                    case rel =>
                      refine ⟨q + 1, hqn, ?_, ?_, congrArg (Value.int .i64) HGQ.out.1, trivial⟩
                      · rw [HC1.out.2 (by simp [hd])]
                      · rw [HC2.out.2 (by simp [hd])]
                    case measure => rw [HGQ.out.1]; exact HGQ.out.2
                · have hqn' : ¬ (q : Int) < n := by omega
                  obtain rfl : q = n := by omega
                  have L := LETS.out r
                  obtain ⟨c1, hc1⟩ : ∃ x, cnt (fun h => decide (r < dn h) && (an h r).ok) q = x := ⟨_, rfl⟩
                  obtain ⟨c2, hc2⟩ : ∃ x, cnt (fun h => decide (r < dn h)) q = x := ⟨_, rfl⟩
                  have L1 : c1 ≤ 1 := by rw [← hc1]; exact L.1
                  have L2 : c2 = q → c1 = 1 := by rw [← hc1, ← hc2]; exact L.2
                  rw [hc1, hc2]
                  clear L lq1 lq2 hc1 hc2 hqn
                  have n1 : ¬ (1 : Int) < (c1 : Int) := by omega
                  by_cases ee : c2 = q
                  · have e1 := L2 ee
                    subst ee e1
                    clear L2 L1 n1
                    go_wp2_with fail
                    go_roundw
                    case rel => exact ⟨r + 1, hrk, congrArg (Value.int .i64) HGR.out.1, trivial⟩
                    case measure => rw [HGR.out.1]; exact HGR.out.2
                  · have ee' : ¬ (c2 : Int) = (q : Int) := by omega
                    clear L2 L1
                    go_wp2_with fail
                    go_roundw
                    case rel => exact ⟨r + 1, hrk, congrArg (Value.int .i64) HGR.out.1, trivial⟩
                    case measure => rw [HGR.out.1]; exact HGR.out.2
            · have hrk' : ¬ (r : Int) < k := by omega
              clear LETS TELL HAr
              obtain ⟨W9, hW9⟩ : ∃ W9, WR.alloc (.cells #[.int .u64 0, .int .u64 0] 42) = W9 := ⟨_, rfl⟩
              have B9 := hide (show Below WR.heap.size WR W9 from by rw [← hW9]; exact (Below.refl _ WR).alloc (Nat.le_refl _) _)
              have R9 := hide (show W9.rowIs WR.heap.size 42 2 (fun _ => .int .u64 0) from by
                rw [← hW9]
                exact rowIs_cells _ 42 _ 2 rfl (fun i hi => by
                  match i, hi with
                  | 0, _ | 1, _ => rfl))
              go_wp2_with fail
              refine (rings_any W9 n k HN.out.1 HN.out.2.1 (by have := HN.out.2.2; omega)).mono ?_
              rintro e w10 ⟨gi, rfl, hH, hb10⟩
              have HH10 := hide hH
              have R10 := hide (R9.out.of_block (hb10.block WR.heap.size R9.out.lt))
              have B010 := hide (B0r.out.trans ((B9.out.trans (hb10.mono B9.out.size)).mono B0r.out.size))
              clear hb10 hH hW9 B9 R9
              go_wp2_with fail
              have SI10 := hide (show SeesI w10 w10.heap.size aos ns sched from (HSI.out.below B010.out (Nat.le_refl _)).up B010.out.size)
              refine (play_rings (caps := caps) (mm := 65536) HN.out.1 HN.out.2.1 (by have := HN.out.2.2; omega) HSL.out ⟨by decide, by decide⟩ R10.out HH10.out SI10.out).mono ?_
              rintro e w11 ⟨hb11, sb, sd, wb, ab, rfl, _, _⟩
              have B011 := hide (B010.out.trans (hb11.mono B010.out.size))
              have FA := hide (end_of (n := n) (k := k) (ns := ns) (sched := sched) HN.out.1 HN.out.2.1 (by have := HN.out.2.2; omega))
              rw [show (65536 : Int).toNat = 65536 from rfl]
              generalize (rn (PB n k ns sched) 65536).k = kk2 at FA ⊢
              generalize decide (cnt ((rn (PB n k ns sched) 65536).going (PB n k ns sched)) n = 0) = en2 at FA ⊢
              clear hb11 SI10 R10 HH10
              simp only
              obtain ⟨W12, hW12⟩ : ∃ W12, w11.alloc (.cells #[.slice sb kk2 sd, .slice wb 2 2, .bool en2] 30) = W12 := ⟨_, rfl⟩
              have B012 := hide (show Below w.heap.size w W12 from by rw [← hW12]; exact B011.out.alloc B011.out.size _)
              have R12 := hide (show W12.rowIs w11.heap.size 30 3 (lrow [.slice sb kk2 sd, .slice wb 2 2, .bool en2]) from by rw [← hW12]; exact rowL_alloc w11 [.slice sb kk2 sd, .slice wb 2 2, .bool en2] _ rfl)
              have q0 : W12.cell? ⟨w11.heap.size, 0, none⟩ = some (.slice sb kk2 sd) := R12.out.cell (i := 0) (by omega)
              have q2 : W12.cell? ⟨w11.heap.size, 2, none⟩ = some (.bool en2) := R12.out.cell (i := 2) (by omega)
              obtain ⟨bu, hbu⟩ : ∃ x, w11.heap.size = x := ⟨_, rfl⟩
              rw [hbu] at q0 q2
              clear R12 B011 B010 B0r
              go_upto_region 44 with (fail)
              clear hW12
              cases en2 with
              | true =>
                by_cases h2 : (2000 : Int) < ns
                · go_wp2_with fail
                  go_ret
                  exact ⟨rfl, B012.out⟩
                · go_wp2_with fail
                  go_ret
                  exact ⟨rfl, B012.out⟩
              | false =>
                obtain ⟨f1, f2, f3⟩ := FA.out rfl
                subst f3
                have f1' : (0 : Int) < ns := by omega
                have f2' : (2000 : Int) < ns := by omega
                go_wp2_with fail
                go_ret
                exact ⟨rfl, B012.out⟩
end Bell
end Go.Proofs.Ytbjlpmahomjgjaa
