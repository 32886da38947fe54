/-
  Lemmas: EpochSW.
-/
import Derived.Test.YtbohmahjpolapaaTp33
import Derived.Test.YtbohmahjpolapaaTp34
import Derived.Deep.CutBlock
import Derived.Deep.CutRange
/-
  EpochSafe: the law's own walk.
-/
namespace Go.Proofs.Ytbohmahjpolapaa
open Go.RowKit
set_option linter.unusedVariables false
set_option linter.unusedSimpArgs false
set_option linter.unnecessarySimpa false
set_option maxRecDepth 20000
namespace Epoch

theorem iw_in {r : Nat} (h : r ≤ 64) : IntKind.i64.wrap (9 + (r : Int)) = 9 + (r : Int) := by rw [IntKind.wrap_i64]; omega

theorem upd_upd {α : Type} (g : Nat → α) (i : Nat) (x y : α) : upd (upd g i x) i y = upd g i y := by
  funext j; by_cases e : j = i
  · subst e; simp
  · rw [upd_other _ _ e, upd_other _ _ e, upd_other _ _ e]

/-- What stands when the law is at step i. -/
def Lp (r : Nat) (P : Par) (base b7 b8 b9 b10 b11 : Nat) (i : Nat) (wr : World) : Prop := ∃ L E0 job A blk c, Sv r P (rn r P i).f (rn r P i).done (rn r P i).cur L E0 i ∧ (∀ h, h < P.nh → job h = (rn r P i).done h) ∧ Lm wr base b7 b8 b9 b10 b11 r L job A blk c

set_option maxHeartbeats 16000000 in
theorem safe_walk {w : World} {sh : Shp} {aw aoh aos : Option Addr} {nw cw caph caps : Nat} {P : Par} {most : Int} {r : Nat} (hr : 1 ≤ sh.f ∧ sh.f ≤ 64 → sh.f = (r : Int) ∧ P.n = 9 + r) (SH : SeesH w w.heap.size aoh P.nh P.jn P.jb) (hn63 : P.nh ≤ 9223372036854775807) (SI : SeesI w w.heap.size aos P.ns P.sched) (hjw : ∀ h, h < P.nh → ∀ j, j < P.jn h → (P.jb h j).wf) :
    Calls Try.prog 4 #[.agg #[.int .i64 sh.a, .int .i64 sh.b, .int .i64 sh.c, .int .i64 sh.d, .int .i64 sh.e, .int .i64 sh.f, .slice aw nw cw, .slice aoh P.nh caph, .slice aos P.ns caps, .int .i64 most]] w fun e w' => e = .returned (.bool true) ∧ Below w.heap.size w w' := by
  have AL := hide alive_any
  have FR := hide (fun (w1 : World) (B1 : Below w.heap.size w w1) => fresh_any (w := w1) (aw := aw) (nw := nw) (cw := cw) (caph := caph) (caps := caps) (most := most) (sh := sh) (P := P) (fun h => by rw [(hr h).1, (hr h).2]; simp) ((SH.below B1 (Nat.le_refl _)).up B1.size) hn63 ((SI.below B1 (Nat.le_refl _)).up B1.size) hjw)
  have SE0 := hide (fun base er sa k sc wa n wc en aa m ac (w' : World) (h : TB sh P most base er sa k sc wa n wc en aa m ac w') => And.intro (se_of hr h) (fun h0 : er = 0 => (hr (h h0).1).1))
  have HR := hide hr
  have HSH := hide SH
  have HJW := hide hjw
  obtain ⟨TBx, hTB⟩ : ∃ TBx, TB sh P most = TBx := ⟨_, rfl⟩
  rw [hTB] at FR SE0
  obtain ⟨s0, s1, s2, s3, s4, s5⟩ := sh
  simp only at FR HR ⊢
  clear SH SI hjw hn63 hr hTB
  obtain ⟨W0, hW0⟩ : ∃ W0, w.alloc (.cells #[.int .i64 s0, .int .i64 s1, .int .i64 s2, .int .i64 s3, .int .i64 s4, .int .i64 s5, .slice aw nw cw, .slice aoh P.nh caph, .slice aos P.ns caps, .int .i64 most] 28) = W0 := ⟨_, rfl⟩
  have R0 : W0.rowIs w.heap.size 28 10 (lrow [.int .i64 s0, .int .i64 s1, .int .i64 s2, .int .i64 s3, .int .i64 s4, .int .i64 s5, .slice aw nw cw, .slice aoh P.nh caph, .slice aos P.ns caps, .int .i64 most]) := by rw [← hW0]; exact rowL_alloc w [.int .i64 s0, .int .i64 s1, .int .i64 s2, .int .i64 s3, .int .i64 s4, .int .i64 s5, .slice aw nw cw, .slice aoh P.nh caph, .slice aos P.ns caps, .int .i64 most] _ rfl
  have B0 : Below w.heap.size w W0 := by rw [← hW0]; exact (Below.refl _ w).alloc (Nat.le_refl _) _
  have z0 : W0.heap.size = w.heap.size + 1 := by rw [← hW0]; simp
  have keep : Hid (∀ w' : World, Below W0.heap.size W0 w' → Below w.heap.size w w' ∧ w.heap.size < w'.heap.size ∧ w'.cell? ⟨w.heap.size, 0, none⟩ = some (.int .i64 s0) ∧ w'.cell? ⟨w.heap.size, 1, none⟩ = some (.int .i64 s1) ∧ w'.cell? ⟨w.heap.size, 2, none⟩ = some (.int .i64 s2) ∧ w'.cell? ⟨w.heap.size, 3, none⟩ = some (.int .i64 s3) ∧ w'.cell? ⟨w.heap.size, 4, none⟩ = some (.int .i64 s4) ∧ w'.cell? ⟨w.heap.size, 5, none⟩ = some (.int .i64 s5) ∧ w'.cell? ⟨w.heap.size, 6, none⟩ = some (.slice aw nw cw) ∧ w'.cell? ⟨w.heap.size, 7, none⟩ = some (.slice aoh P.nh caph) ∧ w'.cell? ⟨w.heap.size, 8, none⟩ = some (.slice aos P.ns caps) ∧ w'.cell? ⟨w.heap.size, 9, none⟩ = some (.int .i64 most)) := fun w' hb => by
    have q := R0.of_block (hb.block w.heap.size R0.lt)
    exact ⟨B0.trans (hb.mono B0.size), q.lt, q.cell (i := 0) (by decide), q.cell (i := 1) (by decide), q.cell (i := 2) (by decide), q.cell (i := 3) (by decide), q.cell (i := 4) (by decide), q.cell (i := 5) (by decide), q.cell (i := 6) (by decide), q.cell (i := 7) (by decide), q.cell (i := 8) (by decide), q.cell (i := 9) (by decide)⟩
  have HZ := hide z0
  clear R0 B0 z0
  go_enter Try.func4, Try.ntmps4
  go_wp2_with fail
  refine (AL.out W0).mono ?_
  rintro e w1 ⟨rfl, hb1⟩
  have B1 := hide hb1
  clear hb1 hW0 AL
  obtain ⟨Bw1, l1, c0, c1, c2, c3, c4, c5, c6, c7, c8, c9⟩ := keep.out w1 B1.out
  have HBw1 := hide Bw1
  clear Bw1
  go_wp2_with fail
  refine (FR.out w1 HBw1.out).mono ?_
  rintro e w2 ⟨hb2, sa, k, sc, wa, n, wc, en, aa, m, ac, er, rfl, hT⟩
  have SEv := hide (SE0.out _ _ _ _ _ _ _ _ _ _ _ _ _ hT)
  have B2 := hide (B1.out.trans (hb2.mono B1.out.size))
  clear hb2 hT SE0 FR HBw1 c0 c1 c2 c3 c4 c5 c6 c7 c8 c9 l1
  have s02 := B2.out.size
  obtain ⟨W3, hW3⟩ : ∃ W3, w2.alloc (.cells #[.slice sa k sc, .slice wa n wc, .bool en] 32) = W3 := ⟨_, rfl⟩
  have R3 := hide (show W3.rowIs w2.heap.size 32 3 (lrow [.slice sa k sc, .slice wa n wc, .bool en]) from by rw [← hW3]; exact rowL_alloc w2 [.slice sa k sc, .slice wa n wc, .bool en] _ rfl)
  have B23 := hide (show Below w2.heap.size w2 W3 from by rw [← hW3]; exact (Below.refl _ w2).alloc (Nat.le_refl _) _)
  have B3 := hide (B2.out.trans (B23.out.mono B2.out.size))
  clear s02
  go_upto_region 4 with (fail)
  try rw [hW3]
  clear hW3
  obtain ⟨-, l1, c0, c1, c2, c3, c4, c5, c6, c7, c8, c9⟩ := keep.out W3 B3.out
  by_cases he : er = 0
  · subst he
    obtain ⟨SE1, e5⟩ := SEv.out
    obtain ⟨⟨h1, h2⟩, hPn, hm0, hnh, hjn, hdl, hok, hk, hm, hn, hen, SS, SW, SA⟩ := SE1 rfl
    have e5 := e5 rfl
    subst e5
    obtain rfl : n = 9 + r := hn.trans hPn
    subst hm
    rw [hPn] at SW
    have hJ : Jok r P := fun h hh j hj => ⟨hok h hh j hj, HJW.out h hh j hj⟩
    obtain ⟨m0, hm0'⟩ : ∃ m0, most.toNat = m0 := ⟨_, rfl⟩
    rw [hm0'] at hm0 hdl hk hen SS SW SA
    have hK65 : k ≤ 65536 := by rw [hk]; have := (runSt_k P (st0 (kEpoch r) P (fun _ => 0)) rfl m0).1; show (runSt P (st0 (kEpoch r) P (fun _ => 0)) m0).k ≤ 65536; omega
    have LST := hide (fun (i : Nat) (hi : i < k) (L : Lw) (E0 : Nat → Int) (S : Sv r P (rn r P i).f (rn r P i).done (rn r P i).cur L E0 i) => law_sv h1 h2 hPn hJ hm0 (m := m0) (i := i) (by rw [← hk]; exact hi) S)
    have DNK := hide (show ∀ h, (rn r P k).done h = (rn r P m0).done h from fun h => by rw [hk]; exact congrArg (fun s : St (kEpoch r) => s.done h) (run_at_k P (st0 (kEpoch r) P (fun _ => 0)) rfl m0))
    have SSh := hide (fun (i : Nat) (hi : i < k) (wr : World) (hb : Below W3.heap.size W3 wr) => show ∃ b off, sa = some ⟨b, off, none⟩ ∧ b < wr.heap.size ∧ ∀ q, q < 6 → wr.cell? ⟨b, off + i * 6 + q, none⟩ = some (((rn r P m0).s i).cell q) from by
      obtain ⟨b, off, e, l, c⟩ := SS i (by rw [← hk]; exact hi)
      have hb2 := B23.out.trans (hb.mono B23.out.size)
      exact ⟨b, off, e, Nat.lt_of_lt_of_le l hb2.size, fun q hq => (hb2.cell (p := ⟨b, off + i * 6 + q, none⟩) l).trans (c q hq)⟩)
    have HSA := hide SA
    have HRN := hide (And.intro h1 h2)
    have HNH := hide hnh
    have HJN := hide hjn
    have t0 : W3.cell? ⟨w2.heap.size, 0, none⟩ = some (.slice sa k sc) := R3.out.cell (i := 0) (by decide)
    have lt3 := R3.out.lt
    clear SE1 SEv SS SW SA hok hjn hdl hen hk hm0 hm0' hJ hPn hn HJW HR c0 c1 c2 c3 c4 c6 c8 c9
    have hmk := run_make_z (P := Try.prog) 26 3 _ 1 8 Try.underlying26 infoI r (by omega) (by omega)
    have hm8 : ∀ w : World, (Instr.makeSlice 26 (.int .i64 8) (.int .i64 8)).run Try.prog w = .ok (.slice (some ⟨w.heap.size, 0, none⟩) 8 8) (w.alloc (.cells (madeCells #[.int .i64 0] 8) 3)) := run_make_z (P := Try.prog) 26 3 _ 1 8 Try.underlying26 infoI 8 (by omega) (by omega)
    have hmL : ∀ w : World, (Instr.makeSlice 44 (.int .i64 8) (.int .i64 8)).run Try.prog w = .ok (.slice (some ⟨w.heap.size, 0, none⟩) 8 8) (w.alloc (.cells (madeCells #[.slice none 0 0] 8) 30)) := run_make_z (P := Try.prog) 44 30 _ 1 24 Try.underlying44 infoLS 8 (by omega) (by omega)
    simp only [Nat.mul_one] at hmk
    have LM0 := hide (lm_start W3 r)
    have B5 := hide (mk5_below W3 r)
    go_upto_region 12 with (fail)
    obtain ⟨W5, hW5⟩ : ∃ W5, mk5 W3 r = W5 := ⟨_, rfl⟩
    rw [hW5] at LM0 B5
    unfold mk5 at hW5
    rw [hW5]
    obtain ⟨base, hbase⟩ : ∃ base, W3.heap.size = base := ⟨_, rfl⟩
    have LP0 := hide (show Lp r P base base (base + 1) (base + 1 + 1) (base + 1 + 1 + 1) (base + 1 + 1 + 1 + 1) 0 W5 from by
      obtain ⟨blk, c, M⟩ := LM0.out
      rw [hbase] at M
      exact ⟨lw0, fun _ => 0, fun _ => 0, _, blk, c, sv_start, fun _ _ => rfl, M⟩)
    have HBA := hide hbase
    rw [hbase]
    clear hW5 LM0 hmk hm8 hmL hbase
    obtain ⟨b11, hb11⟩ : ∃ b11, base + 1 + 1 + 1 + 1 = b11 := ⟨_, rfl⟩
    rw [hb11] at LP0
    rw [hb11]
    obtain ⟨b10, hb10⟩ : ∃ b10, base + 1 + 1 + 1 = b10 := ⟨_, rfl⟩
    rw [hb10] at LP0
    rw [hb10]
    obtain ⟨b9, hb9⟩ : ∃ b9, base + 1 + 1 = b9 := ⟨_, rfl⟩
    rw [hb9] at LP0
    rw [hb9]
    obtain ⟨b8, hb8⟩ : ∃ b8, base + 1 = b8 := ⟨_, rfl⟩
    rw [hb8] at LP0
    rw [hb8]
    obtain ⟨b7, hb7⟩ : ∃ b7, base = b7 := ⟨_, rfl⟩
    have LP0 := hide (show Lp r P base b7 b8 b9 b10 b11 0 W5 from by rw [← hb7]; exact LP0.out)
    rw [hb7]
    clear hb7 hb8 hb9 hb10 hb11
    go_wp2_with fail
    go_loopw [12] (fun v12 wr => ∃ i : Nat, i ≤ k ∧ v12 = .int .i64 (i : Int) ∧ Lp r P base b7 b8 b9 b10 b11 i wr ∧ Below W3.heap.size W3 wr) (fun v12 _ => k - (intOf v12).toNat)
    case atStart => exact ⟨0, Nat.zero_le _, rfl, LP0.out, B5.out⟩
    case round =>
      clear LP0 B5
      obtain ⟨i, hi, rfl, hp, hb⟩ := hrel
      have HB := hide hb
      have HP := hide hp
      obtain ⟨W4, hW4⟩ : ∃ W4, W4 = wr := ⟨_, rfl⟩
      subst hW4
      clear hb hp
      have t0 := (HB.out.cell (p := ⟨w2.heap.size, 0, none⟩) lt3).trans t0
      have lt4 : w2.heap.size < W4.heap.size := Nat.lt_of_lt_of_le lt3 HB.out.size
      by_cases hlt : i < k
      · have hlt' : (i : Int) < k := by omega
        obtain ⟨b, off, rfl, lb, cs⟩ := SSh.out i hlt W4 HB.out
        obtain ⟨L, E0, job, A, blk, c, S, hjob, M⟩ := HP.out
        obtain ⟨h, en', Q⟩ := LST.out i hlt L E0 S
        obtain ⟨x, hx⟩ : ∃ x, (rn r P m0).s i = x := ⟨_, rfl⟩
        rw [hx] at cs Q
        have HQ' := hide Q
        have HM := hide M
        have HS := hide S
        have p0 := cs 0 (by decide)
        have p1 := cs 1 (by decide)
        have p2 := cs 2 (by decide)
        have p3 := cs 3 (by decide)
        have p4 := cs 4 (by decide)
        have p5 := cs 5 (by decide)
        have hxh := Q.hand
        have xlo := Q.lo
        have xhi := Q.hi
        have h8 := Q.h8
        have hnh := Q.hh
        have hjd := Q.hd
        have ej := hjob h Q.hh
        rw [← ej] at hjd
        have HEJ := hide ej
        have JQ6 := hide (show (job h : Int) ≤ 256 from by have := HJN.out h Q.hh; omega)
        have HJB := hide hjob
        obtain ⟨jq, hjq⟩ : ∃ jq, job h = jq := ⟨_, rfl⟩
        have HJQ := hide hjq
        rw [hjq] at JQ6
        obtain ⟨xh, xa, xt, xd, xp, xo⟩ := x
        simp only [Stp.cell, Nat.add_zero] at p0 p1 p2 p3 p4 p5 hxh xlo xhi
        subst hxh
        have c10 : W4.cell? ⟨b10, h, none⟩ = some (.int .i64 (jq : Int)) := by rw [← hjq]; exact M.row10.cell h8
        have l10 := M.row10.lt
        rw [hjq] at hjd
        obtain ⟨bh, oh, av, cv, rfl, lh, ch, SJ⟩ := ((HSH.out.below (keep.out W4 (B3.out.trans (HB.out.mono B3.out.size))).1 (Nat.le_refl _)).up (keep.out W4 (B3.out.trans (HB.out.mono B3.out.size))).1.size) h hnh
        obtain ⟨bj, oj, rfl, lj, cj⟩ := SJ jq hjd
        have j0 := cj 0 (by decide)
        have j1 := cj 1 (by decide)
        have j2 := cj 2 (by decide)
        have j3 := cj 3 (by decide)
        have j4 := cj 4 (by decide)
        obtain ⟨jb, hjb⟩ : ∃ jb, P.jb h jq = jb := ⟨_, rfl⟩
        rw [hjb] at j0 j1 j2 j3 j4
        have HJ := hide hjb
        obtain ⟨kk, ka, kb, kc, kh⟩ := jb
        simp only [Jb.cell, Nat.add_zero] at j0 j1 j2 j3 j4
        obtain ⟨-, l1, -, -, -, -, -, c5, -, c7, -, -⟩ := keep.out W4 (B3.out.trans (HB.out.mono B3.out.size))
        have d1 : ¬ (xt < 0) := by omega
        have d2 : ¬ (9 + (r : Int) ≤ xt) := by omega
        have d3 : ¬ ((P.nh : Int) ≤ (h : Int)) := by omega
        have d4 : ¬ ((P.jn h : Int) ≤ (jq : Int)) := by omega
        have hnh' : (h : Int) < P.nh := by omega
        have h8' : (h : Int) < 8 := by omega
        have hjd' : (jq : Int) < P.jn h := by omega
        have w9 : wrap64 (9 + (r : Int)) = 9 + (r : Int) := by have := HRN.out; clear d1 d2 d3 d4 hnh' h8' hjd' xlo xhi; unfold wrap64; omega
        have iw9 := iw_in HRN.out.2
        have d0 : ¬ ((h : Int) < 0) := by clear w9 iw9; omega
        clear cs hx Q M S SJ cj ej hjob hjq hjb
        go_upto_region 17 with (fail)
        go_quiet (fail)
        go_upto_region 19 with (fail)
        clear w9 iw9 d1 d2 d3 d4 d0
        obtain ⟨W5, hW5⟩ : ∃ W5, (W4.alloc (.cells #[.int .i64 (h : Int), .int .i64 xa, .int .i64 xt, .int .u64 xd, .int .u64 xp, .bool xo] 47)).drewN nq = W5 := ⟨_, rfl⟩
        have B45 := hide (show Below W4.heap.size W4 W5 from by rw [← hW5]; exact below_drewN ((Below.refl _ W4).alloc (Nat.le_refl _) _) _)
        have R5 : W5.rowIs W4.heap.size 47 6 (lrow [.int .i64 (h : Int), .int .i64 xa, .int .i64 xt, .int .u64 xd, .int .u64 xp, .bool xo]) := by rw [← hW5]; exact (rowL_alloc W4 [.int .i64 (h : Int), .int .i64 xa, .int .i64 xt, .int .u64 xd, .int .u64 xp, .bool xo] _ rfl).of_block rfl
        rw [hW5]
        clear hW5
        have up : ∀ p v, W4.cell? p = some v → p.block < W4.heap.size → W5.cell? p = some v := fun p v e l => (B45.out.cell l).trans e
        have c7 := up _ _ c7 l1
        have ch := up _ _ ch lh
        have j0 := up _ _ j0 lj
        have j1 := up _ _ j1 lj
        have j2 := up _ _ j2 lj
        have j3 := up _ _ j3 lj
        have j4 := up _ _ j4 lj
        have c10 := up _ _ c10 l10
        have HR5 := hide R5
        have z5 := B45.out.size
        have m10 : b10 < W5.heap.size := by omega
        have mh : bh < W5.heap.size := by omega
        have mj : bj < W5.heap.size := by omega
        have m1 : w.heap.size < W5.heap.size := by omega
        clear z5 up R5 p0 p1 p2 p3 p4 p5 t0 c5
        go_region
        obtain ⟨W6, hW6⟩ : ∃ W6, (W5.alloc (.cells #[.int .i64 kk, .int .i64 ka, .int .i64 kb, .int .i64 kc, .int .u64 kh] 50)).drew = W6 := ⟨_, rfl⟩
        have B56 := hide (show Below W5.heap.size W5 W6 from by rw [← hW6]; exact ((Below.refl _ W5).alloc (Nat.le_refl _) _).drew)
        have B46 := hide (B45.out.trans (B56.out.mono B45.out.size))
        have RJ := hide (show W6.rowIs W5.heap.size 50 5 (lrow [.int .i64 kk, .int .i64 ka, .int .i64 kb, .int .i64 kc, .int .u64 kh]) from by rw [← hW6]; exact (rowL_alloc W5 [.int .i64 kk, .int .i64 ka, .int .i64 kb, .int .i64 kc, .int .u64 kh] _ rfl).drew)
        rw [hW6]
        clear hW6 c7 ch j0 j1 j2 j3 j4 c10 m10 mh mj m1 l1 lh lj l10
        have HM6 := hide (HM.out.below B46.out)
        have R6 := HR5.out.of_block (B56.out.block W4.heap.size HR5.out.lt)
        have q0 : W6.cell? ⟨W4.heap.size, 0, none⟩ = some (.int .i64 (h : Int)) := R6.cell (i := 0) (by decide)
        have q1 : W6.cell? ⟨W4.heap.size, 1, none⟩ = some (.int .i64 xa) := R6.cell (i := 1) (by decide)
        have q2 : W6.cell? ⟨W4.heap.size, 2, none⟩ = some (.int .i64 xt) := R6.cell (i := 2) (by decide)
        have q3 : W6.cell? ⟨W4.heap.size, 3, none⟩ = some (.int .u64 xd) := R6.cell (i := 3) (by decide)
        have q4 : W6.cell? ⟨W4.heap.size, 4, none⟩ = some (.int .u64 xp) := R6.cell (i := 4) (by decide)
        have q5 : W6.cell? ⟨W4.heap.size, 5, none⟩ = some (.bool xo) := R6.cell (i := 5) (by decide)
        have c11 := HM6.out.row11.cell h8
        have f11 := HM6.out.row11.frozen h
        have l11 := HM6.out.row11.lt
        have mb : L.ml h ≤ 65536 := by have := HS.out.mb h; omega
        have hba : base ≤ W6.heap.size := by have := HM6.out.lo.1; have := HM6.out.row7.lt; omega
        obtain ⟨Ah, hAh⟩ : ∃ Ah, A h = Ah := ⟨_, rfl⟩
        rw [hAh] at c11
        have l4 : W4.heap.size < W6.heap.size := R6.lt
        have HAH := hide hAh
        have HR6 := hide R6
        obtain ⟨x, hx⟩ : ∃ x : Stp, x = ⟨(h : Int), xa, xt, xd, xp, xo⟩ := ⟨_, rfl⟩
        have HXX := hide hx
        have OWN := hide (fun (w' : World) (hh : Has w' base blk c) => show w'.ownsRow base 47 6 Ah (L.ml h) (stepCells (L.md h) (L.ml h)) from by rw [← hAh]; exact (HM6.out.rows h h8).owns hh (stepCells_length _ _))
        have NEW := hide (fun j u (hj : x.cells[j]? = some u) => show (W6.alloc (.cells #[.int .i64 (h : Int), .int .i64 xa, .int .i64 xt, .int .u64 xd, .int .u64 xp, .bool xo] 47)).cell? (Addr.add ⟨W6.heap.size, 0, none⟩ j) = some u from cells_new W6 #[.int .i64 (h : Int), .int .i64 xa, .int .i64 xt, .int .u64 xd, .int .u64 xp, .bool xo] _ j u (by rw [hx] at hj; simpa [Stp.cells] using hj))
        have OLT := hide (fun q (hq : Ah.ownBlock = some q) => show base ≤ q ∧ q < W4.heap.size from by rw [← hAh] at hq; exact ((HM.out.rows h h8).owns HM.out.has (stepCells_length _ _)).lt q hq)
        have N11 := hide (show b11 ≠ W4.heap.size ∧ b11 ≠ W5.heap.size ∧ base ≤ b11 ∧ W5.heap.size < W6.heap.size ∧ W4.heap.size ≤ W5.heap.size from ⟨by have := HM.out.row11.lt; omega, by have := HM.out.row11.lt; have := B45.out.size; omega, HM.out.lo.2.2.2.2, RJ.out.lt, B45.out.size⟩)
        clear hAh R6 hx
        go_wp2_with fail
        go_cut [] from 97 to 106 (fun wx => ∃ nb cap blk' c', Lm wx base b7 b8 b9 b10 b11 r { L with ml := upd L.ml h (L.ml h + 1), md := upd L.md h (upd (L.md h) (L.ml h) x) } job (upd A h (.slice (some ⟨nb, 0, none⟩) (L.ml h + 1) cap)) blk' c' ∧ Below base W6 wx ∧ wx.rowIs W4.heap.size 47 6 (lrow [.int .i64 (h : Int), .int .i64 xa, .int .i64 xt, .int .u64 xd, .int .u64 xp, .bool xo]) ∧ wx.rowIs W5.heap.size 50 5 (lrow [.int .i64 kk, .int .i64 ka, .int .i64 kb, .int .i64 kc, .int .u64 kh]))
        case first =>
          go_region_law (
            refine step_append_at rfl (.tmp 102) (.tmp 104) 30 rfl base 47 _ 6 48 Try.underlying30 info48z rfl (by decide) Ah (L.ml h) (stepCells (L.md h) (L.ml h)) (by simp [Act.eval, Act.put]) (OWN.out _ ((HM6.out.has.alloc _).drew)) ⟨W6.heap.size, 0, none⟩ 1 1 x.cells (by simp [Act.eval, Act.put]) rfl (fun j u hj => by have := NEW.out j u hj; simpa using this) (step_one x) (by unfold maxLen; omega) (by omega) (by simp; omega) ?_
            intro v' w3 hown hg hat
            rw [← HAH.out] at hg hat
            obtain ⟨nb, cap, blk', c', rfl, hbn, ce, fe, M7⟩ := HM6.out.set_app hba h8 (((Touch.refl W6 (fun _ => False)).alloc _).drew) hown hg hat
            rw [HAH.out] at ce
            have HM7 := hide M7
            rw [HAH.out] at hg
            have TT := Touch.of_grown hg
            have BA := hide ((((Below.refl base W6).alloc hba _).drew).grown hg (by simp; omega) (fun q hq => (OLT.out q hq).1))
            have RS7 := hide (((HR6.out.alloc _).drew).of_block (TT.block _ ((HR6.out.alloc _).drew).lt (fun e => by have := (OLT.out _ e.symm).2; omega)))
            have RJ7 := hide (((RJ.out.alloc _).drew).of_block (TT.block _ ((RJ.out.alloc _).drew).lt (fun e => by have := (OLT.out _ e.symm).2; have := N11.out; omega)))
            clear TT M7 hown hg hat hbn)
          all_goals go_wp2_with fail
          all_goals go_meet
          all_goals
            case rel => exact ⟨nb, cap, blk', c', HM7.out, BA.out.setCell N11.out.2.2.1 _, RS7.out.setOther (fun e => N11.out.1 e.symm) _, RJ7.out.setOther (fun e => N11.out.2.1 e.symm) _⟩
        case rest =>
          obtain ⟨nb, cap, blk', c', M7, B67, RS, RJ2⟩ := hcut
          obtain ⟨W7, hW7⟩ : ∃ W7, W7 = wc := ⟨_, rfl⟩
          subst hW7
          obtain ⟨n, hn⟩ : ∃ n, L.ml h = n := ⟨_, rfl⟩
          rw [hn] at M7 mb
          have HN := hide hn
          have HM7 := hide M7
          have HRS := hide RS
          have HRJ := hide RJ2
          have HB67 := hide B67
          have c11 : W7.cell? ⟨b11, h, none⟩ = some (.slice (some ⟨nb, 0, none⟩) (n + 1) cap) := by have := M7.row11.cell h8; rw [upd_same] at this; exact this
          have c9 := M7.row9.cell h8
          have f9 := M7.row9.frozen h
          have l9 := M7.row9.lt
          have s1 : W7.cell? ⟨W4.heap.size, 1, none⟩ = some (.int .i64 xa) := RS.cell (i := 1) (by decide)
          have s2 : W7.cell? ⟨W4.heap.size, 2, none⟩ = some (.int .i64 xt) := RS.cell (i := 2) (by decide)
          have s5 : W7.cell? ⟨W4.heap.size, 5, none⟩ = some (.bool xo) := RS.cell (i := 5) (by decide)
          have jk : W7.cell? ⟨W5.heap.size, 0, none⟩ = some (.int .i64 kk) := RJ2.cell (i := 0) (by decide)
          have ib : (i : Int) ≤ 65536 := by omega
          clear M7 B67 RS RJ2 hn q0 q1 q2 q3 q4 q5 f11 OWN NEW OLT HAH
          have c7 := HM7.out.row7.cell h8
          have f7 := HM7.out.row7.frozen h
          have l7 := HM7.out.row7.lt
          have NE := hide (show b7 ≠ W4.heap.size ∧ b7 ≠ W5.heap.size ∧ b9 ≠ W4.heap.size ∧ b9 ≠ W5.heap.size from ⟨by have := HM.out.row7.lt; omega, by have := HM.out.row7.lt; have := B45.out.size; omega, by have := HM.out.row9.lt; omega, by have := HM.out.row9.lt; have := B45.out.size; omega⟩)
          have ne79 : b7 ≠ b9 := fun e => by
            have := HM7.out.has.ne HM7.out.ins HM7.out.beg (by simp)
            rw [HM7.out.e7, HM7.out.e9] at this
            exact this e
          have KD := hide (show kk = 1 ∨ kk = 2 ∨ kk = 3 ∨ kk = 4 from by have := HQ'.out.kd; rw [← HEJ.out, HJQ.out, HJ.out] at this; exact this)
          go_upto_if 112 with (fail)
          go_cut [] from 107 to 128 (fun wy => ∃ blk c, Lm wy base b7 b8 b9 b10 b11 r ⟨L.ins' h kk, L.giv, L.beg' h i, upd L.ml h (n + 1), upd L.md h (upd (L.md h) n x)⟩ job (upd A h (.slice (some ⟨nb, 0, none⟩) (n + 1) cap)) blk c ∧ Below base W7 wy ∧ wy.rowIs W4.heap.size 47 6 (lrow [.int .i64 (h : Int), .int .i64 xa, .int .i64 xt, .int .u64 xd, .int .u64 xp, .bool xo]) ∧ wy.rowIs W5.heap.size 50 5 (lrow [.int .i64 kk, .int .i64 ka, .int .i64 kb, .int .i64 kc, .int .u64 kh]))
          case first =>
            obtain ⟨ne1, ne2, ne3, ne4⟩ := NE.out
            have HB7 := hide (Below.refl base W7)
            have LO := hide (show base ≤ b7 ∧ base ≤ b9 from ⟨HM7.out.lo.1, HM7.out.lo.2.2.1⟩)
            have lj7 := HRJ.out.lt
            by_cases n0 : n = 0
            · subst n0
              have eb : L.beg' h i = upd L.beg h (i + 1) := if_pos HN.out
              rcases KD.out with rfl | rfl | rfl | rfl
              · go_wp2_with fail
                go_meet
                case rel =>
                  obtain ⟨c1, M8⟩ := HM7.out.set_beg h (i + 1)
                  obtain ⟨c2, M9⟩ := M8.set_ins h 0
                  have ei : L.ins' h 1 = upd L.ins h 0 := ins_zero ⟨HN.out, by decide⟩
                  rw [ei, eb]
                  refine ⟨_, c2, by simpa using M9, (HB7.out.setCell LO.out.2 _).setCell LO.out.1 _, (HRS.out.setOther (fun e => ne3 e.symm) _).setOther (fun e => ne1 e.symm) _, (HRJ.out.setOther (fun e => ne4 e.symm) _).setOther (fun e => ne2 e.symm) _⟩
              · go_wp2_with fail
                go_meet
                case rel =>
                  obtain ⟨c1, M8⟩ := HM7.out.set_beg h (i + 1)
                  obtain ⟨c2, M9⟩ := M8.set_ins h 0
                  have ei : L.ins' h 2 = upd L.ins h 0 := ins_zero ⟨HN.out, by decide⟩
                  rw [ei, eb]
                  refine ⟨_, c2, by simpa using M9, (HB7.out.setCell LO.out.2 _).setCell LO.out.1 _, (HRS.out.setOther (fun e => ne3 e.symm) _).setOther (fun e => ne1 e.symm) _, (HRJ.out.setOther (fun e => ne4 e.symm) _).setOther (fun e => ne2 e.symm) _⟩
              · go_wp2_with fail
                go_meet
                case rel =>
                  obtain ⟨c1, M8⟩ := HM7.out.set_beg h (i + 1)
                  have ei : L.ins' h 3 = L.ins := ins_same (by omega)
                  rw [ei, eb]
                  refine ⟨_, c1, by simpa using M8, HB7.out.setCell LO.out.2 _, HRS.out.setOther (fun e => ne3 e.symm) _, HRJ.out.setOther (fun e => ne4 e.symm) _⟩
              · go_wp2_with fail
                go_meet
                case rel =>
                  obtain ⟨c1, M8⟩ := HM7.out.set_beg h (i + 1)
                  have ei : L.ins' h 4 = L.ins := ins_same (by omega)
                  rw [ei, eb]
                  refine ⟨_, c1, by simpa using M8, HB7.out.setCell LO.out.2 _, HRS.out.setOther (fun e => ne3 e.symm) _, HRJ.out.setOther (fun e => ne4 e.symm) _⟩
            · have n1 : (((n : Int) + 1) == 1) = false := by simpa using (show ¬ ((n : Int) + 1 = 1) by omega)
              have n2 : ¬ (n : Int) = 0 := by omega
              go_wp2_with fail
              go_meet
              case rel =>
                have eb : L.beg' h i = L.beg := if_neg (by rw [HN.out]; exact n0)
                have ei : L.ins' h kk = L.ins := ins_same (by rw [HN.out]; exact fun e => n0 e.1)
                rw [eb, ei]
                exact ⟨_, _, HM7.out, HB7.out, HRS.out, HRJ.out⟩
          case rest =>
            obtain ⟨blk2, c2, M8, B78, RS8, RJ8⟩ := hcut
            obtain ⟨W8, hW8⟩ : ∃ W8, W8 = wc := ⟨_, rfl⟩
            subst hW8
            have HM8 := hide M8
            have HRS8 := hide RS8
            have HRJ8 := hide RJ8
            have HB78 := hide B78
            have s1 : W8.cell? ⟨W4.heap.size, 1, none⟩ = some (.int .i64 xa) := RS8.cell (i := 1) (by decide)
            have s2 : W8.cell? ⟨W4.heap.size, 2, none⟩ = some (.int .i64 xt) := RS8.cell (i := 2) (by decide)
            have s5 : W8.cell? ⟨W4.heap.size, 5, none⟩ = some (.bool xo) := RS8.cell (i := 5) (by decide)
            have jk : W8.cell? ⟨W5.heap.size, 0, none⟩ = some (.int .i64 kk) := RJ8.cell (i := 0) (by decide)
            have ls8 : W4.heap.size < W8.heap.size := RS8.lt
            have lj8 : W5.heap.size < W8.heap.size := RJ8.lt
            clear M8 B78 RS8 RJ8 c11 c9 f9 l9 c7 f7 l7 ne79
            obtain ⟨qq, hqq⟩ : ∃ qq : Bool, decide (xa = 5 ∧ 9 ≤ xt ∧ xo = true) = qq := ⟨_, rfl⟩
            have HQQ := hide hqq
            clear hqq
            go_upto_region 25 with (fail)
            go_cut [140] from 129 to 139 (fun s140 wx => s140 = .bool qq ∧ wx = W8)
            case first =>
              by_cases a5 : xa = 5
              · have a5' : (xa == 5) = true := by simpa using a5
                by_cases t9 : 9 ≤ xt
                · have t9' : decide (9 ≤ xt) = true := by simpa using t9
                  have ZQ := hide (show Value.bool xo = .bool qq from by rw [← HQQ.out]; cases xo <;> simp [a5, t9])
                  clear a5
                  go_wp2_with fail
                  go_meet
                  case rel => exact ⟨ZQ.out, rfl⟩
                · have t9' : decide (9 ≤ xt) = false := by simpa using t9
                  have ZQ := hide (show Value.bool false = .bool qq from by rw [← HQQ.out, decide_eq_false (fun z => t9 z.2.1)])
                  clear a5
                  go_wp2_with fail
                  go_meet
                  case rel => exact ⟨ZQ.out, rfl⟩
              · have a5' : (xa == 5) = false := by simpa using a5
                have ZQ := hide (show Value.bool false = .bool qq from by rw [← HQQ.out, decide_eq_false (fun z => a5 z.1)])
                go_wp2_with fail
                go_meet
                case rel => exact ⟨ZQ.out, rfl⟩
            case rest =>
              obtain ⟨rfl, hW8⟩ := hcut
              obtain rfl := hW8.symm
              go_upto_if 140 with (fail)
              go_cut [16, 17] from 141 to 183 (fun _ _ wz => ∃ blk c, Lm wz base b7 b8 b9 b10 b11 r ⟨L.ins' h kk, L.giv' h i kk x, L.beg' h i, upd L.ml h (n + 1), upd L.md h (upd (L.md h) n x)⟩ job (upd A h (.slice (some ⟨nb, 0, none⟩) (n + 1) cap)) blk c ∧ Below base W8 wz ∧ wz.rowIs W4.heap.size 47 6 (lrow [.int .i64 (h : Int), .int .i64 xa, .int .i64 xt, .int .u64 xd, .int .u64 xp, .bool xo]) ∧ wz.rowIs W5.heap.size 50 5 (lrow [.int .i64 kk, .int .i64 ka, .int .i64 kb, .int .i64 kc, .int .u64 kh]))
              case first =>
                have HB8 := hide (Below.refl base W8)
                have CK := hide (show kk = 4 → xa = 5 → 9 ≤ xt → xo = true → ¬ L.giv (xt - 9).toNat = 0 ∧ ∀ q, ¬ (0 < L.ins q ∧ L.ins q < L.giv (xt - 9).toNat) from by have := HQ'.out.ck; rw [← HEJ.out, HJQ.out, HJ.out] at this; exact this)
                have CS := hide (show xa = 5 → 9 ≤ xt → kk = 3 ∨ kk = 4 from by have := HQ'.out.cas; rw [← HEJ.out, HJQ.out, HJ.out] at this; exact this)
                have IN4 := hide (show kk = 4 → L.ins' h kk = L.ins from fun e => ins_same (by rw [e]; omega))
                have XX := HXX.out
                cases qq with
                | false =>
                  have GS := hide (show L.giv' h i kk x = L.giv from giv_same (by rw [XX]; simpa using HQQ.out))
                  clear XX
                  go_wp2_with fail
                  go_meet
                  case rel => rw [GS.out]; exact ⟨_, _, HM8.out, HB8.out, HRS8.out, HRJ8.out⟩
                | true =>
                  obtain ⟨a5, t9, rfl⟩ : xa = 5 ∧ 9 ≤ xt ∧ xo = true := by simpa using HQQ.out
                  have HA5 := hide a5
                  clear a5
                  obtain ⟨p, hp⟩ : ∃ p : Nat, xt - 9 = (p : Int) := ⟨(xt - 9).toNat, by omega⟩
                  have hpr : p < r := by omega
                  have hpr' : (p : Int) < (r : Int) := by omega
                  have p0 : (0 : Int) ≤ p := by omega
                  have l8 := HM8.out.row8.lt
                  have f8 := HM8.out.row8.frozen p
                  have c8 : W8.cell? ⟨b8, p, none⟩ = some (.int .i64 (L.giv p : Int)) := HM8.out.row8.cell hpr
                  have GV := hide (show L.giv' h i kk x = upd L.giv p (if kk = 3 then L.beg' h i h else 0) from by
                    unfold Lw.giv'
                    rw [if_pos (by rw [XX]; exact ⟨HA5.out, t9, rfl⟩)]
                    congr 1
                    rw [XX]; show (xt - 9).toNat = p; omega)
                  have N8 := hide (show base ≤ b8 ∧ b8 ≠ W4.heap.size ∧ b8 ≠ W5.heap.size from ⟨HM8.out.lo.2.1, by have := HM.out.row8.lt; omega, by have := HM.out.row8.lt; have := B45.out.size; omega⟩)
                  clear XX
                  rcases CS.out HA5.out t9 with k3 | k4
                  · subst k3
                    have GV3 := hide (show L.giv' h i 3 x = upd L.giv p (L.beg' h i h) from by have := GV.out; rw [if_pos rfl] at this; exact this)
                    clear GV
                    have c9 : W8.cell? ⟨b9, h, none⟩ = some (.int .i64 (L.beg' h i h : Int)) := HM8.out.row9.cell h8
                    have l9 := HM8.out.row9.lt
                    go_wp2_with fail
                    go_meet
                    case rel =>
                      obtain ⟨c3, M9⟩ := HM8.out.set_giv p (L.beg' h i h)
                      rw [GV3.out]
                      exact ⟨_, c3, M9, HB8.out.setCell N8.out.1 _, HRS8.out.setOther (fun e => N8.out.2.1 e.symm) _, HRJ8.out.setOther (fun e => N8.out.2.2 e.symm) _⟩
                  · subst k4
                    have GV4 := hide (show L.giv' h i 4 x = upd L.giv p 0 from by have := GV.out; rw [if_neg (by decide)] at this; exact this)
                    clear GV
                    obtain ⟨g0, gn⟩ := CK.out rfl HA5.out t9 rfl
                    rw [show (xt - 9).toNat = p by omega] at g0 gn
                    have GN := hide gn
                    have hI4 := IN4.out rfl
                    have C7 := hide (show ∀ q, q < 8 → W8.cell? ⟨b7, q, none⟩ = some (.int .i64 (L.ins q : Int)) from fun q hq => by have := HM8.out.row7.cell hq; simp only [hI4] at this; exact this)
                    have l7 := HM8.out.row7.lt
                    have g0' : ¬ (L.giv p : Int) = 0 := by omega
                    clear gn hI4 g0
                    obtain ⟨gp, hgp⟩ : ∃ gp, L.giv p = gp := ⟨_, rfl⟩
                    rw [hgp] at c8 g0' GN
                    clear hgp
                    have ge : ((gp : Int) == 0) = false := by simpa using g0'
                    have ge2 : ¬ gp = 0 := by omega
                    go_wp2_with fail
                    go_loopw [17] (fun v17 wr => ∃ q m : Nat, q ≤ 8 ∧ v17 = .int .i64 (q : Int) ∧ wr = W8.drewN m) (fun v17 _ => 8 - (intOf v17).toNat)
                    case atStart => exact ⟨0, 0, by omega, rfl, rfl⟩
                    case round =>
                      obtain ⟨q, m, hq, rfl, rfl⟩ := hrel
                      by_cases hq8 : q < 8
                      · have hq8' : (q : Int) < 8 := by omega
                        have c7 := C7.out q hq8
                        have gn := GN.out q
                        obtain ⟨iq, hiq⟩ : ∃ iq, L.ins q = iq := ⟨_, rfl⟩
                        rw [hiq] at c7 gn
                        clear hiq
                        by_cases i0 : 0 < iq
                        · have i0' : decide (0 < (iq : Int)) = true := by simpa using i0
                          have i1 : decide ((iq : Int) < (gp : Int)) = false := by simp; omega
                          have i2 : decide (iq < gp) = false := by simp; omega
                          have i3 : ¬ iq < gp := by omega
                          clear gn
                          go_wp2_with fail
                          go_quiet (fail)
                          go_wp2_with fail
                          go_roundw
                          case rel => exact ⟨q + 1, _, by omega, by go_num, rfl⟩
                          case measure => simp [intOf]; omega
                        · have i0' : decide (0 < (iq : Int)) = false := by simp; omega
                          clear gn
                          go_wp2_with fail
                          go_quiet (fail)
                          go_wp2_with fail
                          go_roundw
                          case rel => exact ⟨q + 1, _, by omega, by go_num, rfl⟩
                          case measure => simp [intOf]; omega
                      · have e8 : q = 8 := by omega
                        subst e8
                        go_wp2_with fail
                        go_meet
                        case rel =>
                          obtain ⟨c3, M9⟩ := (HM8.out.of_has (HM8.out.has.below ⟨rfl, rfl, rfl, Nat.le_refl _, fun _ _ => rfl⟩) : Lm (W8.drewN m) base b7 b8 b9 b10 b11 r _ job _ _ _).set_giv p 0
                          rw [GV4.out]
                          exact ⟨_, c3, M9, (below_drewN HB8.out m).setCell N8.out.1 _, (HRS8.out.of_block (w' := W8.drewN m) rfl).setOther (fun e => N8.out.2.1 e.symm) _, (HRJ8.out.of_block (w' := W8.drewN m) rfl).setOther (fun e => N8.out.2.2 e.symm) _⟩
              case rest =>
                obtain ⟨blk3, c3, M9, B89, RS9, RJ9⟩ := hcut
                obtain ⟨W9, hW9⟩ : ∃ W9, W9 = wc := ⟨_, rfl⟩
                subst hW9
                have HM9 := hide M9
                have HB9 := hide B89
                have jk : W9.cell? ⟨W5.heap.size, 0, none⟩ = some (.int .i64 kk) := RJ9.cell (i := 0) (by decide)
                have lj9 : W5.heap.size < W9.heap.size := RJ9.lt
                have c11 : W9.cell? ⟨b11, h, none⟩ = some (.slice (some ⟨nb, 0, none⟩) (n + 1) cap) := by have := M9.row11.cell h8; rw [upd_same] at this; exact this
                have l11 := M9.row11.lt
                have EN := hide (show Calls Try.prog 15 #[.int .i64 (r : Int), .int .i64 kk, .slice (some ⟨nb, 0, none⟩) (n + 1) cap] W9.drew fun e w' => e = .returned (.bool en') ∧ Below W9.heap.size W9 w' from by
                  obtain ⟨sn1, sn2⟩ := M9.seen (i := h) (nb := nb) (cap := cap) (n := n) h8 (upd_same _ _ _) (upd_same _ _ _)
                  have e := ends_ok (w := W9.drew) (cap := cap) (b := nb) (off := 0) (G := upd (L.md h) n x) HRN.out.2 mb KD.out sn1 (fun j hj q hq => by have := sn2 j hj q hq; rw [show (⟨L.ins' h kk, L.giv' h i kk x, L.beg' h i, upd L.ml h (n + 1), upd L.md h (upd (L.md h) n x)⟩ : Lw).md h = upd (L.md h) n x from upd_same _ _ _] at this; simpa using this)
                  rw [lend_of] at e
                  have en := HQ'.out.ends
                  rw [← HEJ.out, HJQ.out, HJ.out, HN.out, ← HXX.out] at en
                  refine e.mono (fun e' w' h' => ⟨by rw [h'.1]; exact congrArg (fun z => Ending.returned (.bool z)) en, ⟨h'.2.os, h'.2.tape, h'.2.output, h'.2.size, h'.2.block⟩⟩))
                have NE9 := hide (show base ≤ b7 ∧ base ≤ b10 ∧ base ≤ b11 from ⟨M9.lo.1, M9.lo.2.2.2.1, M9.lo.2.2.2.2⟩)
                clear M9 B89 RS9 RJ9 s1 s2 s5 ls8 lj8
                go_wp2_with fail
                go_region_held (fun w' => w'.cell? ⟨W5.heap.size, 0, none⟩ = some (.int .i64 kk) ∧ w'.cell? ⟨b11, h, none⟩ = some (.slice (some ⟨nb, 0, none⟩) (n + 1) cap)) (go_keep) (first | (go_at_call 15; refine EN.out.mono ?_; rintro e w10 ⟨rfl, hb10⟩; have jk2 := (hb10.cell (p := ⟨W5.heap.size, 0, none⟩) lj9).trans jk; have c112 := (hb10.cell (p := ⟨b11, h, none⟩) l11).trans c11; have HB10 := hide hb10; clear hb10))
                have HM10 := hide (HM9.out.below HB10.out)
                have lj10 : W5.heap.size < w10.heap.size := Nat.lt_of_lt_of_le lj9 HB10.out.size
                have HBB := hide (HB9.out.trans (HB10.out.mono (by have := NE9.out.1; have := HM9.out.row7.lt; omega)))
                have B910h := hide (HB10.out.mono (show base ≤ W9.heap.size by have := NE9.out.1; have := HM9.out.row7.lt; omega))
                have B1010 := hide (Below.refl base w10)
                cases en' with
                | false =>
                  have LN := hide (show L.next h i kk x false = ⟨L.ins' h kk, L.giv' h i kk x, L.beg' h i, upd L.ml h (n + 1), upd L.md h (upd (L.md h) n x)⟩ from by
                    unfold Lw.next
                    rw [if_neg (by simp), HN.out]
                    rfl)
                  go_wp2_with fail
                  go_roundw
                  case rel =>
                    refine ⟨i + 1, hlt, by go_num, ?_, ?_⟩
                    · obtain ⟨E0', S'⟩ := HQ'.out.on
                      rw [← HEJ.out, HJQ.out, HJ.out, ← HXX.out] at S'
                      rw [LN.out] at S'
                      refine ⟨_, E0', _, _, _, _, S', ?_, HM10.out⟩
                      intro h' hh'
                      rw [HQ'.out.dn]
                      exact HJB.out h' hh'
                    · have s0 : W3.heap.size = base := HBA.out
                      rw [s0]
                      have q1 : Below base W3 W4 := by rw [← s0]; exact HB.out
                      exact q1.trans ((B46.out.mono (by rw [← s0]; exact HB.out.size)).trans (HB67.out.trans (HB78.out.trans (HBB.out.trans (B1010.out)))))
                  case measure => exact meas_b hlt
                | true =>
                  have c10 : w10.cell? ⟨b10, h, none⟩ = some (.int .i64 (jq : Int)) := by have := HM10.out.row10.cell h8; rw [HJQ.out] at this; exact this
                  have f10 := HM10.out.row10.frozen h
                  have l10 := HM10.out.row10.lt
                  have f11 := HM10.out.row11.frozen h
                  have l11' := HM10.out.row11.lt
                  have jb6 : (jq : Int) ≤ 256 := JQ6.out
                  have ne10_11 : b10 ≠ b11 := fun e => by
                    have := HM10.out.has.ne HM10.out.job HM10.out.made (by simp)
                    rw [HM10.out.e10, HM10.out.e11] at this
                    exact this e
                  have ne7_10 : b7 ≠ b10 := fun e => by
                    have := HM10.out.has.ne HM10.out.ins HM10.out.job (by simp)
                    rw [HM10.out.e7, HM10.out.e10] at this
                    exact this e
                  have ne7_11 : b7 ≠ b11 := fun e => by
                    have := HM10.out.has.ne HM10.out.ins HM10.out.made (by simp)
                    rw [HM10.out.e7, HM10.out.e11] at this
                    exact this e
                  have DN := hide (show ∀ h', h' < P.nh → upd job h (jq + 1) h' = upd (rn r P i).done h ((rn r P i).done h + 1) h' from fun h' hh' => by
                    by_cases e : h' = h
                    · subst e; rw [upd_same, upd_same, ← HEJ.out, HJQ.out]
                    · rw [upd_other _ _ e, upd_other _ _ e]; exact HJB.out h' hh')
                  by_cases k1 : kk = 1
                  · subst k1
                    have c7 := HM10.out.row7.cell h8
                    have f7 := HM10.out.row7.frozen h
                    have l7 := HM10.out.row7.lt
                    have LN := hide (show L.next h i 1 x true = ⟨upd (L.ins' h 1) h (i + 1), L.giv' h i 1 x, L.beg' h i, upd (upd L.ml h (n + 1)) h 0, upd L.md h (upd (L.md h) n x)⟩ from by
                      unfold Lw.next
                      rw [if_pos ⟨rfl, rfl⟩, HN.out, upd_upd]
                      rfl)
                    go_wp2_with fail
                    go_roundw
                    case rel =>
                      refine ⟨i + 1, hlt, by go_num, ?_, ?_⟩
                      · obtain ⟨E0', S'⟩ := HQ'.out.on
                        rw [← HEJ.out, HJQ.out, HJ.out, ← HXX.out] at S'
                        rw [LN.out] at S'
                        obtain ⟨c4, M11⟩ := HM10.out.set_ins h (i + 1)
                        obtain ⟨c5, M12⟩ := M11.set_job h (jq + 1)
                        obtain ⟨c6, M13⟩ := M12.set_nil h
                        refine ⟨_, E0', _, _, _, c6, S', ?_, by simpa using M13⟩
                        intro h' hh'
                        rw [HQ'.out.dn]
                        rw [if_pos rfl]; exact DN.out h' hh'
                      · have s0 : W3.heap.size = base := HBA.out
                        rw [s0]
                        have q1 : Below base W3 W4 := by rw [← s0]; exact HB.out
                        exact q1.trans ((B46.out.mono (by rw [← s0]; exact HB.out.size)).trans (HB67.out.trans (HB78.out.trans (HBB.out.trans (((B1010.out.setCell NE9.out.1 _).setCell NE9.out.2.1 _).setCell NE9.out.2.2 _)))))
                    case measure => exact meas_b hlt
                  · have k1' : (kk == 1) = false := by simpa using k1
                    have LN := hide (show L.next h i kk x true = ⟨L.ins' h kk, L.giv' h i kk x, L.beg' h i, upd (upd L.ml h (n + 1)) h 0, upd L.md h (upd (L.md h) n x)⟩ from by
                      unfold Lw.next
                      rw [if_neg (fun z => k1 z.2), HN.out, upd_upd]
                      rfl)
                    go_wp2_with fail
                    go_roundw
                    case rel =>
                      refine ⟨i + 1, hlt, by go_num, ?_, ?_⟩
                      · obtain ⟨E0', S'⟩ := HQ'.out.on
                        rw [← HEJ.out, HJQ.out, HJ.out, ← HXX.out] at S'
                        rw [LN.out] at S'
                        obtain ⟨c5, M12⟩ := HM10.out.set_job h (jq + 1)
                        obtain ⟨c6, M13⟩ := M12.set_nil h
                        refine ⟨_, E0', _, _, _, c6, S', ?_, by simpa using M13⟩
                        intro h' hh'
                        rw [HQ'.out.dn]
                        rw [if_pos rfl]; exact DN.out h' hh'
                      · have s0 : W3.heap.size = base := HBA.out
                        rw [s0]
                        have q1 : Below base W3 W4 := by rw [← s0]; exact HB.out
                        exact q1.trans ((B46.out.mono (by rw [← s0]; exact HB.out.size)).trans (HB67.out.trans (HB78.out.trans (HBB.out.trans ((B1010.out.setCell NE9.out.2.1 _).setCell NE9.out.2.2 _)))))
                    case measure => exact meas_b hlt
      · have e : i = k := by omega
        subst e
        obtain ⟨L, E0, job, A, blk, c, S, hjob, M⟩ := HP.out
        have HM := hide M
        have HJB := hide hjob
        clear S M hjob
        have B34 := hide HB.out
        go_wp2_with fail
        go_loopw [18] (fun v18 wr => ∃ h m : Nat, h ≤ P.nh ∧ v18 = .int .i64 (h : Int) ∧ wr = W4.drewN m) (fun v18 _ => P.nh - (intOf v18).toNat)
        case atStart => exact ⟨0, 0, Nat.zero_le _, rfl, rfl⟩
        case round =>
          obtain ⟨h, m, hh, rfl, rfl⟩ := hrel
          by_cases hl : h < P.nh
          · have hl' : (h : Int) < P.nh := by omega
            have h8 : h < 8 := by have := HNH.out; omega
            have h8' : (h : Int) < 8 := by omega
            obtain ⟨b, off, av, cv, rfl, lb, cb, -⟩ := (HSA.out.below (B23.out.trans (B34.out.mono B23.out.size)) (Nat.le_refl _)) h hl
            have lb4 : b < W4.heap.size := Nat.lt_of_lt_of_le lb (B23.out.trans (B34.out.mono B23.out.size)).size
            have c10 : W4.cell? ⟨b10, h, none⟩ = some (.int .i64 ((rn r P m0).done h : Int)) := by have := HM.out.row10.cell h8; rw [HJB.out h hl, DNK.out h] at this; exact this
            have l10 := HM.out.row10.lt
            go_wp2_with fail
            go_quiet (fail)
            go_wp2_with fail
            go_roundw
            case rel => exact ⟨h + 1, _, by omega, by go_num, rfl⟩
            case measure => exact meas_b hl
          · have hl' : ¬ (h : Int) < P.nh := by omega
            go_wp2_with fail
            go_ret
            exact ⟨rfl, below_drewN (keep.out _ (B3.out.trans (B34.out.mono B3.out.size))).1 _⟩
  · have he' : (er == 0) = false := by simpa using he
    go_wp2_with fail
    go_ret
    exact ⟨rfl, (keep.out _ B3.out).1⟩
end Epoch
end Go.Proofs.Ytbohmahjpolapaa
