/-
  Lemmas: SeqWW.
-/
import Derived.Test.YtkiojiibppdjjaaTw05
import Derived.Deep.CutBlock
import Derived.Deep.CutRange
import Derived.Deep.QuietTactic
set_option linter.unusedVariables false
set_option linter.unusedSimpArgs false
set_option linter.unnecessarySimpa false
set_option maxRecDepth 20000
namespace Go.Proofs.Ytkiojiibppdjjaa
open Go.RowKit Go.Maps
namespace Seq

theorem info3 : (Try.prog.info? 3).map (fun i => (i.zero.map Value.cells, i.size, i.bytes)) = some (some #[.int .i64 0], 1, 8) := by kernel_rfl

/-- What stands at the head of a round. -/
def LI (r : Nat) (P : Par) (m0 K : Nat) (W5 : World) (v13 v14 v67 : Value) (wr : World) : Prop :=
  ∃ (i : Nat) (now : Int) (wn : Nat) (fst ld : Nat → Int) (bg : Nat → Bool), i ≤ K ∧ v67 = .int .i64 (i : Int) ∧ v13 = .int .u64 now ∧ v14 = .int .i64 (wn : Int) ∧ Iv r P (rn r P i).f (rn r P i).done (rn r P i).cur now wn fst ld bg ∧
    wr.rowIs W5.heap.size 3 P.nh (fun h => .int .i64 (((rn r P i).done h : Nat) : Int)) ∧ MapAt 47 (.int .u64 0) wr (W5.heap.size + 1) i (fun k => .int .u64 (fst k)) ∧ MapAt 4 (.bool false) wr (W5.heap.size + 2) i (fun k => .bool (bg k)) ∧ MapAt 3 (.int .i64 0) wr (W5.heap.size + 3) i (fun k => .int .i64 (ld k)) ∧ Below W5.heap.size W5 wr

theorem below_dn {B : Nat} {a b : World} (h : Below B a b) (k : Nat) : Below B a (b.drewN k) := ⟨h.os, h.tape, h.output, h.size, h.block⟩
theorem vi_a {i : Nat} : Value.int .i64 ((i : Int) + 1) = .int .i64 ((i + 1 : Nat) : Int) := by simp
theorem meas_a {k n : Nat} (h : k < n) : n - (intOf (.int .i64 ((k : Int) + 1))).toNat < n - (intOf (.int .i64 (k : Int))).toNat := by
  show n - ((k : Int) + 1).toNat < n - (k : Int).toNat
  omega

theorem fieldX3 (w : World) (b : Nat) : (Instr.fieldAt 77 (.pointer (some ⟨b, 0, none⟩)) 3).run Try.prog w = .ok (.pointer (some ⟨b, 3, none⟩)) w := by simp [go_sem]
theorem ex_rem2 {ev : Operand → Value} {o : Oper} {w : World} {x y : Operand} {v : Int} (ho : o.op = .binOp .rem 47 x y 47) (hx : ev x = .int .u64 v) (hy : ev y = .int .u64 2) (h0 : 0 ≤ v) : (execOp ev o).run Try.prog w = .ok (.value (.int .u64 (v % 2))) w := by
  have := Int.tmod_eq_emod_of_nonneg (b := 2) h0
  simp [execOp, ho, hx, hy, go_sem, this]
theorem ex_eq0 {ev : Operand → Value} {o : Oper} {w : World} {x y : Operand} {v : Int} (ho : o.op = .binOp .eql 47 x y 47) (hx : ev x = .int .u64 v) (hy : ev y = .int .u64 0) : (execOp ev o).run Try.prog w = .ok (.value (.bool (decide (v = 0)))) w := by
  simp [execOp, ho, hx, hy, go_sem]
  rfl

set_option maxHeartbeats 16000000 in
theorem whole_walk {w : World} {s0 s1 s2 s3 s4 s5 : Int} {aoh aos : Option Addr} {nh caph ns caps : Nat} {jn : Nat → Nat} {jb : Nat → Nat → Jb} {sched : Nat → Int} (SH : SeesH w w.heap.size aoh nh jn jb) (hn63 : nh ≤ 9223372036854775807) (SI : SeesI w w.heap.size aos ns sched) (hjw : ∀ h, h < nh → ∀ j, j < jn h → (jb h j).wf) :
    Calls Try.prog 5 #[.agg #[.int .i64 s0, .int .i64 s1, .int .i64 s2, .int .i64 s3, .int .i64 s4, .int .i64 s5], .slice aoh nh caph, .slice aos ns caps] w fun e w' => e = .returned (.bool true) ∧ Below w.heap.size w w' := by
  have HSH := hide SH
  have HJW := hide hjw
  have HSI := hide SI
  have HN63 := hide hn63
  obtain ⟨W1, hW1⟩ : ∃ W1, w.alloc (.cells #[.int .i64 s0, .int .i64 s1, .int .i64 s2, .int .i64 s3, .int .i64 s4, .int .i64 s5] 23) = W1 := ⟨_, rfl⟩
  have B1 : Below w.heap.size w W1 := by rw [← hW1]; exact (Below.refl _ w).alloc (Nat.le_refl _) _
  have R1 : W1.rowIs w.heap.size 23 6 (lrow [.int .i64 s0, .int .i64 s1, .int .i64 s2, .int .i64 s3, .int .i64 s4, .int .i64 s5]) := by rw [← hW1]; exact rowL_alloc w [.int .i64 s0, .int .i64 s1, .int .i64 s2, .int .i64 s3, .int .i64 s4, .int .i64 s5] _ rfl
  have z1 : W1.heap.size = w.heap.size + 1 := by rw [← hW1]; simp
  have keep := hide (fun (w' : World) (hb : Below W1.heap.size W1 w') => show Below w.heap.size w w' ∧ w.heap.size < w'.heap.size ∧ w'.cell? ⟨w.heap.size, 0, none⟩ = some (.int .i64 s0) ∧ w'.cell? ⟨w.heap.size, 1, none⟩ = some (.int .i64 s1) ∧ w'.cell? ⟨w.heap.size, 2, none⟩ = some (.int .i64 s2) ∧ w'.cell? ⟨w.heap.size, 3, none⟩ = some (.int .i64 s3) ∧ w'.cell? ⟨w.heap.size, 4, none⟩ = some (.int .i64 s4) ∧ w'.cell? ⟨w.heap.size, 5, none⟩ = some (.int .i64 s5) from by
    have r := R1.of_block (hb.block w.heap.size (by omega))
    exact ⟨B1.trans (hb.mono B1.size), r.lt, r.cell (i := 0) (by decide), r.cell (i := 1) (by decide), r.cell (i := 2) (by decide), r.cell (i := 3) (by decide), r.cell (i := 4) (by decide), r.cell (i := 5) (by decide)⟩)
  have SO := hide (fun (h1 : 1 ≤ s5) (h2 : s5 ≤ 64) (w1 : World) => rsize_ok w1 ⟨s0, s1, s2, s3, s4, s5⟩ h1 h2)
  have SB := hide (fun (h : s5 < 1 ∨ 64 < s5) (w1 : World) => rsize_bad w1 ⟨s0, s1, s2, s3, s4, s5⟩ h)
  have FO := hide (fun (h1 : 1 ≤ s5) (h2 : s5 ≤ 64) (want : Nat) (hw : (want : Int) = 1 + s5) (w1 : World) => fresh_ok w1 ⟨s0, s1, s2, s3, s4, s5⟩ h1 h2 hw)
  simp only [Shp.val] at SO SB FO
  clear SH SI hjw hn63 B1 R1
  go_enter Try.func5, Try.ntmps5
  go_wp2_with fail
  refine (awake_any W1).mono ?_
  rintro e w2 ⟨rfl, hb2⟩
  have HB2 := hide hb2
  obtain ⟨_, l2, c0, c1, c2, c3, c4, c5⟩ := keep.out w2 hb2
  clear hb2 hW1
  by_cases hbad : s5 < 1 ∨ 64 < s5
  · have HF := hide (SB.out hbad)
    clear SO SB FO
    go_wp2_with fail
    refine (HF.out _).mono ?_
    rintro e w3 ⟨rfl, hg3⟩
    have B3 := hide (HB2.out.trans ((below_of_grown_none hg3 _ (Nat.le_refl _)).mono HB2.out.size))
    clear hg3 c0 c1 c2 c3 c4 c5
    go_wp2_with fail
    go_ret
    exact ⟨rfl, (keep.out w3 B3.out).1⟩
  · have h1 : 1 ≤ s5 := by omega
    have h2 : s5 ≤ 64 := by omega
    obtain ⟨r, hr⟩ : ∃ r : Nat, s5 = (r : Int) := ⟨s5.toNat, by omega⟩
    subst hr
    have hr1 : 1 ≤ r := by omega
    have hr2 : r ≤ 64 := by omega
    have HS := hide (SO.out h1 h2)
    have HF := hide (FO.out h1 h2 (r + 1) (by omega))
    clear SO SB FO hbad
    go_wp2_with fail
    refine (HS.out _).mono ?_
    rintro e w3 ⟨rfl, hg3⟩
    have HB3 := hide (HB2.out.trans ((below_of_grown_none hg3 _ (Nat.le_refl _)).mono HB2.out.size))
    clear hg3 c0 c1 c2 c3 c4 c5
    obtain ⟨_, l3, c0, c1, c2, c3, c4, c5⟩ := keep.out w3 HB3.out
    go_wp2_with fail
    refine (HF.out _).mono ?_
    rintro e w4 ⟨g, rfl, RW, hg, hg4⟩
    have HB4 := hide (HB3.out.trans ((below_of_grown_none hg4 _ (Nat.le_refl _)).mono HB3.out.size))
    have S4 := hide (RW.sees)
    clear hg4 RW hg c0 c1 c2 c3 c4 c5
    obtain ⟨b4, l4, c0, c1, c2, c3, c4, c5⟩ := keep.out w4 HB4.out
    have PL := hide (play_sv (w := w4) (sh := ⟨s0, s1, s2, s3, s4, r⟩) (P := ⟨r + 1, nh, jn, jb, ns, sched⟩) (cap := r + 1) (caph := caph) (caps := caps) (most := 32768) (r := r) rfl hr1 hr2 rfl S4.out ((HSH.out.below b4 (Nat.le_refl _)).up b4.size) HN63.out ((HSI.out.below b4 (Nat.le_refl _)).up b4.size) HJW.out)
    simp only [Shp.val] at PL
    have B4 := hide b4
    clear b4
    go_wp2_with fail
    refine PL.out.mono ?_
    rintro e w5 ⟨hb5, sa, k, sc, wa, n, wc, en, aa, m, ac, er, rfl, hT⟩
    have HB5 := hide (HB4.out.trans (hb5.mono HB4.out.size))
    have B45 := hide hb5
    clear hb5 c0 c1 c2 c3 c4 c5 PL
    unfold tv3
    obtain ⟨W5, hW5⟩ : ∃ W5, w5.alloc (.cells #[.slice sa k sc, .slice wa n wc, .bool en] 32) = W5 := ⟨_, rfl⟩
    have z5 : W5.heap.size = w5.heap.size + 1 := by rw [← hW5]; simp
    have B55 : Below w5.heap.size w5 W5 := by rw [← hW5]; exact (Below.refl _ w5).alloc (Nat.le_refl _) _
    have R5 := hide (show W5.rowIs w5.heap.size 32 3 (lrow [.slice sa k sc, .slice wa n wc, .bool en]) from by rw [← hW5]; exact rowL_alloc w5 [.slice sa k sc, .slice wa n wc, .bool en] _ rfl)
    have BW5 := hide (HB5.out.trans (B55.mono HB5.out.size))
    by_cases her : er = 0
    · subst her
      obtain ⟨q1, q2, q3, hk, hm, SS, SA⟩ := hT rfl
      simp only at q1 q2 q3 hm
      have hm' := hm.symm
      subst hm'
      have hm0 : (32768 : Int).toNat = 32768 := rfl
      rw [hm0] at hk SS SA
      have hok : ∀ h, h < nh → ∀ j, j < jn h → serr h (jb h j) = 0 ∧ (jb h j).wf := fun h hh j hj => ⟨q3 h hh j hj, HJW.out h hh j hj⟩
      have hK1 : k ≤ 32768 := by rw [hk]; exact (runSt_k _ _ rfl 32768).1
      have SS5 := hide (SS.below B55 (Nat.le_refl _))
      have SA5 := hide (SA.below B55 (Nat.le_refl _))
      have SH5 := hide (HSH.out.below (keep.out W5 BW5.out).1 (Nat.le_refl _))
      have HOK := hide hok
      have HQ := hide (And.intro q1 q2)
      have HK := hide (And.intro hk hK1)
      clear hT SS SA q2 q3 hk hok hm0 B55
      have hmk := run_make_z (P := Try.prog) 26 3 _ 1 8 Try.underlying26 info3 nh (by omega) (by omega)
      simp only [Nat.mul_one] at hmk
      have hmm := @run_makeMap Try.prog
      obtain ⟨W6, hW6⟩ : ∃ W6, W5.alloc (.cells (madeCells #[.int .i64 0] nh) 3) = W6 := ⟨_, rfl⟩
      obtain ⟨W7, hW7⟩ : ∃ W7, W6.alloc (.map #[] 0) = W7 := ⟨_, rfl⟩
      obtain ⟨W8, hW8⟩ : ∃ W8, W7.alloc (.map #[] 0) = W8 := ⟨_, rfl⟩
      obtain ⟨W9, hW9⟩ : ∃ W9, W8.alloc (.map #[] 0) = W9 := ⟨_, rfl⟩
      have z6 : W6.heap.size = W5.heap.size + 1 := by rw [← hW6]; simp
      have z7 : W7.heap.size = W5.heap.size + 2 := by rw [← hW7]; simp; omega
      have z8 : W8.heap.size = W5.heap.size + 3 := by rw [← hW8]; simp; omega
      have z9 : W9.heap.size = W5.heap.size + 4 := by rw [← hW9]; simp; omega
      have D9 := hide (show W9.rowIs W5.heap.size 3 nh (fun _ => .int .i64 0) from by rw [← hW9, ← hW8, ← hW7, ← hW6]; exact (((World.rowIs_made W5 (.int .i64 0) nh 3).alloc _).alloc _).alloc _)
      have B79 : Below W7.heap.size W7 W9 := by rw [← hW9, ← hW8]; exact ((Below.refl _ W7).alloc (Nat.le_refl _) _).alloc (by simp) _
      have B89 : Below W8.heap.size W8 W9 := by rw [← hW9]; exact (Below.refl _ W8).alloc (Nat.le_refl _) _
      have F9 := hide (show MapAt 47 (.int .u64 0) W9 (W5.heap.size + 1) 0 (fun _ => .int .u64 0) from by
        have := MapAt.made W6 47 (.int .u64 0)
        rw [hW7, z6] at this
        exact this.block (B79.block _ (by omega)))
      have M9 := hide (show MapAt 4 (.bool false) W9 (W5.heap.size + 2) 0 (fun _ => .bool false) from by
        have := MapAt.made W7 4 (.bool false)
        rw [hW8, z7] at this
        exact this.block (B89.block _ (by omega)))
      have L9 := hide (show MapAt 3 (.int .i64 0) W9 (W5.heap.size + 3) 0 (fun _ => .int .i64 0) from by
        have := MapAt.made W8 3 (.int .i64 0)
        rw [hW9, z8] at this
        exact this)
      have B59 := hide (show Below W5.heap.size W5 W9 from by rw [← hW9, ← hW8, ← hW7, ← hW6]; exact ((((Below.refl _ W5).alloc (Nat.le_refl _) _).alloc (by simp) _).alloc (by simp; omega) _).alloc (by simp; omega) _)
      have tc : W5.cell? ⟨w5.heap.size, 0, none⟩ = some (.slice sa k sc) := R5.out.cell (i := 0) (by decide)
      have tc9 : W9.cell? ⟨w5.heap.size, 0, none⟩ = some (.slice sa k sc) := (B59.out.cell (p := ⟨w5.heap.size, 0, none⟩) (by show w5.heap.size < _; omega)).trans tc
      have Z5 := hide z5
      have lw5 : w.heap.size ≤ W5.heap.size := (keep.out W5 BW5.out).1.size
      clear B79 B89 z5
      go_wp2_with fail
      clear tc tc9 hW5 hW6 hW7 hW8 hW9 hmk hmm z6 z7 z8 z9
      obtain ⟨P, hP⟩ : ∃ P : Par, (⟨r + 1, nh, jn, jb, ns, sched⟩ : Par) = P := ⟨_, rfl⟩
      rw [hP] at SS5 SA5 HK
      have pn : P.nh = nh := by rw [← hP]
      have LST := hide (fun (i : Nat) (hi : i < (rn r P 32768).k) now wn fst ld bg (I : Iv r P (rn r P i).f (rn r P i).done (rn r P i).cur now wn fst ld bg) => law_step (P := P) (m := 32768) hr1 hr2 (by rw [← hP]) (by rw [← hP]; exact HOK.out) (by rw [← hP]; exact HQ.out.2) hi I)
      have ST := hide (show Iv r P (rn r P 0).f (rn r P 0).done (rn r P 0).cur 0 0 (fun _ => 0) (fun _ => 0) (fun _ => false) from Iv.start (by rw [← hP]; exact HOK.out))
      have SA6 := SA5
      have JN := hide (show P.jn = jn ∧ P.jb = jb from by rw [← hP]; exact ⟨rfl, rfl⟩)
      have PN := hide pn
      have SHP := hide SH5.out
      clear hP SA5 HOK SH5
      go_loopw [13, 14, 67] (fun v13 v14 v67 wr => LI r P 32768 k W5 v13 v14 v67 wr) (fun _ _ v67 _ => k - (intOf v67).toNat)
      case atStart =>
        exact ⟨0, 0, 0, _, _, _, Nat.zero_le _, rfl, rfl, rfl, ST.out, by rw [pn]; exact D9.out, F9.out, M9.out, L9.out, B59.out⟩
      case round =>
        obtain ⟨i, now, wn, fst, ld, bg, hi, rfl, rfl, rfl, hI, hD, hF, hM, hL, hB⟩ := hrel
        have HI := hide hI
        have HD := hide hD
        have HF := hide hF
        have HM := hide hM
        have HL := hide hL
        have HBr := hide hB
        have sz := hB.size
        have lw55 : w5.heap.size < W5.heap.size := by have := Z5.out; omega
        have R5' := R5.out.of_block (hB.block w5.heap.size lw55)
        have tc : wr.cell? ⟨w5.heap.size, 0, none⟩ = some (.slice sa k sc) := R5'.cell (i := 0) (by decide)
        clear hI hD hF hM hL R5'
        by_cases hlt : i < k
        · have hlt' : (i : Int) < k := by omega
          obtain ⟨h, en', tl, now', wn', fst', ld', bg', hh, hd, hhand, hxd, hxp, KN, I', DN, ANS⟩ := LST.out i (by have := HK.out.1; omega) now wn fst ld bg HI.out
          rw [pn] at hh
          obtain ⟨sb, so, esa, hsb, hcs⟩ := (SS5.out.below hB (by omega)) i (by have := HK.out.1; omega)
          obtain ⟨hb', ho', aj, cj, eah, hbh, hc1, SJ⟩ := (SHP.out.below hB (by omega)) h hh
          obtain ⟨d, hdd⟩ : ∃ d, (rn r P i).done h = d := ⟨_, rfl⟩
          rw [hdd, JN.out.1] at hd
          rw [hdd, JN.out.2] at KN
          obtain ⟨jb', jo', eaj, hbj, hjc⟩ := SJ d hd
          generalize jb h d = jx at KN hjc
          generalize (rn r P 32768).s i = x at hcs KN hhand hxd hxp
          obtain ⟨jk, ja, jbb, jc, jh⟩ := jx
          obtain ⟨xh, xa, xt, xd, xp, xo⟩ := x
          obtain rfl : xh = (h : Int) := hhand
          have p0 : wr.cell? ⟨sb, so + i * 6, none⟩ = some (.int .i64 h) := hcs 0 (by omega)
          have p1 : wr.cell? ⟨sb, so + i * 6 + 1, none⟩ = some (.int .i64 xa) := hcs 1 (by omega)
          have p2 : wr.cell? ⟨sb, so + i * 6 + 2, none⟩ = some (.int .i64 xt) := hcs 2 (by omega)
          have p3 : wr.cell? ⟨sb, so + i * 6 + 3, none⟩ = some (.int .u64 xd) := hcs 3 (by omega)
          have p4 : wr.cell? ⟨sb, so + i * 6 + 4, none⟩ = some (.int .u64 xp) := hcs 4 (by omega)
          have p5 : wr.cell? ⟨sb, so + i * 6 + 5, none⟩ = some (.bool xo) := hcs 5 (by omega)
          have j0 : wr.cell? ⟨jb', jo' + d * 5, none⟩ = some (.int .i64 jk) := hjc 0 (by omega)
          have j1 : wr.cell? ⟨jb', jo' + d * 5 + 1, none⟩ = some (.int .i64 ja) := hjc 1 (by omega)
          have j2 : wr.cell? ⟨jb', jo' + d * 5 + 2, none⟩ = some (.int .i64 jbb) := hjc 2 (by omega)
          have j3 : wr.cell? ⟨jb', jo' + d * 5 + 3, none⟩ = some (.int .i64 jc) := hjc 3 (by omega)
          have j4 : wr.cell? ⟨jb', jo' + d * 5 + 4, none⟩ = some (.int .u64 jh) := hjc 4 (by omega)
          have dc : wr.cell? ⟨W5.heap.size, h, none⟩ = some (.int .i64 d) := by have := HD.out.cell (i := h) (by rw [pn]; exact hh); rw [hdd] at this; exact this
          obtain ⟨jnh, hjnh⟩ : ∃ n, jn h = n := ⟨_, rfl⟩
          rw [hjnh] at hd hc1
          subst esa
          subst eah
          subst eaj
          have hd256 : d < 256 := by have := HQ.out.2 h hh; omega
          have h8 : h < 8 := by have := HQ.out.1; omega
          have HKEEP := hide hdd
          have g1 : ¬ (h : Int) < 0 := by omega
          have g2 : ¬ (nh : Int) ≤ (h : Int) := by omega
          have g3 : ¬ nh ≤ h := by omega
          have g5 : ¬ (jnh : Int) ≤ (d : Int) := by omega
          have g6 : ¬ jnh ≤ d := by omega
          have hhn : (h : Int) < (nh : Int) := by omega
          have hdj : (d : Int) < (jnh : Int) := by omega
          have lr1 : W5.heap.size < wr.heap.size := by have := HD.out.lt; omega
          have lr3 : sb < wr.heap.size := by omega
          have lr4 : jb' < wr.heap.size := World.block_lt_of_cell? _ _ j0
          have lr5 : hb' < wr.heap.size := World.block_lt_of_cell? _ _ hc1
          have lr6 : w5.heap.size < wr.heap.size := by omega
          have HXD := hide hxd
          have HXP := hide hxp
          have HDN := hide DN
          have HANS := hide ANS
          have HI' := hide I'
          have HKN := hide KN
          have nhm : nh ≤ 8 := HQ.out.1
          clear hcs hjc SJ hdd hjnh hxd hxp DN ANS I' KN
          go_wp2_with fail
          go_quiet (fail)
          go_wp2_with fail
          go_region_held (fun w' => w'.cell? ⟨hb', ho' + h, none⟩ = some (.slice (some ⟨jb', jo', none⟩) jnh cj) ∧ w'.cell? ⟨W5.heap.size, h, none⟩ = some (.int .i64 d) ∧ w'.cell? ⟨jb', jo' + d * 5, none⟩ = some (.int .i64 jk) ∧ w'.cell? ⟨jb', jo' + d * 5 + 1, none⟩ = some (.int .i64 ja) ∧ w'.cell? ⟨jb', jo' + d * 5 + 2, none⟩ = some (.int .i64 jbb) ∧ w'.cell? ⟨jb', jo' + d * 5 + 3, none⟩ = some (.int .i64 jc) ∧ w'.cell? ⟨jb', jo' + d * 5 + 4, none⟩ = some (.int .u64 jh)) (go_keep) (fail)
          obtain ⟨Wq, hWq⟩ : ∃ W, ((wr.alloc (.cells #[.int .i64 h, .int .i64 xa, .int .i64 xt, .int .u64 xd, .int .u64 xp, .bool xo] 77)).drewN (nq + 1)).alloc (.cells #[.int .i64 jk, .int .i64 ja, .int .i64 jbb, .int .i64 jc, .int .u64 jh] 49) = W := ⟨_, rfl⟩
          have Tq : Touch wr Wq (fun _ => False) := by rw [← hWq]; exact (((Touch.refl wr (fun _ => False)).alloc _).trans' (c := (wr.alloc (.cells #[.int .i64 h, .int .i64 xa, .int .i64 xt, .int .u64 xd, .int .u64 xp, .bool xo] 77)).drewN (nq + 1)) (S' := fun _ => False) ⟨rfl, rfl, rfl, Nat.le_refl _, fun _ _ _ => rfl⟩ (fun _ _ h => h)).alloc _
          have szq : Wq.heap.size = wr.heap.size + 2 := by rw [← hWq]; simp
          have RSq : Wq.rowIs wr.heap.size 77 6 (lrow [.int .i64 h, .int .i64 xa, .int .i64 xt, .int .u64 xd, .int .u64 xp, .bool xo]) := by rw [← hWq]; exact ((rowL_alloc wr [.int .i64 h, .int .i64 xa, .int .i64 xt, .int .u64 xd, .int .u64 xp, .bool xo] 77 (n := 6) rfl).of_block (w' := (wr.alloc (.cells #[.int .i64 h, .int .i64 xa, .int .i64 xt, .int .u64 xd, .int .u64 xp, .bool xo] 77)).drewN (nq + 1)) rfl).alloc _
          have RJq : Wq.rowIs (wr.heap.size + 1) 49 5 (lrow [.int .i64 jk, .int .i64 ja, .int .i64 jbb, .int .i64 jc, .int .u64 jh]) := by
            rw [← hWq]
            have := rowL_alloc ((wr.alloc (.cells #[.int .i64 h, .int .i64 xa, .int .i64 xt, .int .u64 xd, .int .u64 xp, .bool xo] 77)).drewN (nq + 1)) [.int .i64 jk, .int .i64 ja, .int .i64 jbb, .int .i64 jc, .int .u64 jh] 49 (n := 5) rfl
            simpa using this
          have HRS := hide RSq
          have HRJ := hide RJq
          have HTq := hide Tq
          have HBq : Hid (Below W5.heap.size W5 Wq) := ⟨Tq.os.trans HBr.out.os, Tq.tape.trans HBr.out.tape, Tq.output.trans HBr.out.output, Nat.le_trans HBr.out.size Tq.size, fun k hk => (Tq.block k (Nat.lt_of_lt_of_le hk HBr.out.size) (fun h => h)).trans (HBr.out.block k hk)⟩
          have HDq := hide (HD.out.of_block (Tq.block _ HD.out.lt (fun h => h)))
          have HFq := hide (HF.out.block (Tq.block _ HF.out.lt (fun h => h)))
          have HMq := hide (HM.out.block (Tq.block _ HM.out.lt (fun h => h)))
          have HLq := hide (HL.out.block (Tq.block _ HL.out.lt (fun h => h)))
          obtain ⟨fh, hfh⟩ : ∃ a, fst h = a := ⟨_, rfl⟩
          obtain ⟨bh, hbh'⟩ : ∃ a, bg h = a := ⟨_, rfl⟩
          obtain ⟨lh, hlh⟩ : ∃ a, ld h = a := ⟨_, rfl⟩
          have HNM := hide (And.intro hfh (And.intro hbh' hlh))
          have LKF := hide (HFq.out.lookI (T := 73) Try.underlying73 Try.underlying47 zeroU rfl h8 (a := fh) (by rw [hfh]))
          have LKB := hide (HMq.out.lookB (T := 74) Try.underlying74 Try.underlying4 zeroB rfl h8 (a := bh) (by rw [hbh']))
          have LKL := hide (HLq.out.lookI (T := 75) Try.underlying75 Try.underlying3 zeroI rfl h8 (a := lh) (by rw [hlh]))
          have lq0 : wr.heap.size < Wq.heap.size := by omega
          have lq1 : wr.heap.size + 1 < Wq.heap.size := by omega
          have lq2 : W5.heap.size < Wq.heap.size := by omega
          have lq5 : w5.heap.size < Wq.heap.size := by omega
          have i32 : i ≤ 32768 := by have := HK.out.2; omega
          have lM := HL.out.lt
          simp only [hWq]
          clear hWq Tq RSq RJq p0 p1 p2 p3 p4 p5 j0 j1 j2 j3 j4 dc hc1 tc g1 g2 g3 g5 g6 hfh hbh' hlh hbj hsb hbh
          have y1 : Wq.cell? ⟨wr.heap.size, 1, none⟩ = some (.int .i64 xa) := HRS.out.cell (i := 1) (by decide)
          have y2 : Wq.cell? ⟨wr.heap.size, 2, none⟩ = some (.int .i64 xt) := HRS.out.cell (i := 2) (by decide)
          have y3 : Wq.cell? ⟨wr.heap.size, 3, none⟩ = some (.int .u64 xd) := HRS.out.cell (i := 3) (by decide)
          have y4 : Wq.cell? ⟨wr.heap.size, 4, none⟩ = some (.int .u64 xp) := HRS.out.cell (i := 4) (by decide)
          have z0 : Wq.cell? ⟨wr.heap.size + 1, 0, none⟩ = some (.int .i64 jk) := HRJ.out.cell (i := 0) (by decide)
          have z4 : Wq.cell? ⟨wr.heap.size + 1, 4, none⟩ = some (.int .u64 jh) := HRJ.out.cell (i := 4) (by decide)
          have c5q : Wq.cell? ⟨w.heap.size, 5, none⟩ = some (.int .i64 (r : Int)) := (keep.out Wq (BW5.out.trans (HBq.out.mono BW5.out.size))).2.2.2.2.2.2.2
          have lwq : w.heap.size < Wq.heap.size := (keep.out Wq (BW5.out.trans (HBq.out.mono BW5.out.size))).2.1
          have KN := HKN.out
          clear HKN
          cases KN with
          | wGo kk n e =>
            replace kk : jk = 1 := kk
            replace n : ¬ (xa = 2 ∧ xt = 0 ∧ xp % 2 = 0) := n
            subst kk
            subst e
            by_cases a1 : xa = 2
            · subst a1
              by_cases a2 : xt = 0
              · subst a2
                have a3 : xp.tmod 2 = 1 := by rw [Int.tmod_eq_emod_of_nonneg HXP.out.1]; omega
                clear n
                as_aux_lemma =>
                  go_wp2_with fail
                  go_roundw
                  case rel => exact ⟨i + 1, now, wn, fst, ld, bg, hlt, vi_a, rfl, rfl, HI'.out, by rw [HDN.out, if_neg (by decide)]; exact HDq.out, HFq.out.more (by omega), HMq.out.more (by omega), HLq.out.more (by omega), HBq.out⟩
                  case measure => exact meas_a hlt
              · clear n
                have a2' : (xt == 0) = false := by simpa using a2
                as_aux_lemma =>
                  go_wp2_with fail
                  go_roundw
                  case rel => exact ⟨i + 1, now, wn, fst, ld, bg, hlt, vi_a, rfl, rfl, HI'.out, by rw [HDN.out, if_neg (by decide)]; exact HDq.out, HFq.out.more (by omega), HMq.out.more (by omega), HLq.out.more (by omega), HBq.out⟩
                  case measure => exact meas_a hlt
            · clear n
              have a1' : (xa == 2) = false := by simpa using a1
              as_aux_lemma =>
                go_wp2_with fail
                go_roundw
                case rel => exact ⟨i + 1, now, wn, fst, ld, bg, hlt, vi_a, rfl, rfl, HI'.out, by rw [HDN.out, if_neg (by decide)]; exact HDq.out, HFq.out.more (by omega), HMq.out.more (by omega), HLq.out.more (by omega), HBq.out⟩
                case measure => exact meas_a hlt
          | rWord kk nz hl e =>
            replace kk : jk = 2 := kk
            replace nz : ¬ xt = 0 := nz
            subst kk
            subst e
            have nz' : (xt != 0) = true := by simpa using nz
            have nz'' : (xt == 0) = false := by simpa using nz
            have hl' : 0 ≤ lh ∧ lh < 64 := by rw [← HNM.out.2.2]; exact hl
            have lkl := LKL.out
            clear hl
            as_aux_lemma =>
              go_wp2_with (at_mapUpdate; refine wpList_mapset _ rfl _ _ _ rfl HLq.out Try.underlying75 (by unfold maxLen; omega) h8 (.int .i64 (lh + 1)) (elemI (by omega) (by omega)) rfl rfl rfl ?_; intro w6 M6 G6; have T6 := hide (Touch.of_grown G6); have M6' := hide M6; have y2' : w6.cell? ⟨wr.heap.size, 2, none⟩ = some (.int .i64 xt) := (World.cell?_of_block (a := ⟨wr.heap.size, 2, none⟩) (G6.block wr.heap.size lq0 (by simp; omega))).trans y2; have z0' : w6.cell? ⟨wr.heap.size + 1, 0, none⟩ = some (.int .i64 2) := (World.cell?_of_block (a := ⟨wr.heap.size + 1, 0, none⟩) (G6.block (wr.heap.size + 1) lq1 (by simp; omega))).trans z0; have lz6 := G6.size; have lz6a : wr.heap.size < w6.heap.size := (by omega); have lz6b : wr.heap.size + 1 < w6.heap.size := (by omega); clear M6 G6)
              have bl := fun (q : Nat) (hq : q < Wq.heap.size) (hn : q ≠ W5.heap.size + 3) => T6.out.block q hq (by simpa using hn)
              go_roundw
              case rel =>
                refine ⟨i + 1, now, wn, fst, _, bg, hlt, vi_a, rfl, rfl, HI'.out, by rw [HDN.out, if_neg (by decide)]; exact HDq.out.of_block (bl _ HDq.out.lt (by omega)), (HFq.out.block (bl _ HFq.out.lt (by omega))).more (by omega), (HMq.out.block (bl _ HMq.out.lt (by omega))).more (by omega), ?_, ?_⟩
                · have := M6'.out
                  rw [upd_lit (Lit.int .i64), ← HNM.out.2.2] at this
                  exact this
                · exact ⟨T6.out.os.trans HBq.out.os, T6.out.tape.trans HBq.out.tape, T6.out.output.trans HBq.out.output, Nat.le_trans HBq.out.size T6.out.size, fun q hq => (bl q (Nat.lt_of_lt_of_le hq HBq.out.size) (by omega)).trans (HBq.out.block q hq)⟩
              case measure => exact meas_a hlt
          | wEnd kk a zz p s e t =>
            replace kk : jk = 1 := kk
            replace a : xa = 2 := a
            replace zz : xt = 0 := zz
            replace p : xp % 2 = 0 := p
            subst kk a zz e
            have a3 : xp.tmod 2 = 0 := by rw [Int.tmod_eq_emod_of_nonneg HXP.out.1]; omega
            have AV0 : ((wn + 1 : Nat) : Int) = (wn : Int) + 1 := by omega
            rw [AV0] at t
            obtain ⟨an1, an2⟩ := HANS.out rfl
            rw [HKEEP.out] at an1 an2
            obtain ⟨ba, oa, av, ca, eaa, hba, hca, hcc⟩ := (SA6.out.below HBq.out (by have := Z5.out; omega)) h hh
            subst eaa
            obtain ⟨dn, hdn⟩ : ∃ dn, (rn r P 32768).done h = dn := ⟨_, rfl⟩
            rw [hdn] at hca an2
            obtain ⟨b1, o1, eav, hb1, hac⟩ := hcc d (by rw [hdn]; exact an2)
            subst eav
            rw [an1, t] at hac
            have ac0 : Wq.cell? ⟨b1, o1 + d * 2, none⟩ = some (.bool true) := hac 0 (by omega)
            have ac1 : Wq.cell? ⟨b1, o1 + d * 2 + 1, none⟩ = some (.int .u64 (2 * ((wn : Int) + 1))) := hac 1 (by omega)
            have dcq : Wq.cell? ⟨W5.heap.size, h, none⟩ = some (.int .i64 d) := by have := HDq.out.cell (i := h) (by rw [pn]; exact hh); rw [HKEEP.out] at this; exact this
            have dfq := HDq.out.frozen h
            have lba : ba < Wq.heap.size := World.block_lt_of_cell? _ _ hca
            have lb1 : b1 < Wq.heap.size := World.block_lt_of_cell? _ _ ac0
            have g7 : ¬ (dn : Int) ≤ (d : Int) := by omega
            have g8 : (d : Int) < (dn : Int) := by omega
            clear hac hcc an1 t hdn HANS
            as_aux_lemma =>
              go_wp2_with fail
              go_quiet (fail)
              go_wp2_with fail
              go_region_held (fun w' => w'.cell? ⟨ba, oa + h, none⟩ = some (.slice (some ⟨b1, o1, none⟩) dn ca) ∧ w'.cell? ⟨W5.heap.size, h, none⟩ = some (.int .i64 d) ∧ w'.cell? ⟨b1, o1 + d * 2, none⟩ = some (.bool true) ∧ w'.cell? ⟨b1, o1 + d * 2 + 1, none⟩ = some (.int .u64 (2 * ((wn : Int) + 1)))) (go_keep) (fail)
              generalize hWa : (Wq.drewN (nq + 1)).alloc (.cells #[.bool true, .int .u64 (2 * ((wn : Int) + 1))] 61) = Wa
              have Ta : Touch Wq Wa (fun _ => False) := by rw [← hWa]; exact (Touch.trans' (S' := fun _ => False) (Touch.refl Wq (fun _ => False)) (c := Wq.drewN (nq + 1)) ⟨rfl, rfl, rfl, Nat.le_refl _, fun _ _ _ => rfl⟩ (fun _ _ h => h)).alloc _
              have sza : Wa.heap.size = wr.heap.size + 3 := by rw [← hWa]; simp; omega
              have RA : Wa.rowIs (wr.heap.size + 2) 61 2 (lrow [.bool true, .int .u64 (2 * ((wn : Int) + 1))]) := by
                rw [← hWa]
                have := rowL_alloc (Wq.drewN (nq + 1)) [.bool true, .int .u64 (2 * ((wn : Int) + 1))] 61 (n := 2) rfl
                rw [show (Wq.drewN (nq + 1)).heap.size = wr.heap.size + 2 from szq] at this
                exact this
              have u0 : Wa.cell? ⟨wr.heap.size + 2, 0, none⟩ = some (.bool true) := RA.cell (i := 0) (by decide)
              have u1 : Wa.cell? ⟨wr.heap.size + 2, 1, none⟩ = some (.int .u64 (2 * ((wn : Int) + 1))) := RA.cell (i := 1) (by decide)
              have RJa := HRJ.out.of_block (Ta.block _ lq1 (fun h => h))
              have za0 : Wa.cell? ⟨wr.heap.size + 1, 0, none⟩ = some (.int .i64 1) := RJa.cell (i := 0) (by decide)
              have RDa := HDq.out.of_block (Ta.block _ lq2 (fun h => h))
              have dca : Wa.cell? ⟨W5.heap.size, h, none⟩ = some (.int .i64 d) := by have := RDa.cell (i := h) (by rw [pn]; exact hh); rw [HKEEP.out] at this; exact this
              have dfa := RDa.frozen h
              have la1 : wr.heap.size + 2 < Wa.heap.size := by omega
              have la2 : wr.heap.size + 1 < Wa.heap.size := by omega
              have la3 : W5.heap.size < Wa.heap.size := by omega
              obtain ⟨Wb, hWb⟩ : ∃ W, Wa.setCell ⟨W5.heap.size, h, none⟩ (.int .i64 ((d : Int) + 1)) = W := ⟨_, rfl⟩
              have Tb : Touch Wa Wb (fun k => k = W5.heap.size) := by rw [← hWb]; exact Touch.setCell (S := fun k => k = W5.heap.size) (Touch.refl Wa _) ⟨W5.heap.size, h, none⟩ (.inl rfl) _
              have szb : Wb.heap.size = Wa.heap.size := by rw [← hWb]; simp
              have RDb := hide (show Wb.rowIs W5.heap.size 3 P.nh (fun g => .int .i64 (((rn r P (i + 1)).done g : Nat) : Int)) from by
                rw [← hWb]
                refine World.rowIs.congr (RDa.set h (.int .i64 ((d : Int) + 1))) (fun g hg => ?_)
                rw [HDN.out]
                simp only [if_true, HKEEP.out]
                by_cases e : g = h
                · subst e; rw [upd_same]; simp
                · rw [upd_other _ _ e]; simp [e])
              have blq := fun (q : Nat) (hq : q < Wq.heap.size) (hn : q ≠ W5.heap.size) => (Tb.block q (Nat.lt_of_lt_of_le hq Ta.size) hn).trans (Ta.block q hq (fun h => h))
              have HFb := hide (HFq.out.block (blq _ HFq.out.lt (by omega)))
              have HMb := hide (HMq.out.block (blq _ HMq.out.lt (by omega)))
              have HLb := hide (HLq.out.block (blq _ HLq.out.lt (by omega)))
              have BBb : Hid (Below W5.heap.size W5 Wb) := ⟨Tb.os.trans (Ta.os.trans HBq.out.os), Tb.tape.trans (Ta.tape.trans HBq.out.tape), Tb.output.trans (Ta.output.trans HBq.out.output), Nat.le_trans HBq.out.size (Nat.le_trans Ta.size Tb.size), fun q hq => (blq q (Nat.lt_of_lt_of_le hq HBq.out.size) (by omega)).trans (HBq.out.block q hq)⟩
              have lMb := HLb.out.lt
              clear hWa Ta RA RJa RDa Tb blq dcq dfq hca ac0 ac1 y1 y2 y3 y4 z0 z4 c5q
              go_wp2_with (first
                | (at_mapUpdate; refine wpList_mapset _ rfl _ _ _ rfl HMb.out Try.underlying74 (by unfold maxLen; omega) h8 (.bool false) (elemB false) rfl rfl rfl ?_; intro w6 M6 G6; have HL6 := hide (HLb.out.block (G6.block _ lMb (by simp))); have HF6 := hide (HFb.out.block (G6.block _ HFb.out.lt (by simp))); have HM6 := hide M6; have RD6 := hide (RDb.out.of_block (G6.block _ RDb.out.lt (by simp))); have T6 := hide (Touch.of_grown G6); clear M6 G6)
                | (at_mapUpdate; refine wpList_mapset _ rfl _ _ _ rfl HL6.out Try.underlying75 (by unfold maxLen; omega) h8 (.int .i64 0) (elemI (by omega) (by omega)) rfl rfl rfl ?_; intro w7 M7 G7; have HF7 := hide (HF6.out.block (G7.block _ HF6.out.lt (by simp))); have HM7 := hide (HM6.out.block (G7.block _ HM6.out.lt (by simp))); have RD7 := hide (RD6.out.of_block (G7.block _ RD6.out.lt (by simp))); have HL7 := hide M7; have T7 := hide (Touch.of_grown G7); clear M7 G7))
              go_roundw
              case rel =>
                refine ⟨i + 1, jh, (wn + 1), fst, _, _, hlt, vi_a, rfl, vi_a, HI'.out, RD7.out, HF7.out.more (by omega), ?_, ?_, ?_⟩
                · have := HM7.out
                  rw [upd_lit Lit.bool] at this
                  exact this
                · have := HL7.out
                  rw [upd_lit (Lit.int .i64)] at this
                  exact this
                · have z := BBb.out.size
                  exact ⟨T7.out.os.trans (T6.out.os.trans BBb.out.os), T7.out.tape.trans (T6.out.tape.trans BBb.out.tape), T7.out.output.trans (T6.out.output.trans BBb.out.output), Nat.le_trans BBb.out.size (Nat.le_trans T6.out.size T7.out.size), fun q hq => (T7.out.block q (Nat.lt_of_lt_of_le hq (Nat.le_trans BBb.out.size T6.out.size)) (by simp; omega)).trans ((T6.out.block q (Nat.lt_of_lt_of_le hq BBb.out.size) (by simp; omega)).trans (BBb.out.block q hq))⟩
              case measure => exact meas_a hlt
          | rEnd kk zz b l v e t =>
            replace kk : jk = 2 := kk
            replace zz : xt = 0 := zz
            replace v : xd = fst h := v
            rw [HNM.out.1] at v
            rw [HNM.out.2.1] at b
            rw [HNM.out.2.2] at l
            subst kk zz e b l v
            have lkl := LKL.out
            have lkb := LKB.out
            have lkf := LKF.out
            obtain ⟨an1, an2⟩ := HANS.out rfl
            rw [HKEEP.out] at an1 an2
            obtain ⟨ba, oa, av, ca, eaa, hba, hca, hcc⟩ := (SA6.out.below HBq.out (by have := Z5.out; omega)) h hh
            subst eaa
            obtain ⟨dn, hdn⟩ : ∃ dn, (rn r P 32768).done h = dn := ⟨_, rfl⟩
            rw [hdn] at hca an2
            obtain ⟨b1, o1, eav, hb1, hac⟩ := hcc d (by rw [hdn]; exact an2)
            subst eav
            rw [an1, t] at hac
            have ac0 : Wq.cell? ⟨b1, o1 + d * 2, none⟩ = some (.bool true) := hac 0 (by omega)
            have ac1 : Wq.cell? ⟨b1, o1 + d * 2 + 1, none⟩ = some (.int .u64 now) := hac 1 (by omega)
            have dcq : Wq.cell? ⟨W5.heap.size, h, none⟩ = some (.int .i64 d) := by have := HDq.out.cell (i := h) (by rw [pn]; exact hh); rw [HKEEP.out] at this; exact this
            have dfq := HDq.out.frozen h
            have lba : ba < Wq.heap.size := World.block_lt_of_cell? _ _ hca
            have lb1 : b1 < Wq.heap.size := World.block_lt_of_cell? _ _ ac0
            have g7 : ¬ (dn : Int) ≤ (d : Int) := by omega
            have g8 : (d : Int) < (dn : Int) := by omega
            clear hac hcc an1 t hdn HANS
            as_aux_lemma =>
              go_wp2_with fail
              go_quiet (fail)
              go_wp2_with fail
              go_region_held (fun w' => w'.cell? ⟨ba, oa + h, none⟩ = some (.slice (some ⟨b1, o1, none⟩) dn ca) ∧ w'.cell? ⟨W5.heap.size, h, none⟩ = some (.int .i64 d) ∧ w'.cell? ⟨b1, o1 + d * 2, none⟩ = some (.bool true) ∧ w'.cell? ⟨b1, o1 + d * 2 + 1, none⟩ = some (.int .u64 now)) (go_keep) (fail)
              generalize hWa : (Wq.drewN (nq + 1)).alloc (.cells #[.bool true, .int .u64 now] 61) = Wa
              have Ta : Touch Wq Wa (fun _ => False) := by rw [← hWa]; exact (Touch.trans' (S' := fun _ => False) (Touch.refl Wq (fun _ => False)) (c := Wq.drewN (nq + 1)) ⟨rfl, rfl, rfl, Nat.le_refl _, fun _ _ _ => rfl⟩ (fun _ _ h => h)).alloc _
              have sza : Wa.heap.size = wr.heap.size + 3 := by rw [← hWa]; simp; omega
              have RA : Wa.rowIs (wr.heap.size + 2) 61 2 (lrow [.bool true, .int .u64 now]) := by
                rw [← hWa]
                have := rowL_alloc (Wq.drewN (nq + 1)) [.bool true, .int .u64 now] 61 (n := 2) rfl
                rw [show (Wq.drewN (nq + 1)).heap.size = wr.heap.size + 2 from szq] at this
                exact this
              have u0 : Wa.cell? ⟨wr.heap.size + 2, 0, none⟩ = some (.bool true) := RA.cell (i := 0) (by decide)
              have u1 : Wa.cell? ⟨wr.heap.size + 2, 1, none⟩ = some (.int .u64 now) := RA.cell (i := 1) (by decide)
              have RJa := HRJ.out.of_block (Ta.block _ lq1 (fun h => h))
              have za0 : Wa.cell? ⟨wr.heap.size + 1, 0, none⟩ = some (.int .i64 2) := RJa.cell (i := 0) (by decide)
              have RDa := HDq.out.of_block (Ta.block _ lq2 (fun h => h))
              have dca : Wa.cell? ⟨W5.heap.size, h, none⟩ = some (.int .i64 d) := by have := RDa.cell (i := h) (by rw [pn]; exact hh); rw [HKEEP.out] at this; exact this
              have dfa := RDa.frozen h
              have la1 : wr.heap.size + 2 < Wa.heap.size := by omega
              have la2 : wr.heap.size + 1 < Wa.heap.size := by omega
              have la3 : W5.heap.size < Wa.heap.size := by omega
              obtain ⟨Wb, hWb⟩ : ∃ W, Wa.setCell ⟨W5.heap.size, h, none⟩ (.int .i64 ((d : Int) + 1)) = W := ⟨_, rfl⟩
              have Tb : Touch Wa Wb (fun k => k = W5.heap.size) := by rw [← hWb]; exact Touch.setCell (S := fun k => k = W5.heap.size) (Touch.refl Wa _) ⟨W5.heap.size, h, none⟩ (.inl rfl) _
              have szb : Wb.heap.size = Wa.heap.size := by rw [← hWb]; simp
              have RDb := hide (show Wb.rowIs W5.heap.size 3 P.nh (fun g => .int .i64 (((rn r P (i + 1)).done g : Nat) : Int)) from by
                rw [← hWb]
                refine World.rowIs.congr (RDa.set h (.int .i64 ((d : Int) + 1))) (fun g hg => ?_)
                rw [HDN.out]
                simp only [if_true, HKEEP.out]
                by_cases e : g = h
                · subst e; rw [upd_same]; simp
                · rw [upd_other _ _ e]; simp [e])
              have blq := fun (q : Nat) (hq : q < Wq.heap.size) (hn : q ≠ W5.heap.size) => (Tb.block q (Nat.lt_of_lt_of_le hq Ta.size) hn).trans (Ta.block q hq (fun h => h))
              have HFb := hide (HFq.out.block (blq _ HFq.out.lt (by omega)))
              have HMb := hide (HMq.out.block (blq _ HMq.out.lt (by omega)))
              have HLb := hide (HLq.out.block (blq _ HLq.out.lt (by omega)))
              have BBb : Hid (Below W5.heap.size W5 Wb) := ⟨Tb.os.trans (Ta.os.trans HBq.out.os), Tb.tape.trans (Ta.tape.trans HBq.out.tape), Tb.output.trans (Ta.output.trans HBq.out.output), Nat.le_trans HBq.out.size (Nat.le_trans Ta.size Tb.size), fun q hq => (blq q (Nat.lt_of_lt_of_le hq HBq.out.size) (by omega)).trans (HBq.out.block q hq)⟩
              have lMb := HLb.out.lt
              clear hWa Ta RA RJa RDa Tb blq dcq dfq hca ac0 ac1 y1 y2 y3 y4 z0 z4 c5q
              go_wp2_with (first
                | (at_mapUpdate; refine wpList_mapset _ rfl _ _ _ rfl HMb.out Try.underlying74 (by unfold maxLen; omega) h8 (.bool false) (elemB false) rfl rfl rfl ?_; intro w6 M6 G6; have HL6 := hide (HLb.out.block (G6.block _ lMb (by simp))); have HF6 := hide (HFb.out.block (G6.block _ HFb.out.lt (by simp))); have HM6 := hide M6; have RD6 := hide (RDb.out.of_block (G6.block _ RDb.out.lt (by simp))); have T6 := hide (Touch.of_grown G6); clear M6 G6)
                | (at_mapUpdate; refine wpList_mapset _ rfl _ _ _ rfl HL6.out Try.underlying75 (by unfold maxLen; omega) h8 (.int .i64 0) (elemI (by omega) (by omega)) rfl rfl rfl ?_; intro w7 M7 G7; have HF7 := hide (HF6.out.block (G7.block _ HF6.out.lt (by simp))); have HM7 := hide (HM6.out.block (G7.block _ HM6.out.lt (by simp))); have RD7 := hide (RD6.out.of_block (G7.block _ RD6.out.lt (by simp))); have HL7 := hide M7; have T7 := hide (Touch.of_grown G7); clear M7 G7))
              go_roundw
              case rel =>
                refine ⟨i + 1, now, wn, fst, _, _, hlt, vi_a, rfl, rfl, HI'.out, RD7.out, HF7.out.more (by omega), ?_, ?_, ?_⟩
                · have := HM7.out
                  rw [upd_lit Lit.bool] at this
                  exact this
                · have := HL7.out
                  rw [upd_lit (Lit.int .i64)] at this
                  exact this
                · have z := BBb.out.size
                  exact ⟨T7.out.os.trans (T6.out.os.trans BBb.out.os), T7.out.tape.trans (T6.out.tape.trans BBb.out.tape), T7.out.output.trans (T6.out.output.trans BBb.out.output), Nat.le_trans BBb.out.size (Nat.le_trans T6.out.size T7.out.size), fun q hq => (T7.out.block q (Nat.lt_of_lt_of_le hq (Nat.le_trans BBb.out.size T6.out.size)) (by simp; omega)).trans ((T6.out.block q (Nat.lt_of_lt_of_le hq BBb.out.size) (by simp; omega)).trans (BBb.out.block q hq))⟩
              case measure => exact meas_a hlt
          | rGo kk zz a n e =>
            replace kk : jk = 2 := kk
            replace zz : xt = 0 := zz
            replace a : xa = 1 := a
            replace n : bg h = false ∨ (bg h = true ∧ ¬ ld h = (r : Int)) ∨ (bg h = true ∧ ld h = (r : Int) ∧ ¬ xd = fst h) := n
            rw [HNM.out.1, HNM.out.2.1, HNM.out.2.2] at n
            subst kk zz a e
            have lkl := LKL.out
            have lkb := LKB.out
            have lkf := LKF.out
            as_aux_lemma =>
              go_upto_region 36 with (fail)
              go_cut [149] from 150 to 168 (fun s149 wx => s149 = .bool false ∧ wx = Wq)
              case first =>
                rcases n with n | ⟨n, n2⟩ | ⟨n, n2, n3⟩
                · subst n
                  go_wp2_with fail
                  go_meet
                  case rel => exact ⟨rfl, rfl⟩
                · subst n
                  have n2' : (lh == (r : Int)) = false := by simpa using n2
                  go_wp2_with fail
                  go_meet
                  case rel => exact ⟨rfl, rfl⟩
                · subst n n2
                  have n3' : (xd == fh) = false := by simpa using n3
                  go_wp2_with fail
                  go_meet
                  case rel => exact ⟨rfl, rfl⟩
              case rest =>
                obtain ⟨e1, e2⟩ := hcut
                subst e1
                rw [e2]
                clear e2 n lkl lkb lkf
                go_upto_region 27 with (fail)
                go_cut [23] from 103 to 114 (fun s23 wx => s23 = .bool false ∧ MM Wq (W5.heap.size + 1) (W5.heap.size + 2) (W5.heap.size + 3) i h fst ld bg xd (decide (xd % 2 = 0)) true true true wx)
                case first =>
                  clear y1 y2 y3 y4 z0 z4 c5q
                  refine RH.region (ks := [(0, 103), (1, 104), (2, 105), (3, 106), (4, 107), (5, 108), (6, 109), (7, 110), (8, 111), (9, 112), (10, 113), (11, 114)]) (vals := fun i' => match i' with
                      | 0 => .map (some (W5.heap.size + 1))
                      | 1 => .int .i64 (h : Int)
                      | 2 => .map (some (W5.heap.size + 2))
                      | 3 => .int .i64 (h : Int)
                      | 4 => .map (some (W5.heap.size + 3))
                      | 5 => .int .i64 (h : Int)
                      | 6 => .pointer (some ⟨wr.heap.size, 3, none⟩)
                      | 7 => .int .u64 xd
                      | 8 => .pointer (some ⟨wr.heap.size, 3, none⟩)
                      | 9 => .int .u64 xd
                      | 10 => .int .u64 (xd % 2)
                      | 11 => .bool (decide (xd % 2 = 0))
                      | _ => undef) (xs := []) (WI := fun L s w' => MM Wq (W5.heap.size + 1) (W5.heap.size + 2) (W5.heap.size + 3) i h fst ld bg xd (decide (xd % 2 = 0)) (L 12) (L 13) (L 14) w') (by kernel_rfl) ?gg ?bk rfl ?dd ?xx ?loc ?w0 ?does ?fin
                  case gg =>
                    intro i' o ho
                    have hi' : i' < 15 := by have := (Array.getElem?_eq_some_iff.1 ho).1; simpa using this
                    match i', hi' with
                    | 0, _ | 1, _ | 2, _ | 3, _ | 4, _ | 5, _ | 6, _ | 7, _ | 8, _ | 9, _ | 10, _ | 11, _ | 12, _ | 13, _ | 14, _ => injection ho with ho; subst ho; rfl
                  case bk =>
                    intro i' o ho
                    have hi' : i' < 15 := by have := (Array.getElem?_eq_some_iff.1 ho).1; simpa using this
                    match i', hi' with
                    | 0, _ | 1, _ | 2, _ | 3, _ | 4, _ | 5, _ | 6, _ | 7, _ | 8, _ | 9, _ | 10, _ | 11, _ | 12, _ | 13, _ | 14, _ => injection ho with ho; subst ho; simp [Region.binds]
                  case dd =>
                    intro k' hk'
                    have hk2 : k' < 257 := by
                      simp [RetN.D] at hk'
                      omega
                    simpa using hk2
                  case xx => intro k' hk'; simp at hk'
                  case loc => intro L s s' w' hs h; exact h
                  case w0 => exact fun s => MM.start HFq.out HMq.out HLq.out
                  case does =>
                    intro i' o ho
                    have hi' : i' < 15 := by have := (Array.getElem?_eq_some_iff.1 ho).1; simpa using this
                    match i', hi' with
                    | 0, _ => injection ho with ho; subst ho; exact RH.Does.read rfl (fun L s w' M => MM.skip (by decide) (by decide) (by decide) M) (fun L a w' hI hd => ex_move rfl (hI.fix 16 (Reg.notD rfl) rfl))
                    | 1, _ => injection ho with ho; subst ho; exact RH.Does.read rfl (fun L s w' M => MM.skip (by decide) (by decide) (by decide) M) (fun L a w' hI hd => ex_move rfl (hI.fix 21 (Reg.notD rfl) rfl))
                    | 2, _ => injection ho with ho; subst ho; exact RH.Does.read rfl (fun L s w' M => MM.skip (by decide) (by decide) (by decide) M) (fun L a w' hI hd => ex_move rfl (hI.fix 17 (Reg.notD rfl) rfl))
                    | 3, _ => injection ho with ho; subst ho; exact RH.Does.read rfl (fun L s w' M => MM.skip (by decide) (by decide) (by decide) M) (fun L a w' hI hd => ex_move rfl (hI.fix 21 (Reg.notD rfl) rfl))
                    | 4, _ => injection ho with ho; subst ho; exact RH.Does.read rfl (fun L s w' M => MM.skip (by decide) (by decide) (by decide) M) (fun L a w' hI hd => ex_move rfl (hI.fix 18 (Reg.notD rfl) rfl))
                    | 5, _ => injection ho with ho; subst ho; exact RH.Does.read rfl (fun L s w' M => MM.skip (by decide) (by decide) (by decide) M) (fun L a w' hI hd => ex_move rfl (hI.fix 21 (Reg.notD rfl) rfl))
                    | 6, _ => injection ho with ho; subst ho; exact RH.Does.read rfl (fun L s w' M => MM.skip (by decide) (by decide) (by decide) M) (fun L a w' hI hd => ex_field rfl (hI.fix 20 (Reg.notD rfl) rfl) (fieldX3 w' _))
                    | 7, _ => injection ho with ho; subst ho; exact RH.Does.read rfl (fun L s w' M => MM.skip (by decide) (by decide) (by decide) M) (fun L a w' hI hd => ex_load rfl (hI.pure 6 _ _ rfl (hd ⟨6, .data⟩ (by simp) rfl)) (agg_u64 w') ((HRS.out.of_block (hI.world.tch.block _ lq0 (by omega))).cell (i := 3) (by decide)))
                    | 8, _ => injection ho with ho; subst ho; exact RH.Does.read rfl (fun L s w' M => MM.skip (by decide) (by decide) (by decide) M) (fun L a w' hI hd => ex_field rfl (hI.fix 20 (Reg.notD rfl) rfl) (fieldX3 w' _))
                    | 9, _ => injection ho with ho; subst ho; exact RH.Does.read rfl (fun L s w' M => MM.skip (by decide) (by decide) (by decide) M) (fun L a w' hI hd => ex_load rfl (hI.pure 8 _ _ rfl (hd ⟨8, .data⟩ (by simp) rfl)) (agg_u64 w') ((HRS.out.of_block (hI.world.tch.block _ lq0 (by omega))).cell (i := 3) (by decide)))
                    | 10, _ => injection ho with ho; subst ho; exact RH.Does.read rfl (fun L s w' M => MM.skip (by decide) (by decide) (by decide) M) (fun L a w' hI hd => ex_rem2 rfl (hI.pure 9 _ _ rfl (hd ⟨9, .data⟩ (by simp) rfl)) rfl HXD.out.1)
                    | 11, _ => injection ho with ho; subst ho; exact RH.Does.read rfl (fun L s w' M => MM.skip (by decide) (by decide) (by decide) M) (fun L a w' hI hd => ex_eq0 rfl (hI.pure 10 _ _ rfl (hd ⟨10, .data⟩ (by simp) rfl)) rfl)
                    | 12, _ => injection ho with ho; subst ho; exact .mk rfl (fun L a w' K hI hL hd hk => wp_mapset (l := .int .u64 xd) rfl (by have := hI.world.f; rw [hL] at this; simpa using this) Try.underlying73 (by unfold maxLen; omega) h8 (elemU HXD.out) (hI.pure 0 _ _ rfl (hd ⟨0, .data⟩ (by simp) rfl)) (hI.pure 1 _ _ rfl (hd ⟨1, .data⟩ (by simp) rfl)) (hI.pure 7 _ _ rfl (hd ⟨7, .data⟩ (by simp) rfl)) (fun w'' m g => hk w'' _ (fun d hd => by cases hd) (by show MM Wq (W5.heap.size + 1) (W5.heap.size + 2) (W5.heap.size + 3) i h fst ld bg xd (decide (xd % 2 = 0)) (upd L 12 true 12) (upd L 12 true 13) (upd L 12 true 14) _; rw [upd_same, upd_other _ _ (show 13 ≠ 12 by decide), upd_other _ _ (show 14 ≠ 12 by decide)]; exact MM.putF hI.world hL (by omega) (by omega) m g)))
                    | 13, _ => injection ho with ho; subst ho; exact .mk rfl (fun L a w' K hI hL hd hk => wp_mapset (l := .bool (decide (xd % 2 = 0))) rfl (by have := hI.world.b; rw [hL] at this; simpa using this) Try.underlying74 (by unfold maxLen; omega) h8 (elemB _) (hI.pure 2 _ _ rfl (hd ⟨2, .data⟩ (by simp) rfl)) (hI.pure 3 _ _ rfl (hd ⟨3, .data⟩ (by simp) rfl)) (hI.pure 11 _ _ rfl (hd ⟨11, .data⟩ (by simp) rfl)) (fun w'' m g => hk w'' _ (fun d hd => by cases hd) (by show MM Wq (W5.heap.size + 1) (W5.heap.size + 2) (W5.heap.size + 3) i h fst ld bg xd (decide (xd % 2 = 0)) (upd L 13 true 12) (upd L 13 true 13) (upd L 13 true 14) _; rw [upd_other _ _ (show 12 ≠ 13 by decide), upd_same, upd_other _ _ (show 14 ≠ 13 by decide)]; exact MM.putB hI.world hL (by omega) (by omega) m g)))
                    | 14, _ => injection ho with ho; subst ho; exact .mk rfl (fun L a w' K hI hL hd hk => wp_mapset (l := .int .i64 0) rfl (by have := hI.world.l; rw [hL] at this; simpa using this) Try.underlying75 (by unfold maxLen; omega) h8 (elemI (by omega) (by omega)) (hI.pure 4 _ _ rfl (hd ⟨4, .data⟩ (by simp) rfl)) (hI.pure 5 _ _ rfl (hd ⟨5, .data⟩ (by simp) rfl)) rfl (fun w'' m g => hk w'' _ (fun d hd => by cases hd) (by show MM Wq (W5.heap.size + 1) (W5.heap.size + 2) (W5.heap.size + 3) i h fst ld bg xd (decide (xd % 2 = 0)) (upd L 14 true 12) (upd L 14 true 13) (upd L 14 true 14) _; rw [upd_other _ _ (show 12 ≠ 14 by decide), upd_other _ _ (show 13 ≠ 14 by decide), upd_same]; exact MM.putL hI.world hL (by omega) (by omega) m g)))
                  case fin =>
                    intro L a' wx hI hall
                    have hw := hI.world
                    simp only [hall 12 (by decide), hall 13 (by decide), hall 14 (by decide)] at hw
                    have ea := act_all a' 257 (by rw [hI.sz]; rfl) hI.df
                    simp only [List.range, List.range.loop, List.map] at ea
                    rw [hI.fix 0 (Reg.notD rfl) rfl, hI.fix 1 (Reg.notD rfl) rfl, hI.fix 2 (Reg.notD rfl) rfl, hI.fix 3 (Reg.notD rfl) rfl, hI.fix 4 (Reg.notD rfl) rfl, hI.fix 5 (Reg.notD rfl) rfl, hI.fix 6 (Reg.notD rfl) rfl, hI.fix 7 (Reg.notD rfl) rfl, hI.fix 8 (Reg.notD rfl) rfl, hI.fix 9 (Reg.notD rfl) rfl, hI.fix 10 (Reg.notD rfl) rfl, hI.fix 11 (Reg.notD rfl) rfl, hI.fix 12 (Reg.notD rfl) rfl, hI.fix 13 (Reg.notD rfl) rfl, hI.fix 14 (Reg.notD rfl) rfl, hI.fix 15 (Reg.notD rfl) rfl, hI.fix 16 (Reg.notD rfl) rfl, hI.fix 17 (Reg.notD rfl) rfl, hI.fix 18 (Reg.notD rfl) rfl, hI.fix 19 (Reg.notD rfl) rfl, hI.fix 20 (Reg.notD rfl) rfl, hI.fix 21 (Reg.notD rfl) rfl, hI.fix 22 (Reg.notD rfl) rfl, hI.fix 23 (Reg.notD rfl) rfl, hI.fix 24 (Reg.notD rfl) rfl, hI.fix 25 (Reg.notD rfl) rfl, hI.fix 26 (Reg.notD rfl) rfl, hI.fix 27 (Reg.notD rfl) rfl, hI.fix 28 (Reg.notD rfl) rfl, hI.fix 29 (Reg.notD rfl) rfl, hI.fix 30 (Reg.notD rfl) rfl, hI.fix 31 (Reg.notD rfl) rfl, hI.fix 32 (Reg.notD rfl) rfl, hI.fix 33 (Reg.notD rfl) rfl, hI.fix 34 (Reg.notD rfl) rfl, hI.fix 35 (Reg.notD rfl) rfl, hI.fix 36 (Reg.notD rfl) rfl, hI.fix 37 (Reg.notD rfl) rfl, hI.fix 38 (Reg.notD rfl) rfl, hI.fix 39 (Reg.notD rfl) rfl, hI.fix 40 (Reg.notD rfl) rfl, hI.fix 41 (Reg.notD rfl) rfl, hI.fix 42 (Reg.notD rfl) rfl, hI.fix 43 (Reg.notD rfl) rfl, hI.fix 44 (Reg.notD rfl) rfl, hI.fix 45 (Reg.notD rfl) rfl, hI.fix 46 (Reg.notD rfl) rfl, hI.fix 47 (Reg.notD rfl) rfl, hI.fix 48 (Reg.notD rfl) rfl, hI.fix 49 (Reg.notD rfl) rfl, hI.fix 50 (Reg.notD rfl) rfl, hI.fix 51 (Reg.notD rfl) rfl, hI.fix 52 (Reg.notD rfl) rfl, hI.fix 53 (Reg.notD rfl) rfl, hI.fix 54 (Reg.notD rfl) rfl, hI.fix 55 (Reg.notD rfl) rfl, hI.fix 56 (Reg.notD rfl) rfl, hI.fix 57 (Reg.notD rfl) rfl, hI.fix 58 (Reg.notD rfl) rfl, hI.fix 59 (Reg.notD rfl) rfl, hI.fix 60 (Reg.notD rfl) rfl, hI.fix 61 (Reg.notD rfl) rfl, hI.fix 62 (Reg.notD rfl) rfl, hI.fix 63 (Reg.notD rfl) rfl, hI.fix 64 (Reg.notD rfl) rfl, hI.fix 65 (Reg.notD rfl) rfl, hI.fix 66 (Reg.notD rfl) rfl, hI.fix 67 (Reg.notD rfl) rfl, hI.fix 68 (Reg.notD rfl) rfl, hI.fix 69 (Reg.notD rfl) rfl, hI.fix 70 (Reg.notD rfl) rfl, hI.fix 71 (Reg.notD rfl) rfl, hI.fix 72 (Reg.notD rfl) rfl, hI.fix 73 (Reg.notD rfl) rfl, hI.fix 74 (Reg.notD rfl) rfl, hI.fix 75 (Reg.notD rfl) rfl, hI.fix 76 (Reg.notD rfl) rfl, hI.fix 77 (Reg.notD rfl) rfl, hI.fix 78 (Reg.notD rfl) rfl, hI.fix 79 (Reg.notD rfl) rfl, hI.fix 80 (Reg.notD rfl) rfl, hI.fix 81 (Reg.notD rfl) rfl, hI.fix 82 (Reg.notD rfl) rfl, hI.fix 83 (Reg.notD rfl) rfl, hI.fix 84 (Reg.notD rfl) rfl, hI.fix 85 (Reg.notD rfl) rfl, hI.fix 86 (Reg.notD rfl) rfl, hI.fix 87 (Reg.notD rfl) rfl, hI.fix 88 (Reg.notD rfl) rfl, hI.fix 89 (Reg.notD rfl) rfl, hI.fix 90 (Reg.notD rfl) rfl, hI.fix 91 (Reg.notD rfl) rfl, hI.fix 92 (Reg.notD rfl) rfl, hI.fix 93 (Reg.notD rfl) rfl, hI.fix 94 (Reg.notD rfl) rfl, hI.fix 95 (Reg.notD rfl) rfl, hI.fix 96 (Reg.notD rfl) rfl, hI.fix 97 (Reg.notD rfl) rfl, hI.fix 98 (Reg.notD rfl) rfl, hI.fix 99 (Reg.notD rfl) rfl, hI.fix 100 (Reg.notD rfl) rfl, hI.fix 101 (Reg.notD rfl) rfl, hI.fix 102 (Reg.notD rfl) rfl, hI.fix 115 (Reg.notD rfl) rfl, hI.fix 116 (Reg.notD rfl) rfl, hI.fix 117 (Reg.notD rfl) rfl, hI.fix 118 (Reg.notD rfl) rfl, hI.fix 119 (Reg.notD rfl) rfl, hI.fix 120 (Reg.notD rfl) rfl, hI.fix 121 (Reg.notD rfl) rfl, hI.fix 122 (Reg.notD rfl) rfl, hI.fix 123 (Reg.notD rfl) rfl, hI.fix 124 (Reg.notD rfl) rfl, hI.fix 125 (Reg.notD rfl) rfl, hI.fix 126 (Reg.notD rfl) rfl, hI.fix 127 (Reg.notD rfl) rfl, hI.fix 128 (Reg.notD rfl) rfl, hI.fix 129 (Reg.notD rfl) rfl, hI.fix 130 (Reg.notD rfl) rfl, hI.fix 131 (Reg.notD rfl) rfl, hI.fix 132 (Reg.notD rfl) rfl, hI.fix 133 (Reg.notD rfl) rfl, hI.fix 134 (Reg.notD rfl) rfl, hI.fix 135 (Reg.notD rfl) rfl, hI.fix 136 (Reg.notD rfl) rfl, hI.fix 137 (Reg.notD rfl) rfl, hI.fix 138 (Reg.notD rfl) rfl, hI.fix 139 (Reg.notD rfl) rfl, hI.fix 140 (Reg.notD rfl) rfl, hI.fix 141 (Reg.notD rfl) rfl, hI.fix 142 (Reg.notD rfl) rfl, hI.fix 143 (Reg.notD rfl) rfl, hI.fix 144 (Reg.notD rfl) rfl, hI.fix 145 (Reg.notD rfl) rfl, hI.fix 146 (Reg.notD rfl) rfl, hI.fix 147 (Reg.notD rfl) rfl, hI.fix 148 (Reg.notD rfl) rfl, hI.fix 149 (Reg.notD rfl) rfl, hI.fix 150 (Reg.notD rfl) rfl, hI.fix 151 (Reg.notD rfl) rfl, hI.fix 152 (Reg.notD rfl) rfl, hI.fix 153 (Reg.notD rfl) rfl, hI.fix 154 (Reg.notD rfl) rfl, hI.fix 155 (Reg.notD rfl) rfl, hI.fix 156 (Reg.notD rfl) rfl, hI.fix 157 (Reg.notD rfl) rfl, hI.fix 158 (Reg.notD rfl) rfl, hI.fix 159 (Reg.notD rfl) rfl, hI.fix 160 (Reg.notD rfl) rfl, hI.fix 161 (Reg.notD rfl) rfl, hI.fix 162 (Reg.notD rfl) rfl, hI.fix 163 (Reg.notD rfl) rfl, hI.fix 164 (Reg.notD rfl) rfl, hI.fix 165 (Reg.notD rfl) rfl, hI.fix 166 (Reg.notD rfl) rfl, hI.fix 167 (Reg.notD rfl) rfl, hI.fix 168 (Reg.notD rfl) rfl, hI.fix 169 (Reg.notD rfl) rfl, hI.fix 170 (Reg.notD rfl) rfl, hI.fix 171 (Reg.notD rfl) rfl, hI.fix 172 (Reg.notD rfl) rfl, hI.fix 173 (Reg.notD rfl) rfl, hI.fix 174 (Reg.notD rfl) rfl, hI.fix 175 (Reg.notD rfl) rfl, hI.fix 176 (Reg.notD rfl) rfl, hI.fix 177 (Reg.notD rfl) rfl, hI.fix 178 (Reg.notD rfl) rfl, hI.fix 179 (Reg.notD rfl) rfl, hI.fix 180 (Reg.notD rfl) rfl, hI.fix 181 (Reg.notD rfl) rfl, hI.fix 182 (Reg.notD rfl) rfl, hI.fix 183 (Reg.notD rfl) rfl, hI.fix 184 (Reg.notD rfl) rfl, hI.fix 185 (Reg.notD rfl) rfl, hI.fix 186 (Reg.notD rfl) rfl, hI.fix 187 (Reg.notD rfl) rfl, hI.fix 188 (Reg.notD rfl) rfl, hI.fix 189 (Reg.notD rfl) rfl, hI.fix 190 (Reg.notD rfl) rfl, hI.fix 191 (Reg.notD rfl) rfl, hI.fix 192 (Reg.notD rfl) rfl, hI.fix 193 (Reg.notD rfl) rfl, hI.fix 194 (Reg.notD rfl) rfl, hI.fix 195 (Reg.notD rfl) rfl, hI.fix 196 (Reg.notD rfl) rfl, hI.fix 197 (Reg.notD rfl) rfl, hI.fix 198 (Reg.notD rfl) rfl, hI.fix 199 (Reg.notD rfl) rfl, hI.fix 200 (Reg.notD rfl) rfl, hI.fix 201 (Reg.notD rfl) rfl, hI.fix 202 (Reg.notD rfl) rfl, hI.fix 203 (Reg.notD rfl) rfl, hI.fix 204 (Reg.notD rfl) rfl, hI.fix 205 (Reg.notD rfl) rfl, hI.fix 206 (Reg.notD rfl) rfl, hI.fix 207 (Reg.notD rfl) rfl, hI.fix 208 (Reg.notD rfl) rfl, hI.fix 209 (Reg.notD rfl) rfl, hI.fix 210 (Reg.notD rfl) rfl, hI.fix 211 (Reg.notD rfl) rfl, hI.fix 212 (Reg.notD rfl) rfl, hI.fix 213 (Reg.notD rfl) rfl, hI.fix 214 (Reg.notD rfl) rfl, hI.fix 215 (Reg.notD rfl) rfl, hI.fix 216 (Reg.notD rfl) rfl, hI.fix 217 (Reg.notD rfl) rfl, hI.fix 218 (Reg.notD rfl) rfl, hI.fix 219 (Reg.notD rfl) rfl, hI.fix 220 (Reg.notD rfl) rfl, hI.fix 221 (Reg.notD rfl) rfl, hI.fix 222 (Reg.notD rfl) rfl, hI.fix 223 (Reg.notD rfl) rfl, hI.fix 224 (Reg.notD rfl) rfl, hI.fix 225 (Reg.notD rfl) rfl, hI.fix 226 (Reg.notD rfl) rfl, hI.fix 227 (Reg.notD rfl) rfl, hI.fix 228 (Reg.notD rfl) rfl, hI.fix 229 (Reg.notD rfl) rfl, hI.fix 230 (Reg.notD rfl) rfl, hI.fix 231 (Reg.notD rfl) rfl, hI.fix 232 (Reg.notD rfl) rfl, hI.fix 233 (Reg.notD rfl) rfl, hI.fix 234 (Reg.notD rfl) rfl, hI.fix 235 (Reg.notD rfl) rfl, hI.fix 236 (Reg.notD rfl) rfl, hI.fix 237 (Reg.notD rfl) rfl, hI.fix 238 (Reg.notD rfl) rfl, hI.fix 239 (Reg.notD rfl) rfl, hI.fix 240 (Reg.notD rfl) rfl, hI.fix 241 (Reg.notD rfl) rfl, hI.fix 242 (Reg.notD rfl) rfl, hI.fix 243 (Reg.notD rfl) rfl, hI.fix 244 (Reg.notD rfl) rfl, hI.fix 245 (Reg.notD rfl) rfl, hI.fix 246 (Reg.notD rfl) rfl, hI.fix 247 (Reg.notD rfl) rfl, hI.fix 248 (Reg.notD rfl) rfl, hI.fix 249 (Reg.notD rfl) rfl, hI.fix 250 (Reg.notD rfl) rfl, hI.fix 251 (Reg.notD rfl) rfl, hI.fix 252 (Reg.notD rfl) rfl, hI.fix 253 (Reg.notD rfl) rfl, hI.fix 254 (Reg.notD rfl) rfl, hI.fix 255 (Reg.notD rfl) rfl, hI.fix 256 (Reg.notD rfl) rfl] at ea
                    clear hI hall
                    generalize a'.eval (.tmp 103) = u103 at ea
                    generalize a'.eval (.tmp 104) = u104 at ea
                    generalize a'.eval (.tmp 105) = u105 at ea
                    generalize a'.eval (.tmp 106) = u106 at ea
                    generalize a'.eval (.tmp 107) = u107 at ea
                    generalize a'.eval (.tmp 108) = u108 at ea
                    generalize a'.eval (.tmp 109) = u109 at ea
                    generalize a'.eval (.tmp 110) = u110 at ea
                    generalize a'.eval (.tmp 111) = u111 at ea
                    generalize a'.eval (.tmp 112) = u112 at ea
                    generalize a'.eval (.tmp 113) = u113 at ea
                    generalize a'.eval (.tmp 114) = u114 at ea
                    simp only [show ∀ (ts : Array Value) (ds) (i : Nat), (Act.mk ts ds).eval (.tmp i) = ts.getD i undef from fun _ _ _ => rfl] at ea
                    simp (maxSteps := 4000000) at ea
                    subst ea
                    go_wp2_with fail
                    go_meet
                    case rel => exact ⟨rfl, hw⟩
                case rest =>
                  obtain ⟨e23, mm⟩ := hcut
                  subst e23
                  obtain ⟨Wc, hWc⟩ : ∃ x, x = wc := ⟨_, rfl⟩
                  subst hWc
                  have blc := fun (q : Nat) (hq : q < Wq.heap.size) (hn : ¬ (q = W5.heap.size + 1 ∨ q = W5.heap.size + 2 ∨ q = W5.heap.size + 3)) => mm.tch.block q hq hn
                  have RSc := HRS.out.of_block (blc _ lq0 (by omega))
                  have RJc := HRJ.out.of_block (blc _ lq1 (by omega))
                  have v1 : Wc.cell? ⟨wr.heap.size, 1, none⟩ = some (.int .i64 1) := RSc.cell (i := 1) (by decide)
                  have v2 : Wc.cell? ⟨wr.heap.size, 2, none⟩ = some (.int .i64 0) := RSc.cell (i := 2) (by decide)
                  have v3 : Wc.cell? ⟨wr.heap.size, 3, none⟩ = some (.int .u64 xd) := RSc.cell (i := 3) (by decide)
                  have v0 : Wc.cell? ⟨wr.heap.size + 1, 0, none⟩ = some (.int .i64 2) := RJc.cell (i := 0) (by decide)
                  have lc0 := RSc.lt
                  have lc1 := RJc.lt
                  have RDc := hide (show Wc.rowIs W5.heap.size 3 P.nh (fun g => .int .i64 (((rn r P (i + 1)).done g : Nat) : Int)) from by rw [HDN.out, if_neg (by decide)]; exact HDq.out.of_block (blc _ lq2 (by omega)))
                  have HFc := hide (show MapAt 47 (.int .u64 0) Wc (W5.heap.size + 1) (i + 1) (fun k => .int .u64 (upd fst h xd k)) from by simpa using mm.f)
                  have HMc := hide (show MapAt 4 (.bool false) Wc (W5.heap.size + 2) (i + 1) (fun k => .bool (upd bg h (decide (xd % 2 = 0)) k)) from by simpa using mm.b)
                  have HLc := hide (show MapAt 3 (.int .i64 0) Wc (W5.heap.size + 3) (i + 1) (fun k => .int .i64 (upd ld h 0 k)) from by simpa using mm.l)
                  have BBc : Hid (Below W5.heap.size W5 Wc) := ⟨mm.tch.os.trans HBq.out.os, mm.tch.tape.trans HBq.out.tape, mm.tch.output.trans HBq.out.output, Nat.le_trans HBq.out.size mm.tch.size, fun q hq => (blc q (Nat.lt_of_lt_of_le hq HBq.out.size) (by omega)).trans (HBq.out.block q hq)⟩
                  clear mm blc RSc RJc y1 y2 y3 y4 z0 z4 c5q
                  by_cases ev : xd % 2 = 0
                  · have ev' : xd.tmod 2 = 0 := by rw [Int.tmod_eq_emod_of_nonneg HXD.out.1]; exact ev
                    go_wp2_with fail
                    go_roundw
                    case rel => exact ⟨i + 1, now, wn, _, _, _, hlt, vi_a, rfl, rfl, HI'.out, RDc.out, HFc.out, HMc.out, HLc.out, BBc.out⟩
                    case measure => exact meas_a hlt
                  · have ev' : xd.tmod 2 = 1 := by rw [Int.tmod_eq_emod_of_nonneg HXD.out.1]; omega
                    go_wp2_with fail
                    go_roundw
                    case rel => exact ⟨i + 1, now, wn, _, _, _, hlt, vi_a, rfl, rfl, HI'.out, RDc.out, HFc.out, HMc.out, HLc.out, BBc.out⟩
                    case measure => exact meas_a hlt
        · have hik : i = k := by omega
          subst hik
          have hlt' : ¬ (i : Int) < i := by omega
          have erk : rn r P i = rn r P 32768 := by
            have e1 := run_at_k P (st0 (kSeq r) P (fun _ => 0)) rfl 32768
            have e2 : i = (runSt P (st0 (kSeq r) P (fun _ => 0)) 32768).k := HK.out.1
            show runSt P _ i = _
            rw [e2]
            exact e1
          rw [erk] at HD
          clear HI HF HM HL LST ST F9 M9 L9 D9 B59 erk hB
          as_aux_lemma =>
            go_wp2_with fail
            go_loopw [243] (fun v wz => ∃ q : Nat, q ≤ nh ∧ v = .int .i64 (q : Int) ∧ wz.rowIs W5.heap.size 3 P.nh (fun h => .int .i64 (((rn r P 32768).done h : Nat) : Int)) ∧ Below W5.heap.size W5 wz) (fun v _ => nh - (intOf v).toNat)
            case atStart => exact ⟨0, Nat.zero_le _, rfl, HD.out, HBr.out⟩
            case round =>
              obtain ⟨q, hq, rfl, hDz, hBz⟩ := hrel
              have HDz := hide hDz
              have HBz := hide hBz
              by_cases hql : q < nh
              · have hql' : (q : Int) < (nh : Int) := by omega
                obtain ⟨ba, oa, av, ca, eaa, hba, hca, hcc⟩ := (SA6.out.below hBz (by have := Z5.out; omega)) q hql
                subst eaa
                have dcz := hDz.cell (i := q) (by rw [pn]; exact hql)
                obtain ⟨dn, hdn⟩ : ∃ dn, (rn r P 32768).done q = dn := ⟨_, rfl⟩
                rw [hdn] at hca dcz
                have nhm : nh ≤ 8 := HQ.out.1
                clear hcc hdn hDz hBz
                go_wp2_with fail
                go_quiet (fail)
                go_wp2_with fail
                go_roundw
                case rel => exact ⟨q + 1, hql, vi_a, HDz.out.of_block rfl, below_dn HBz.out _⟩
                case measure => exact meas_a hql
              · have hql' : ¬ (q : Int) < (nh : Int) := by omega
                clear hDz hBz
                go_wp2_with fail
                go_ret
                exact ⟨rfl, (keep.out _ (BW5.out.trans (HBz.out.mono BW5.out.size))).1⟩
    · have B6 := hide ((keep.out W5 BW5.out).1)
      have her' : (er != 0) = true := by simpa using her
      go_wp2_with fail
      go_ret
      exact ⟨rfl, B6.out⟩
end Seq
end Go.Proofs.Ytkiojiibppdjjaa
