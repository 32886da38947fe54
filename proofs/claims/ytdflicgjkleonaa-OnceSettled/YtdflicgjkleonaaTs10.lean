/-
  Lemmas: OnceZ.
-/
import Derived.Test.YtdflicgjkleonaaTs08
import Derived.Test.YtdflicgjkleonaaTs09
import Derived.Deep.CutBlock
import Derived.Deep.CutRange
import Derived.Deep.QuietTactic
set_option linter.unusedVariables false
set_option linter.unusedSimpArgs false
set_option linter.unnecessarySimpa false
set_option maxRecDepth 20000
namespace Go.Proofs.Ytdflicgjkleonaa
open Go.RowKit
namespace Once

theorem info3 : (Try.prog.info? 3).map (fun i => (i.zero.map Value.cells, i.size, i.bytes)) = some (some #[.int .i64 0], 1, 8) := by kernel_rfl
theorem infoB : (Try.prog.info? 4).map (fun i => (i.zero.map Value.cells, i.size, i.bytes)) = some (some #[.bool false], 1, 1) := by kernel_rfl
theorem kinds_of {r : Int} {j : Jb} (h : oerr r j = 0) : 1 ≤ j.kind ∧ j.kind ≤ 3 := by
  unfold oerr at h
  split at h
  · cases h
  · omega
theorem below_dn {B : Nat} {a b : World} (h : Below B a b) (k : Nat) : Below B a (b.drewN k) := ⟨h.os, h.tape, h.output, h.size, h.block⟩

/-- What stands at the head of a round. -/
def LO (r : Nat) (P : Par) (K D : Nat) (w6 : World) (v76 : Value) (wr : World) : Prop :=
  ∃ (i : Nat) (win : Nat → Option (Nat × Nat)), i ≤ K ∧ v76 = .int .i64 (i : Int) ∧ IO r P i win ∧ wr.rowIs D 4 r (fun a => .bool (decide ((rn r P i).f a = 2))) ∧ wr.rowIs (D + 1) 3 P.nh (fun h => .int .i64 (((rn r P i).done h : Nat) : Int)) ∧ Below D w6 wr
theorem row_two {w : World} {b t r : Nat} {f f' : Nat → Int} (h : w.rowIs b t r (fun a => .bool (decide (f a = 2)))) (e : ∀ q, q < r → (f' q = 2 ↔ f q = 2)) : w.rowIs b t r (fun a => .bool (decide (f' a = 2))) :=
  World.rowIs.congr h (fun q hq => by simp [e q hq])

theorem row_fin {w : World} {b t r a : Nat} {f f' : Nat → Int} (R : w.rowIs b t r (fun q => .bool (decide (f q = 2)))) (e : f' = putF f a 2) : (w.setCell ⟨b, a, none⟩ (.bool true)).rowIs b t r (fun q => .bool (decide (f' q = 2))) := by
  refine World.rowIs.congr (R.set a (.bool true)) (fun q hq => ?_)
  rw [e]
  by_cases h : q = a
  · subst h; simp [putF]
  · simp [putF, h]
theorem wr2 {r : Nat} (h : r ≤ 64) : IntKind.i64.wrap (2 * (r : Int)) = 2 * (r : Int) := by
  first
  | (simp only [IntKind.wrap]; done)
  | (simp [IntKind.wrap, IntKind.bits, IntKind.signed]; omega)
  | (unfold IntKind.wrap; simp; omega)
  | go_num
theorem row_up {w : World} {b t n h d : Nat} {dn dn' : Nat → Nat} (R : w.rowIs b t n (fun g => .int .i64 ((dn g : Nat) : Int))) (e : dn' = (if true = true then upd dn h (dn h + 1) else dn)) (hd : dn h = d) : (w.setCell ⟨b, h, none⟩ (.int .i64 ((d : Int) + 1))).rowIs b t n (fun g => .int .i64 ((dn' g : Nat) : Int)) := by
  refine World.rowIs.congr (R.set h (.int .i64 ((d : Int) + 1))) (fun g hg => ?_)
  rw [e]
  simp only [if_true, hd]
  by_cases q : g = h
  · subst q; rw [upd_same]; simp
  · rw [upd_other _ _ q]; simp [q]
theorem below_set {D b h : Nat} {w6 w : World} {v : Value} (hD : Below D w6 w) (hs : D ≤ w.heap.size) (hb : D ≤ b) : Below D w6 (w.setCell ⟨b, h, none⟩ v) := by
  have T := Touch.setCell (S := fun k => k = b) (Touch.refl w _) ⟨b, h, none⟩ (.inl rfl) v
  exact ⟨T.os.trans hD.os, T.tape.trans hD.tape, T.output.trans hD.output, Nat.le_trans hD.size T.size, fun q hq => (T.block q (Nat.lt_of_lt_of_le hq hs) (by show ¬ q = b; omega)).trans (hD.block q hq)⟩

set_option maxHeartbeats 16000000 in
theorem settled_walk {w : World} {s0 s1 s2 s3 s4 s5 : Int} {aoh aos : Option Addr} {nh caph ns caps : Nat} {jn : Nat → Nat} {jb : Nat → Nat → Jb} {sched : Nat → Int} (SH : SeesH w w.heap.size aoh nh jn jb) (hn63 : nh ≤ 9223372036854775807) (SI : SeesI w w.heap.size aos ns sched) (hjw : ∀ h, h < nh → ∀ j, j < jn h → (jb h j).wf) :
    Calls Try.prog 8 #[.agg #[.int .i64 s0, .int .i64 s1, .int .i64 s2, .int .i64 s3, .int .i64 s4, .int .i64 s5], .slice aoh nh caph, .slice aos ns caps] w fun e w' => e = .returned (.bool true) ∧ Below w.heap.size w w' := by
  have HSH := hide SH
  have HJW := hide hjw
  have HSI := hide SI
  have HN63 := hide hn63
  obtain ⟨W1, hW1⟩ : ∃ W1, w.alloc (.cells #[.int .i64 s0, .int .i64 s1, .int .i64 s2, .int .i64 s3, .int .i64 s4, .int .i64 s5] 23) = W1 := ⟨_, rfl⟩
  have B1 : Below w.heap.size w W1 := by rw [← hW1]; exact (Below.refl _ w).alloc (Nat.le_refl _) _
  have R1 : W1.rowIs w.heap.size 23 6 (lrow [.int .i64 s0, .int .i64 s1, .int .i64 s2, .int .i64 s3, .int .i64 s4, .int .i64 s5]) := by rw [← hW1]; exact rowL_alloc w [.int .i64 s0, .int .i64 s1, .int .i64 s2, .int .i64 s3, .int .i64 s4, .int .i64 s5] _ rfl
  have z1 : W1.heap.size = w.heap.size + 1 := by rw [← hW1]; simp
  have keep := hide (fun (w' : World) (hb : Below W1.heap.size W1 w') => show Below w.heap.size w w' ∧ w.heap.size < w'.heap.size ∧ w'.cell? ⟨w.heap.size, 0, none⟩ = some (.int .i64 s0) ∧ w'.cell? ⟨w.heap.size, 1, none⟩ = some (.int .i64 s1) ∧ w'.cell? ⟨w.heap.size, 2, none⟩ = some (.int .i64 s2) ∧ w'.cell? ⟨w.heap.size, 3, none⟩ = some (.int .i64 s3) ∧ w'.cell? ⟨w.heap.size, 4, none⟩ = some (.int .i64 s4) ∧ w'.cell? ⟨w.heap.size, 5, none⟩ = some (.int .i64 s5) from by
    have r := R1.of_block (hb.block w.heap.size (by omega))
    exact ⟨B1.trans (hb.mono B1.size), r.lt, r.cell (i := 0) (by decide), r.cell (i := 1) (by decide), r.cell (i := 2) (by decide), r.cell (i := 3) (by decide), r.cell (i := 4) (by decide), r.cell (i := 5) (by decide)⟩)
  have SO := hide (fun (h1 : 1 ≤ s5) (h2 : s5 ≤ 64) (w1 : World) => rsize_ok w1 ⟨s0, s1, s2, s3, s4, s5⟩ h1 h2)
  have SB := hide (fun (h : s5 < 1 ∨ 64 < s5) (w1 : World) => rsize_bad w1 ⟨s0, s1, s2, s3, s4, s5⟩ h)
  have FO := hide (fun (h1 : 1 ≤ s5) (h2 : s5 ≤ 64) (want : Nat) (hw : (want : Int) = 2 * s5) (w1 : World) => fresh_ok w1 ⟨s0, s1, s2, s3, s4, s5⟩ h1 h2 hw)
  simp only [Shp.val] at SO SB FO
  clear SH SI hjw hn63 B1 R1
  go_enter Try.func8, Try.ntmps8
  go_wp2_with fail
  refine (awake_any W1).mono ?_
  rintro e w2 ⟨rfl, hb2⟩
  have HB2 := hide hb2
  obtain ⟨_, l2, c0, c1, c2, c3, c4, c5⟩ := keep.out w2 hb2
  clear hb2 hW1
  by_cases hbad : s5 < 1 ∨ 64 < s5
  · have HF := hide (SB.out hbad)
    clear SO SB FO
    go_wp2_with fail
    refine (HF.out _).mono ?_
    rintro e w3 ⟨rfl, hg3⟩
    have B3 := hide (HB2.out.trans ((below_of_grown_none hg3 _ (Nat.le_refl _)).mono HB2.out.size))
    clear hg3 c0 c1 c2 c3 c4 c5
    go_wp2_with fail
    go_ret
    exact ⟨rfl, (keep.out w3 B3.out).1⟩
  · have h1 : 1 ≤ s5 := by omega
    have h2 : s5 ≤ 64 := by omega
    obtain ⟨r, hr⟩ : ∃ r : Nat, s5 = (r : Int) := ⟨s5.toNat, by omega⟩
    subst hr
    have hr1 : 1 ≤ r := by omega
    have hr2 : r ≤ 64 := by omega
    have HS := hide (SO.out h1 h2)
    have HF := hide (FO.out h1 h2 (2 * r) (by omega))
    clear SO SB FO hbad
    go_wp2_with fail
    refine (HS.out _).mono ?_
    rintro e w3 ⟨rfl, hg3⟩
    have HB3 := hide (HB2.out.trans ((below_of_grown_none hg3 _ (Nat.le_refl _)).mono HB2.out.size))
    clear hg3 c0 c1 c2 c3 c4 c5
    obtain ⟨_, l3, c0, c1, c2, c3, c4, c5⟩ := keep.out w3 HB3.out
    go_wp2_with fail
    refine (HF.out _).mono ?_
    rintro e w4 ⟨g, rfl, RW, hg, hg4⟩
    have HB4 := hide (HB3.out.trans ((below_of_grown_none hg4 _ (Nat.le_refl _)).mono HB3.out.size))
    have S4 := hide (RW.sees)
    clear hg4 RW hg c0 c1 c2 c3 c4 c5
    obtain ⟨b4, l4, c0, c1, c2, c3, c4, c5⟩ := keep.out w4 HB4.out
    have PL := hide (play_so (w := w4) (sh := ⟨s0, s1, s2, s3, s4, r⟩) (P := ⟨2 * r, nh, jn, jb, ns, sched⟩) (cap := 2 * r) (caph := caph) (caps := caps) (most := 65536) (r := r) rfl hr1 hr2 rfl S4.out ((HSH.out.below b4 (Nat.le_refl _)).up b4.size) HN63.out ((HSI.out.below b4 (Nat.le_refl _)).up b4.size) HJW.out)
    simp only [Shp.val] at PL
    have B4 := hide b4
    clear b4
    go_wp2_with fail
    refine PL.out.mono ?_
    rintro e w5 ⟨hb5, sa, k, sc, wa, n, wc, en, aa, m, ac, er, rfl, hT⟩
    have HB5 := hide (HB4.out.trans (hb5.mono HB4.out.size))
    have B45 := hide hb5
    clear hb5 c0 c1 c2 c3 c4 c5 PL
    unfold tv3
    obtain ⟨W5, hW5⟩ : ∃ W5, w5.alloc (.cells #[.slice sa k sc, .slice wa n wc, .bool en] 32) = W5 := ⟨_, rfl⟩
    have z5 : W5.heap.size = w5.heap.size + 1 := by rw [← hW5]; simp
    have B55 : Below w5.heap.size w5 W5 := by rw [← hW5]; exact (Below.refl _ w5).alloc (Nat.le_refl _) _
    have R5 := hide (show W5.rowIs w5.heap.size 32 3 (lrow [.slice sa k sc, .slice wa n wc, .bool en]) from by rw [← hW5]; exact rowL_alloc w5 [.slice sa k sc, .slice wa n wc, .bool en] _ rfl)
    have BW5 := hide (HB5.out.trans (B55.mono HB5.out.size))
    by_cases her : er = 0
    · subst her
      obtain ⟨q1, q2, q3, q4, hk, hm, hn, hen, SS, SWd, SA⟩ := hT rfl
      simp only at q1 q2 q3 q4 hm hn
      have hm' := hm.symm
      subst hm'
      have hn' := hn.symm
      subst hn'
      have hm0 : (65536 : Int).toNat = 65536 := rfl
      rw [hm0] at hk SS SA SWd hen q3
      have hK := runSt_k ⟨2 * r, nh, jn, jb, ns, sched⟩ (st0 (kOnce r) ⟨2 * r, nh, jn, jb, ns, sched⟩ (fun _ => 0)) rfl 65536
      have t0c : W5.cell? ⟨w5.heap.size, 0, none⟩ = some (.slice sa k sc) := R5.out.cell (i := 0) (by decide)
      have t1c : W5.cell? ⟨w5.heap.size, 1, none⟩ = some (.slice wa (2 * r) wc) := R5.out.cell (i := 1) (by decide)
      have t2c : W5.cell? ⟨w5.heap.size, 2, none⟩ = some (.bool en) := R5.out.cell (i := 2) (by decide)
      have H1 := hide (And.intro hk hen)
      have H2 := hide (And.intro q1 (And.intro q2 (And.intro q3 q4)))
      have H3 := hide hK
      clear hk hen q1 q2 q3 q4 hK hT
      go_upto_region 10 with (fail)
      obtain ⟨hk, hen⟩ := H1.out
      obtain ⟨q1, q2, q3, q4⟩ := H2.out
      have hK := H3.out
      clear hW5 H1 H2 H3
      cases en with
      | false =>
        have hk16 : k = 65536 := by
          rcases Nat.lt_or_ge k 65536 with l | l
          · have ht := hK.2 (by rw [← hk]; exact l)
            rcases turn_ok _ (rn r ⟨2 * r, nh, jn, jb, ns, sched⟩ 65536) with ⟨_, h0⟩ | ⟨h, h0, _⟩
            · rw [decide_eq_true h0] at hen; cases hen
            · exact absurd (h0 ▸ ht) (by omega)
          · have := hK.1; rw [← hk] at this; omega
        have B6 := hide ((keep.out W5 BW5.out).1)
        clear SS SA SWd q1 q2 q3 q4 hk hen hm0 hK B55 R5 keep
        subst hk16
        go_wp2_with fail
        go_ret
        exact ⟨rfl, B6.out⟩
      | true =>
        have hcn := of_decide_eq_true hen.symm
        obtain ⟨P, hP⟩ : ∃ P : Par, (⟨2 * r, nh, jn, jb, ns, sched⟩ : Par) = P := ⟨_, rfl⟩
        have pn : P.nh = nh := by rw [← hP]
        have pw : P.n = 2 * r := by rw [← hP]
        have SHP := hide (show SeesH W5 W5.heap.size aoh P.nh P.jn P.jb from by rw [← hP]; exact (HSH.out.below (keep.out W5 BW5.out).1 (Nat.le_refl _)).up (keep.out W5 BW5.out).1.size)
        have hj8 : P.nh ≤ 8 := by rw [← hP]; exact q1
        have hj256 : ∀ h, h < P.nh → P.jn h ≤ 256 := by rw [← hP]; exact q2
        have hle : ∀ h, h < P.nh → (rn r P 65536).done h ≤ P.jn h := by rw [← hP]; exact q3
        have hok : ∀ h, h < P.nh → ∀ j, j < P.jn h → oerr r (P.jb h j) = 0 := by rw [← hP]; exact q4
        rw [hP] at hk hcn SS SWd SA
        replace hcn : cnt (St.going P (rn r P 65536)) P.nh = 0 := by first | exact hcn | (rw [pn]; exact hcn)
        have hd : ∀ h, h < P.nh → (rn r P 65536).done h = P.jn h := fun h hh => all_done hcn hle hh
        have hkk : ∀ h, h < P.nh → ∀ j, j < P.jn h → 1 ≤ (P.jb h j).kind ∧ (P.jb h j).kind ≤ 3 := fun h hh j hj => kinds_of (hok h hh j hj)
        obtain ⟨win, IW⟩ := run_io pw hok 65536
        have SS5 := hide ((SS.below B55 (Nat.le_refl _)).mono B55.size)
        have SET := hide (settled_ok (w := W5) (s0 := s0) (s1 := s1) (s2 := s2) (s3 := s3) (s4 := s4) (r := r) (aoh := aoh) (wa := wa) (aa := aa) (caph := caph) (wc := wc) (ac := ac) (P := P) hr1 hr2 hj8 hj256 SHP.out ((SWd.below B55 (Nat.le_refl _)).mono B55.size) (by have := (SA.below B55 (Nat.le_refl _)).mono B55.size; simpa [pn] using this) IW hd hkk)
        rw [pn] at SET
        have HHD := hide hd
        have HQ := hide (And.intro hj8 hj256)
        have HOK := hide hok
        have HPW := hide pw
        have HK := hide (And.intro hk (show k ≤ 65536 from by rw [hk]; exact (runSt_k P (st0 (kOnce r) P (fun _ => 0)) rfl 65536).1))
        have PN := hide pn
        have c05 := (keep.out W5 BW5.out)
        obtain ⟨_, l5, c0, c1, c2, c3, c4, c5⟩ := keep.out W5 BW5.out
        clear SS SA SWd q1 q2 q3 q4 hk hen hm0 hK B55 hcn hj8 hj256 hle hok hd hkk IW win pw hP pn c05
        go_wp2_with fail
        refine SET.out.mono ?_
        rintro e w6 ⟨rfl, hb6⟩
        clear SET c0 c1 c2 c3 c4 c5 t1c t2c
        have B56 := hide hb6
        have lw55 : w5.heap.size < W5.heap.size := R5.out.lt
        have c5 : w6.cell? ⟨w.heap.size, 5, none⟩ = some (.int .i64 (r : Int)) := (keep.out w6 (BW5.out.trans (hb6.mono BW5.out.size))).2.2.2.2.2.2.2
        have t0d : w6.cell? ⟨w5.heap.size, 0, none⟩ = some (.slice sa k sc) := (hb6.cell (p := ⟨w5.heap.size, 0, none⟩) lw55).trans t0c
        have nhm : nh ≤ 8 := by have := HQ.out.1; rw [PN.out] at this; exact this
        have hmb := run_make_z (P := Try.prog) 90 4 _ 1 1 Try.underlying90 infoB r (by omega) (by omega)
        have hmk := run_make_z (P := Try.prog) 26 3 _ 1 8 Try.underlying26 info3 nh (by omega) (by omega)
        simp only [Nat.mul_one] at hmb hmk
        obtain ⟨W7, hW7⟩ : ∃ W7, w6.alloc (.cells (madeCells #[.bool false] r) 4) = W7 := ⟨_, rfl⟩
        obtain ⟨W8, hW8⟩ : ∃ W8, W7.alloc (.cells (madeCells #[.int .i64 0] nh) 3) = W8 := ⟨_, rfl⟩
        have z7 : W7.heap.size = w6.heap.size + 1 := by rw [← hW7]; simp
        have D8 := hide (show W8.rowIs w6.heap.size 4 r (fun _ => .bool false) from by rw [← hW8, ← hW7]; exact (World.rowIs_made w6 (.bool false) r 4).alloc _)
        have A8 := hide (show W8.rowIs (w6.heap.size + 1) 3 nh (fun _ => .int .i64 0) from by rw [← hW8, ← z7]; exact World.rowIs_made W7 (.int .i64 0) nh 3)
        have B68 := hide (show Below w6.heap.size w6 W8 from by rw [← hW8, ← hW7]; exact ((Below.refl _ w6).alloc (Nat.le_refl _) _).alloc (by simp) _)
        have c58 : W8.cell? ⟨w.heap.size, 5, none⟩ = some (.int .i64 (r : Int)) := (B68.out.cell (p := ⟨w.heap.size, 5, none⟩) (World.block_lt_of_cell? _ _ c5)).trans c5
        have t08 : W8.cell? ⟨w5.heap.size, 0, none⟩ = some (.slice sa k sc) := (B68.out.cell (p := ⟨w5.heap.size, 0, none⟩) (World.block_lt_of_cell? _ _ t0d)).trans t0d
        have LST := hide (fun (i : Nat) (hi : i < (rn r P 65536).k) win (I : IO r P i win) => law_step (P := P) (m := 65536) HPW.out HOK.out hi I)
        have ST := hide (show IO r P 0 (fun _ => none) from Io.start)
        have lw6 : w5.heap.size < w6.heap.size := World.block_lt_of_cell? _ _ t0d
        clear hb6 t0c
        go_wp2_with fail
        clear c5 t0d c58 t08 hW7 hW8 z7 hmb hmk
        go_loopw [76] (fun v76 wr => LO r P k w6.heap.size w6 v76 wr) (fun v76 _ => k - (intOf v76).toNat)
        case atStart => exact ⟨0, _, Nat.zero_le _, rfl, ST.out, D8.out, by rw [PN.out]; exact A8.out, B68.out⟩
        case round =>
          obtain ⟨i, win, hi, rfl, hI, hD, hA, hB⟩ := hrel
          have HI := hide hI
          have HD := hide hD
          have HA := hide hA
          have HBr := hide hB
          have hB5 := B56.out.trans (hB.mono B56.out.size)
          have HB5r := hide hB5
          have tc : wr.cell? ⟨w5.heap.size, 0, none⟩ = some (.slice sa k sc) := (R5.out.of_block (hB5.block w5.heap.size lw55)).cell (i := 0) (by decide)
          have pn := PN.out
          clear hI hD hA
          by_cases hlt : i < k
          · have hlt' : (i : Int) < k := by omega
            obtain ⟨h, a, en', win', hh, hd, ha, hja, hjk, hhand, KO, I', DN⟩ := LST.out i (by have := HK.out.1; omega) win HI.out
            rw [pn] at hh
            obtain ⟨sb, so, esa, hsb, hcs⟩ := (SS5.out.below hB5 (Nat.le_refl _)) i (by have := HK.out.1; omega)
            obtain ⟨hb', ho', aj, cj, eah, hbh, hc1, SJ⟩ := (SHP.out.below hB5 (Nat.le_refl _)) h (by rw [pn]; exact hh)
            obtain ⟨d, hdd⟩ : ∃ d, (rn r P i).done h = d := ⟨_, rfl⟩
            rw [hdd] at hd hja hjk KO
            obtain ⟨jb', jo', eaj, hbj, hjc⟩ := SJ d hd
            generalize P.jb h d = jx at KO hjc hja hjk
            generalize (rn r P 65536).s i = x at hcs KO hhand
            obtain ⟨jk, ja, jbb, jc, jh⟩ := jx
            obtain ⟨xh, xa, xt, xd, xp, xo⟩ := x
            obtain rfl : xh = (h : Int) := hhand
            obtain rfl : ja = (a : Int) := hja
            have p0 : wr.cell? ⟨sb, so + i * 6, none⟩ = some (.int .i64 h) := hcs 0 (by omega)
            have p1 : wr.cell? ⟨sb, so + i * 6 + 1, none⟩ = some (.int .i64 xa) := hcs 1 (by omega)
            have p2 : wr.cell? ⟨sb, so + i * 6 + 2, none⟩ = some (.int .i64 xt) := hcs 2 (by omega)
            have p3 : wr.cell? ⟨sb, so + i * 6 + 3, none⟩ = some (.int .u64 xd) := hcs 3 (by omega)
            have p4 : wr.cell? ⟨sb, so + i * 6 + 4, none⟩ = some (.int .u64 xp) := hcs 4 (by omega)
            have p5 : wr.cell? ⟨sb, so + i * 6 + 5, none⟩ = some (.bool xo) := hcs 5 (by omega)
            have j0 : wr.cell? ⟨jb', jo' + d * 5, none⟩ = some (.int .i64 jk) := hjc 0 (by omega)
            have j1 : wr.cell? ⟨jb', jo' + d * 5 + 1, none⟩ = some (.int .i64 a) := hjc 1 (by omega)
            have j2 : wr.cell? ⟨jb', jo' + d * 5 + 2, none⟩ = some (.int .i64 jbb) := hjc 2 (by omega)
            have j3 : wr.cell? ⟨jb', jo' + d * 5 + 3, none⟩ = some (.int .i64 jc) := hjc 3 (by omega)
            have j4 : wr.cell? ⟨jb', jo' + d * 5 + 4, none⟩ = some (.int .u64 jh) := hjc 4 (by omega)
            have ac : wr.cell? ⟨w6.heap.size + 1, h, none⟩ = some (.int .i64 d) := by have := HA.out.cell (i := h) (by rw [pn]; exact hh); rw [hdd] at this; exact this
            have c5r : wr.cell? ⟨w.heap.size, 5, none⟩ = some (.int .i64 (r : Int)) := (keep.out wr (BW5.out.trans (hB5.mono BW5.out.size))).2.2.2.2.2.2.2
            have gx : 0 ≤ xt ∧ xt < 2 * (r : Int) := by
              cases KO with
              | seen _ _ z => replace z : xt = (a : Int) := z; omega
              | go _ _ z => replace z : xt = (a : Int) ∨ xt = (r : Int) + (a : Int) := z; omega
              | fin _ _ z => replace z : xt = (a : Int) := z; omega
              | wait _ _ z => replace z : xt = (a : Int) := z; omega
              | got _ _ z => replace z : xt = (a : Int) := z; omega
            obtain ⟨jnh, hjnh⟩ : ∃ n, P.jn h = n := ⟨_, rfl⟩
            rw [hjnh] at hd hc1
            subst esa
            subst eah
            subst eaj
            have hd256 : d < 256 := by have := HQ.out.2 h (by rw [pn]; exact hh); omega
            have HKEEP := hide hdd
            have g1 : ¬ (h : Int) < 0 := by omega
            have g2 : ¬ (nh : Int) ≤ (h : Int) := by omega
            have g3 : ¬ nh ≤ h := by omega
            have g5 : ¬ (jnh : Int) ≤ (d : Int) := by omega
            have g6 : ¬ jnh ≤ d := by omega
            have g7 : ¬ xt < 0 := by omega
            have g8 : ¬ 2 * (r : Int) ≤ xt := by omega
            have hhn : (h : Int) < (nh : Int) := by omega
            have hdj : (d : Int) < (jnh : Int) := by omega
            have lr1 : w6.heap.size + 1 < wr.heap.size := HA.out.lt
            have lr2 : w6.heap.size < wr.heap.size := by omega
            have lr3 : sb < wr.heap.size := World.block_lt_of_cell? _ _ p0
            have lr4 : jb' < wr.heap.size := World.block_lt_of_cell? _ _ j0
            have lr5 : hb' < wr.heap.size := World.block_lt_of_cell? _ _ hc1
            have lr6 : w5.heap.size < wr.heap.size := World.block_lt_of_cell? _ _ tc
            have lr7 : w.heap.size < wr.heap.size := World.block_lt_of_cell? _ _ c5r
            have HDN := hide DN
            have HI' := hide I'
            have HKO := hide KO
            have HJK := hide hjk
            clear hcs hjc SJ hdd hjnh DN I' KO hjk hB5 hB gx
            go_wp2_with fail
            go_quiet (fail)
            go_wp2_with fail
            · exfalso
              rename_i hbad2
              rcases hbad2 with (qb | qb) | qb
              · omega
              · omega
              · rw [wr2 hr2] at qb; omega
            go_region_held (fun w' => w'.cell? ⟨wr.heap.size, 0, none⟩ = some (.int .i64 h) ∧ w'.cell? ⟨hb', ho' + h, none⟩ = some (.slice (some ⟨jb', jo', none⟩) jnh cj) ∧ w'.cell? ⟨w6.heap.size + 1, h, none⟩ = some (.int .i64 d) ∧ w'.cell? ⟨jb', jo' + d * 5, none⟩ = some (.int .i64 jk) ∧ w'.cell? ⟨jb', jo' + d * 5 + 1, none⟩ = some (.int .i64 a) ∧ w'.cell? ⟨jb', jo' + d * 5 + 2, none⟩ = some (.int .i64 jbb) ∧ w'.cell? ⟨jb', jo' + d * 5 + 3, none⟩ = some (.int .i64 jc) ∧ w'.cell? ⟨jb', jo' + d * 5 + 4, none⟩ = some (.int .u64 jh)) (go_keep) (fail)
            obtain ⟨Wq, hWq⟩ : ∃ W, ((wr.alloc (.cells #[.int .i64 h, .int .i64 xa, .int .i64 xt, .int .u64 xd, .int .u64 xp, .bool xo] 71)).drewN (nq + 1)).alloc (.cells #[.int .i64 jk, .int .i64 a, .int .i64 jbb, .int .i64 jc, .int .u64 jh] 44) = W := ⟨_, rfl⟩
            have Tq : Touch wr Wq (fun _ => False) := by rw [← hWq]; exact (((Touch.refl wr (fun _ => False)).alloc _).trans' (c := (wr.alloc (.cells #[.int .i64 h, .int .i64 xa, .int .i64 xt, .int .u64 xd, .int .u64 xp, .bool xo] 71)).drewN (nq + 1)) (S' := fun _ => False) ⟨rfl, rfl, rfl, Nat.le_refl _, fun _ _ _ => rfl⟩ (fun _ _ h => h)).alloc _
            have szq : Wq.heap.size = wr.heap.size + 2 := by rw [← hWq]; simp
            have RSq : Wq.rowIs wr.heap.size 71 6 (lrow [.int .i64 h, .int .i64 xa, .int .i64 xt, .int .u64 xd, .int .u64 xp, .bool xo]) := by rw [← hWq]; exact ((rowL_alloc wr [.int .i64 h, .int .i64 xa, .int .i64 xt, .int .u64 xd, .int .u64 xp, .bool xo] 71 (n := 6) rfl).of_block (w' := (wr.alloc (.cells #[.int .i64 h, .int .i64 xa, .int .i64 xt, .int .u64 xd, .int .u64 xp, .bool xo] 71)).drewN (nq + 1)) rfl).alloc _
            have RJq : Wq.rowIs (wr.heap.size + 1) 44 5 (lrow [.int .i64 jk, .int .i64 a, .int .i64 jbb, .int .i64 jc, .int .u64 jh]) := by
              rw [← hWq]
              have := rowL_alloc ((wr.alloc (.cells #[.int .i64 h, .int .i64 xa, .int .i64 xt, .int .u64 xd, .int .u64 xp, .bool xo] 71)).drewN (nq + 1)) [.int .i64 jk, .int .i64 a, .int .i64 jbb, .int .i64 jc, .int .u64 jh] 44 (n := 5) rfl
              simpa using this
            have HBq : Hid (Below w6.heap.size w6 Wq) := ⟨Tq.os.trans HBr.out.os, Tq.tape.trans HBr.out.tape, Tq.output.trans HBr.out.output, Nat.le_trans HBr.out.size Tq.size, fun k hk => (Tq.block k (Nat.lt_of_lt_of_le hk HBr.out.size) (fun h => h)).trans (HBr.out.block k hk)⟩
            have HDq := hide (HD.out.of_block (Tq.block _ HD.out.lt (fun h => h)))
            have HAq := hide (HA.out.of_block (Tq.block _ HA.out.lt (fun h => h)))
            have y0 : Wq.cell? ⟨wr.heap.size, 0, none⟩ = some (.int .i64 h) := RSq.cell (i := 0) (by decide)
            have y1 : Wq.cell? ⟨wr.heap.size, 1, none⟩ = some (.int .i64 xa) := RSq.cell (i := 1) (by decide)
            have y2 : Wq.cell? ⟨wr.heap.size, 2, none⟩ = some (.int .i64 xt) := RSq.cell (i := 2) (by decide)
            have y3 : Wq.cell? ⟨wr.heap.size, 3, none⟩ = some (.int .u64 xd) := RSq.cell (i := 3) (by decide)
            have y4 : Wq.cell? ⟨wr.heap.size, 4, none⟩ = some (.int .u64 xp) := RSq.cell (i := 4) (by decide)
            have v0 : Wq.cell? ⟨wr.heap.size + 1, 0, none⟩ = some (.int .i64 jk) := RJq.cell (i := 0) (by decide)
            have v1 : Wq.cell? ⟨wr.heap.size + 1, 1, none⟩ = some (.int .i64 a) := RJq.cell (i := 1) (by decide)
            have c5q : Wq.cell? ⟨w.heap.size, 5, none⟩ = some (.int .i64 (r : Int)) := (World.cell?_of_block (a := ⟨w.heap.size, 5, none⟩) (Tq.block _ lr7 (fun h => h))).trans c5r
            have aq : Wq.cell? ⟨w6.heap.size + 1, h, none⟩ = some (.int .i64 d) := (World.cell?_of_block (a := ⟨w6.heap.size + 1, h, none⟩) (Tq.block _ lr1 (fun h => h))).trans ac
            have dq : Wq.cell? ⟨w6.heap.size, a, none⟩ = some (.bool (decide ((rn r P i).f a = 2))) := HDq.out.cell (i := a) ha
            have afq := HAq.out.frozen h
            have dfq := HDq.out.frozen a
            have lq0 : wr.heap.size < Wq.heap.size := by omega
            have lq1 : wr.heap.size + 1 < Wq.heap.size := by omega
            have lq2 : w6.heap.size < Wq.heap.size := by omega
            have lq3 : w6.heap.size + 1 < Wq.heap.size := by omega
            have lq4 : w.heap.size < Wq.heap.size := by omega
            have ne1 : wr.heap.size ≠ w6.heap.size := by omega
            have ne2 : wr.heap.size + 1 ≠ w6.heap.size := by omega
            have ne3 : wr.heap.size ≠ w6.heap.size + 1 := by omega
            have har : (a : Int) < (r : Int) := by omega
            have har' : ¬ (r : Int) ≤ (a : Int) := by omega
            have i65 : i ≤ 65536 := by have := HK.out.2; omega
            simp only [hWq]
            clear hWq Tq RSq RJq p0 p1 p2 p3 p4 p5 j0 j1 j2 j3 j4 ac hc1 tc g1 g2 g3 g5 g6 g7 g8 hbj hsb hbh c5r
            obtain ⟨fa, hfa⟩ : ∃ fa, (rn r P i).f a = fa := ⟨_, rfl⟩
            rw [hfa] at dq
            have HFA := hide hfa
            have KO := HKO.out
            clear HKO hfa
            cases KO with
            | seen kk c z v e s =>
              replace kk : jk = 3 := kk
              replace c : xa = 1 := c
              replace z : xt = (a : Int) := z
              replace v : xd = (rn r P i).f a := v
              rw [HFA.out] at v
              subst kk c z v e
              by_cases f2 : xd = 2
              · subst f2
                as_aux_lemma =>
                  go_wp2_with fail
                  go_roundw
                  case rel => exact ⟨i + 1, win', hlt, vi_b, HI'.out, row_two ((HDq.out).of_block (Touch.block (Touch.setCell (S := fun k => k = w6.heap.size + 1) (Touch.refl Wq _) ⟨w6.heap.size + 1, h, none⟩ (.inl rfl) _) _ lq2 (by simp))) (fun q _ => by rw [s]), row_up HAq.out HDN.out HKEEP.out, below_set HBq.out (by omega) (by omega)⟩
                  case measure => exact meas_b hlt
              · have f2' : (xd == 2) = false := by simpa using f2
                have f3 : decide (xd = 2) = false := by simpa using f2
                rw [f3] at dq
                as_aux_lemma =>
                  go_wp2_with fail
                  go_roundw
                  case rel => exact ⟨i + 1, win', hlt, vi_b, HI'.out, row_two ((HDq.out).of_block (Touch.block (Touch.setCell (S := fun k => k = w6.heap.size + 1) (Touch.refl Wq _) ⟨w6.heap.size + 1, h, none⟩ (.inl rfl) _) _ lq2 (by simp))) (fun q _ => by rw [s]), row_up HAq.out HDN.out HKEEP.out, below_set HBq.out (by omega) (by omega)⟩
                  case measure => exact meas_b hlt
            | go kk c z e s =>
              replace kk : ¬ jk = 3 := kk
              replace c : xa = 4 ∨ xa = 5 := c
              replace z : xt = (a : Int) ∨ xt = (r : Int) + (a : Int) := z
              have k3 : (jk == 3) = false := by simpa using kk
              subst e
              rcases c with rfl | rfl
              · rcases z with rfl | rfl
                · skip
                  as_aux_lemma =>
                    go_wp2_with fail
                    go_roundw
                    case rel => exact ⟨i + 1, win', hlt, vi_b, HI'.out, row_two HDq.out (s), by rw [HDN.out, if_neg (by decide)]; exact HAq.out, HBq.out⟩
                    case measure => exact meas_b hlt
                · have g9 : ¬ (r : Int) + (a : Int) < (r : Int) := by omega
                  as_aux_lemma =>
                    go_wp2_with fail
                    go_roundw
                    case rel => exact ⟨i + 1, win', hlt, vi_b, HI'.out, row_two HDq.out (s), by rw [HDN.out, if_neg (by decide)]; exact HAq.out, HBq.out⟩
                    case measure => exact meas_b hlt
              · rcases z with rfl | rfl
                · skip
                  as_aux_lemma =>
                    go_wp2_with fail
                    go_roundw
                    case rel => exact ⟨i + 1, win', hlt, vi_b, HI'.out, row_two HDq.out (s), by rw [HDN.out, if_neg (by decide)]; exact HAq.out, HBq.out⟩
                    case measure => exact meas_b hlt
                · have g9 : ¬ (r : Int) + (a : Int) < (r : Int) := by omega
                  as_aux_lemma =>
                    go_wp2_with fail
                    go_roundw
                    case rel => exact ⟨i + 1, win', hlt, vi_b, HI'.out, row_two HDq.out (s), by rw [HDN.out, if_neg (by decide)]; exact HAq.out, HBq.out⟩
                    case measure => exact meas_b hlt
            | fin kk c z v p n e s =>
              replace kk : ¬ jk = 3 := kk
              replace c : xa = 2 := c
              replace z : xt = (a : Int) := z
              replace v : xd = 1 := v
              replace p : xp = 2 := p
              have k3 : (jk == 3) = false := by simpa using kk
              replace n : ¬ (rn r P i).f a = 2 := n
              rw [HFA.out] at n
              have f3 : decide (fa = 2) = false := by simpa using n
              rw [f3] at dq
              subst c z v p e
              as_aux_lemma =>
                go_wp2_with fail
                go_roundw
                case rel => exact ⟨i + 1, win', hlt, vi_b, HI'.out, (row_fin HDq.out s).of_block (Touch.block (Touch.setCell (S := fun k => k = w6.heap.size + 1) (Touch.refl _ _) ⟨w6.heap.size + 1, h, none⟩ (.inl rfl) _) _ (by simp; omega) (by simp)), row_up (HAq.out.of_block (Touch.block (Touch.setCell (S := fun k => k = w6.heap.size) (Touch.refl Wq _) ⟨w6.heap.size, a, none⟩ (.inl rfl) _) _ lq3 (by simp))) HDN.out HKEEP.out, below_set (below_set HBq.out (by omega) (by omega)) (by simp; omega) (by omega)⟩
                case measure => exact meas_b hlt
            | wait kk c z v e s =>
              replace kk : ¬ jk = 3 := kk
              replace c : xa = 1 := c
              replace z : xt = (a : Int) := z
              replace v : ¬ xd = 2 := v
              have k3 : (jk == 3) = false := by simpa using kk
              have v' : (xd == 2) = false := by simpa using v
              subst c z e
              as_aux_lemma =>
                go_wp2_with fail
                go_roundw
                case rel => exact ⟨i + 1, win', hlt, vi_b, HI'.out, row_two HDq.out (fun q _ => by rw [s]), by rw [HDN.out, if_neg (by decide)]; exact HAq.out, HBq.out⟩
                case measure => exact meas_b hlt
            | got kk c z v y e s =>
              replace kk : ¬ jk = 3 := kk
              replace c : xa = 1 := c
              replace z : xt = (a : Int) := z
              replace v : xd = 2 := v
              replace y : (rn r P i).f a = 2 := y
              rw [HFA.out] at y
              have k3 : (jk == 3) = false := by simpa using kk
              subst c z v y e
              as_aux_lemma =>
                go_wp2_with fail
                go_roundw
                case rel => exact ⟨i + 1, win', hlt, vi_b, HI'.out, row_two ((HDq.out).of_block (Touch.block (Touch.setCell (S := fun k => k = w6.heap.size + 1) (Touch.refl Wq _) ⟨w6.heap.size + 1, h, none⟩ (.inl rfl) _) _ lq2 (by simp))) (fun q _ => by rw [s]), row_up HAq.out HDN.out HKEEP.out, below_set HBq.out (by omega) (by omega)⟩
                case measure => exact meas_b hlt
          · have hik : i = k := by omega
            subst hik
            have hlt' : ¬ (i : Int) < i := by omega
            have erk : rn r P i = rn r P 65536 := by
              have e1 := run_at_k P (st0 (kOnce r) P (fun _ => 0)) rfl 65536
              have e2 : i = (runSt P (st0 (kOnce r) P (fun _ => 0)) 65536).k := HK.out.1
              show runSt P _ i = _
              rw [e2]
              exact e1
            rw [erk] at HA
            clear HI HD LST ST D8 A8 B68 erk hB hB5
            as_aux_lemma =>
              go_wp2_with fail
              go_loopw [191] (fun v wz => ∃ q : Nat, q ≤ nh ∧ v = .int .i64 (q : Int) ∧ wz.rowIs (w6.heap.size + 1) 3 P.nh (fun h => .int .i64 (((rn r P 65536).done h : Nat) : Int)) ∧ Below w6.heap.size w6 wz) (fun v _ => nh - (intOf v).toNat)
              case atStart => exact ⟨0, Nat.zero_le _, rfl, HA.out, HBr.out⟩
              case round =>
                obtain ⟨q, hq, rfl, hDz, hBz⟩ := hrel
                have HDz := hide hDz
                have HBz := hide hBz
                by_cases hql : q < nh
                · have hql' : (q : Int) < (nh : Int) := by omega
                  obtain ⟨ba, oa, av, ca, eaa, hba, hca, hcc⟩ := (SHP.out.below (B56.out.trans (hBz.mono B56.out.size)) (Nat.le_refl _)) q (by rw [pn]; exact hql)
                  subst eaa
                  have dcz := hDz.cell (i := q) (by rw [pn]; exact hql)
                  simp only [HHD.out q (by rw [pn]; exact hql)] at dcz
                  obtain ⟨dn, hdn⟩ : ∃ dn, P.jn q = dn := ⟨_, rfl⟩
                  rw [hdn] at hca dcz
                  have lz1 := World.block_lt_of_cell? _ _ hca
                  have lz2 := World.block_lt_of_cell? _ _ dcz
                  clear hcc hdn hDz hBz
                  go_wp2_with fail
                  go_quiet (fail)
                  go_wp2_with fail
                  go_roundw
                  case rel => exact ⟨q + 1, hql, vi_b, HDz.out.of_block rfl, below_dn HBz.out _⟩
                  case measure => exact meas_b hql
                · have hql' : ¬ (q : Int) < (nh : Int) := by omega
                  clear hDz hBz
                  go_wp2_with fail
                  go_ret
                  exact ⟨rfl, (keep.out _ (BW5.out.trans ((B56.out.trans (HBz.out.mono B56.out.size)).mono BW5.out.size))).1⟩
    · have B6 := hide ((keep.out W5 BW5.out).1)
      have her' : (er != 0) = true := by simpa using her
      go_wp2_with fail
      go_ret
      exact ⟨rfl, B6.out⟩
end Once
end Go.Proofs.Ytdflicgjkleonaa
