/-
  Lemmas: TallyBW.
-/
import Derived.Test.YtmkkkknalldckaaTr28
import Derived.Test.YtmkkkknalldckaaTr06
import Derived.Deep.CutBlock
import Derived.Deep.CutRange
/-
  TallyBetween: the law's own walk.
-/
namespace Go.Proofs.Ytmkkkknalldckaa
open Go.RowKit
set_option linter.unusedVariables false
set_option linter.unusedSimpArgs false
set_option linter.unnecessarySimpa false
set_option maxRecDepth 20000
namespace Tally

theorem below_drewT {b : Nat} {w wr : World} (h : Below b w wr) (m : Nat) : Below b w (wr.drewN m) := ⟨h.os, h.tape, h.output, h.size, h.block⟩

/-- The changes, as the law's inner loop leaves them behind q hands. -/
def cqf (hits : Nat → Bool) (chg : Nat → Nat) (q : Nat) : Nat → Nat := fun j => if j < q ∧ hits j = true then chg j + 1 else chg j
theorem cqf_0 (hits : Nat → Bool) (chg : Nat → Nat) : cqf hits chg 0 = chg := by funext j; unfold cqf; rw [if_neg (by omega)]
theorem cqf_at (hits : Nat → Bool) (chg : Nat → Nat) (q : Nat) : cqf hits chg q q = chg q := by unfold cqf; rw [if_neg (by omega)]
theorem cqf_yes {hits : Nat → Bool} {chg : Nat → Nat} {q : Nat} (h : hits q = true) : upd (cqf hits chg q) q (chg q + 1) = cqf hits chg (q + 1) := by
  funext j
  by_cases e : j = q
  · subst e; rw [upd_same]; unfold cqf; rw [if_pos ⟨by omega, h⟩]
  · rw [upd_other _ _ e]
    unfold cqf
    by_cases c : j < q ∧ hits j = true
    · rw [if_pos c, if_pos ⟨by omega, c.2⟩]
    · rw [if_neg c, if_neg (fun t => c ⟨by omega, t.2⟩)]
theorem cqf_no {hits : Nat → Bool} {chg : Nat → Nat} {q : Nat} (h : hits q = false) : cqf hits chg q = cqf hits chg (q + 1) := by
  funext j
  unfold cqf
  by_cases c : j < q ∧ hits j = true
  · rw [if_pos c, if_pos ⟨by omega, c.2⟩]
  · rw [if_neg c, if_neg (fun t => by
      by_cases e : j = q
      · subst e; rw [h] at t; cases t.2
      · exact c ⟨by omega, t.2⟩)]

/-- What stands when the law is at step i. -/
def Lp (r : Nat) (P : Par) (f0 : Nat → Int) (base gw gj gm gl gc cw : Nat) (i : Nat) (sm : Bool) (wr : World) : Prop := ∃ L job blk c, Tv r P (rn r P f0 i).f (rn r P f0 i).done (rn r P f0 i).cur L ∧ L.small = sm ∧ (∀ h, h < P.nh → job h = (rn r P f0 i).done h) ∧ (∀ h, L.made h ≤ i ∧ L.chg h ≤ i) ∧ Tm wr base gw gj gm gl gc cw P.n P.nh (rn r P f0 i).f job L.made L.low L.chg blk c

set_option maxHeartbeats 16000000 in
theorem between_walk {w : World} {sh : Shp} {ao aoh aos : Option Addr} {cap caph caps : Nat} {P : Par} {f0 : Nat → Int} {most : Int} {r : Nat} (hr : 1 ≤ sh.f ∧ sh.f ≤ 64 → sh.f = (r : Int)) (S : Sees w w.heap.size ao P.n f0) (hnil : ao = none → P.n = 0 ∧ cap = 0) (hf : ∀ i, i < P.n → 0 ≤ f0 i ∧ f0 i ≤ 18446744073709551615) (SH : SeesH w w.heap.size aoh P.nh P.jn P.jb) (hn63 : P.nh ≤ 9223372036854775807) (SI : SeesI w w.heap.size aos P.ns P.sched) (hjw : ∀ h, h < P.nh → ∀ j, j < P.jn h → (P.jb h j).wf) :
    Calls Try.prog 3 #[.agg #[.int .i64 sh.a, .int .i64 sh.b, .int .i64 sh.c, .int .i64 sh.d, .int .i64 sh.e, .int .i64 sh.f, .slice ao P.n cap, .slice aoh P.nh caph, .slice aos P.ns caps, .int .i64 most]] w fun e w' => e = .returned (.bool true) ∧ Below w.heap.size w w' := by
  have AL := hide alive_any
  have FR := hide (fun (w1 : World) (B1 : Below w.heap.size w w1) => soundT_any (w := w1) (cap := cap) (caph := caph) (caps := caps) (most := most) (sh := sh) (P := P) ((S.below B1 (Nat.le_refl _)).mono B1.size) hf ((SH.below B1 (Nat.le_refl _)).up B1.size) hn63 ((SI.below B1 (Nat.le_refl _)).up B1.size) hjw)
  have SE0 := hide (fun base er sa k sc wa n wc en aa m ac (w' : World) (h : TF sh P f0 most base er sa k sc wa n wc en aa m ac w') => And.intro (se_of hr h) (fun h0 : er = 0 => hr (h h0).1.1))
  have HSH := hide SH
  have HS0 := hide S
  have HNIL := hide hnil
  have HJW := hide hjw
  have HF0 := hide hf
  obtain ⟨TBx, hTB⟩ : ∃ TBx, TF sh P f0 most = TBx := ⟨_, rfl⟩
  rw [hTB] at FR SE0
  obtain ⟨s0, s1, s2, s3, s4, s5⟩ := sh
  simp only at FR SE0 ⊢
  clear S SH SI hjw hn63 hr hTB hnil hf
  obtain ⟨W0, hW0⟩ : ∃ W0, w.alloc (.cells #[.int .i64 s0, .int .i64 s1, .int .i64 s2, .int .i64 s3, .int .i64 s4, .int .i64 s5, .slice ao P.n cap, .slice aoh P.nh caph, .slice aos P.ns caps, .int .i64 most] 28) = W0 := ⟨_, rfl⟩
  have R0 : W0.rowIs w.heap.size 28 10 (lrow [.int .i64 s0, .int .i64 s1, .int .i64 s2, .int .i64 s3, .int .i64 s4, .int .i64 s5, .slice ao P.n cap, .slice aoh P.nh caph, .slice aos P.ns caps, .int .i64 most]) := by rw [← hW0]; exact rowL_alloc w [.int .i64 s0, .int .i64 s1, .int .i64 s2, .int .i64 s3, .int .i64 s4, .int .i64 s5, .slice ao P.n cap, .slice aoh P.nh caph, .slice aos P.ns caps, .int .i64 most] _ rfl
  have B0 : Below w.heap.size w W0 := by rw [← hW0]; exact (Below.refl _ w).alloc (Nat.le_refl _) _
  have keep : Hid (∀ w' : World, Below W0.heap.size W0 w' → Below w.heap.size w w' ∧ w.heap.size < w'.heap.size ∧ w'.cell? ⟨w.heap.size, 0, none⟩ = some (.int .i64 s0) ∧ w'.cell? ⟨w.heap.size, 1, none⟩ = some (.int .i64 s1) ∧ w'.cell? ⟨w.heap.size, 2, none⟩ = some (.int .i64 s2) ∧ w'.cell? ⟨w.heap.size, 3, none⟩ = some (.int .i64 s3) ∧ w'.cell? ⟨w.heap.size, 4, none⟩ = some (.int .i64 s4) ∧ w'.cell? ⟨w.heap.size, 5, none⟩ = some (.int .i64 s5) ∧ w'.cell? ⟨w.heap.size, 6, none⟩ = some (.slice ao P.n cap) ∧ w'.cell? ⟨w.heap.size, 7, none⟩ = some (.slice aoh P.nh caph) ∧ w'.cell? ⟨w.heap.size, 8, none⟩ = some (.slice aos P.ns caps) ∧ w'.cell? ⟨w.heap.size, 9, none⟩ = some (.int .i64 most)) := fun w' hb => by
    have q := R0.of_block (hb.block w.heap.size R0.lt)
    exact ⟨B0.trans (hb.mono B0.size), q.lt, q.cell (i := 0) (by decide), q.cell (i := 1) (by decide), q.cell (i := 2) (by decide), q.cell (i := 3) (by decide), q.cell (i := 4) (by decide), q.cell (i := 5) (by decide), q.cell (i := 6) (by decide), q.cell (i := 7) (by decide), q.cell (i := 8) (by decide), q.cell (i := 9) (by decide)⟩
  clear R0 B0
  go_enter Try.func3, Try.ntmps3
  go_wp2_with fail
  refine (AL.out W0).mono ?_
  rintro e w1 ⟨rfl, hb1⟩
  have B1 := hide hb1
  clear hb1 hW0 AL
  obtain ⟨Bw1, l1, c0, c1, c2, c3, c4, c5, c6, c7, c8, c9⟩ := keep.out w1 B1.out
  have HBw1 := hide Bw1
  clear Bw1
  go_wp2_with fail
  refine (FR.out w1 HBw1.out).mono ?_
  rintro e w2 ⟨hb2, sa, k, sc, wa, n, wcp, en, aa, m, ac, er, rfl, hT⟩
  have SEv := hide (SE0.out _ _ _ _ _ _ _ _ _ _ _ _ _ hT)
  have B2 := hide (B1.out.trans (hb2.mono B1.out.size))
  clear hb2 hT SE0 FR HBw1 c0 c1 c2 c3 c4 c5 c6 c7 c8 c9 l1
  have s02 := B2.out.size
  obtain ⟨W3, hW3⟩ : ∃ W3, w2.alloc (.cells #[.slice sa k sc, .slice wa n wcp, .bool en] 32) = W3 := ⟨_, rfl⟩
  have R3 := hide (show W3.rowIs w2.heap.size 32 3 (lrow [.slice sa k sc, .slice wa n wcp, .bool en]) from by rw [← hW3]; exact rowL_alloc w2 [.slice sa k sc, .slice wa n wcp, .bool en] _ rfl)
  have B23 := hide (show Below w2.heap.size w2 W3 from by rw [← hW3]; exact (Below.refl _ w2).alloc (Nat.le_refl _) _)
  have B3 := hide (B2.out.trans (B23.out.mono B2.out.size))
  clear s02
  go_upto_region 4 with (fail)
  try rw [hW3]
  clear hW3
  obtain ⟨Bw3, l1, c0, c1, c2, c3, c4, c5, c6, c7, c8, c9⟩ := keep.out W3 B3.out
  have HBw3 := hide Bw3
  clear Bw3 c0 c1 c2 c3 c4 c8 c9
  by_cases he : er = 0
  · subst he
    obtain ⟨SE1, e5⟩ := SEv.out
    obtain ⟨⟨h1, h2⟩, hPn, hm0, hnh, hjn, hok, hk, hm, hn, SS, SA⟩ := SE1 rfl
    have e5 := e5 rfl
    subst e5
    subst hm
    have hJ : Jok r P := fun h hh j hj => ⟨hok h hh j hj, HJW.out h hh j hj⟩
    obtain ⟨m0, hm0'⟩ : ∃ m0, most.toNat = m0 := ⟨_, rfl⟩
    rw [hm0'] at hm0 hk SS SA
    have hK65 : k ≤ 65536 := by rw [hk]; have := (runSt_k P (st0 (kTally r) P f0) rfl m0).1; show (runSt P (st0 (kTally r) P f0) m0).k ≤ 65536; omega
    have LST := hide (fun (i : Nat) (hi : i < k) (L : Lb) (T : Tv r P (rn r P f0 i).f (rn r P f0 i).done (rn r P f0 i).cur L) => law_tv h1 h2 hPn hJ (m := m0) (i := i) (by rw [← hk]; exact hi) T)
    have TV0 := hide (tv_start (P := P) h1 hJ HF0.out)
    have SSh := hide (fun (i : Nat) (hi : i < k) (wr : World) (hb : Below W3.heap.size W3 wr) => show ∃ b off, sa = some ⟨b, off, none⟩ ∧ b < wr.heap.size ∧ ∀ q, q < 6 → wr.cell? ⟨b, off + i * 6 + q, none⟩ = some (((rn r P f0 m0).s i).cell q) from by
      obtain ⟨b, off, e, l, c⟩ := SS i (by rw [← hk]; exact hi)
      have hb2 := B23.out.trans (hb.mono B23.out.size)
      exact ⟨b, off, e, Nat.lt_of_lt_of_le l hb2.size, fun q hq => (hb2.cell (p := ⟨b, off + i * 6 + q, none⟩) l).trans (c q hq)⟩)
    have HSA := hide SA
    have HRN := hide (And.intro h1 (And.intro h2 hPn))
    have HOKJ := hide hok
    have HNH := hide hnh
    have HJN := hide hjn
    have t0 : W3.cell? ⟨w2.heap.size, 0, none⟩ = some (.slice sa k sc) := R3.out.cell (i := 0) (by decide)
    have lt3 := R3.out.lt
    have HT0 := hide (show W3.cell? ⟨w2.heap.size, 0, none⟩ = some (.slice sa k sc) ∧ w2.heap.size < W3.heap.size from ⟨t0, lt3⟩)
    have HS3 := hide ((HS0.out.below HBw3.out (Nat.le_refl _)).mono HBw3.out.size)
    have nb : P.n ≤ 128 := by omega
    have hmk := run_make_z (P := Try.prog) 26 3 _ 1 8 Try.underlying26 infoI P.nh (by omega) (by omega)
    have hmu := run_make_z (P := Try.prog) 24 36 _ 1 8 Try.underlying24 info46 P.nh (by omega) (by omega)
    simp only [Nat.mul_one] at hmk hmu
    obtain ⟨i46, hi46, hz46, hs46, hy46⟩ := info46e
    clear SE1 SEv SS SA hok hjn hk hm0 hm0' hJ hPn hn HJW h1 h2 HS0 t0 lt3
    go_upto_region 7 with (first
      | (at_builtin; refine wpList_append_opt rfl (.tmp 40) (.tmp 42) 24 rfl W3.heap.size 36 i46 (.int .u64 0) 1 8 Try.underlying24 hi46 hz46 hs46 hy46 rfl (by decide) (.slice (some ⟨W3.heap.size, 0, none⟩) 0 0) 0 [] rfl (by have := World.ownsRow_lit (base := W3.heap.size) (e := 36) (size := 1) W3 #[] 0 (by simp) (by unfold maxLen; omega) rfl; simpa using this) ao P.n cap (wordCells P.n f0) rfl HNIL.out (by simp [wordCells]) (Sees.news (HS3.out.alloc _)) (wordCells_one P.n f0) (by unfold maxLen; omega) (by omega) (by simp) ?_; intro v4 w4 hown4 hgrow4 hnn; rw [Nat.zero_add, List.nil_append] at hown4; obtain ⟨gw, cw, rfl, row4, hg4⟩ := owned_row hown4 (fun he => by have := hnn he; cases this) HF0.out; have B34 := hide (show Below W3.heap.size W3 w4 from ((Below.refl _ W3).alloc (Nat.le_refl _) (.cells #[] 36)).grown hgrow4 (by simp) (by simp [Value.ownBlock])); have R4 := hide row4; clear hown4 hgrow4 hnn row4))
    have B04 := hide (B3.out.trans (B34.out.mono B3.out.size))
    have KA := hide (fun (w' : World) (hb : Below w4.heap.size w4 w') => (keep.out w' (B04.out.trans (hb.mono B04.out.size))))
    have a0 : Below w4.heap.size w4 w4 := Below.refl _ _
    have a1 := a0.alloc (Nat.le_refl _) (.cells (madeCells #[.int .i64 0] P.nh) 3)
    have a2 := a1.alloc (by simp only [World.size_alloc]; omega) (.cells (madeCells #[.int .i64 0] P.nh) 3)
    have a3 := a2.alloc (by simp only [World.size_alloc]; omega) (.cells (madeCells #[.int .u64 0] P.nh) 36)
    obtain ⟨-, m0l, -, -, -, -, -, -, -, m07, -, -⟩ := KA.out _ a0
    obtain ⟨-, m1l, -, -, -, -, -, -, -, m17, -, -⟩ := KA.out _ a1
    obtain ⟨-, m2l, -, -, -, -, -, -, -, m27, -, -⟩ := KA.out _ a2
    obtain ⟨-, m3l, -, -, -, -, -, -, -, m37, -, -⟩ := KA.out _ a3
    clear a0 a1 a2 a3 c5 c6 c7 l1
    go_upto_region 11 with (fail)
    have LM0 := hide (show ∃ blk c, Tm (mk4 w4 P.nh) W3.heap.size gw w4.heap.size (w4.heap.size + 1) (w4.heap.size + 2) (w4.heap.size + 3) cw P.n P.nh f0 (fun _ => 0) (fun _ => 0) (fun _ => 0) (fun _ => 0) blk c from by
      obtain ⟨q1, q2, ⟨F, q3, q4⟩, q5⟩ := R4.out
      exact tm_start q3 hg4 q1 q4)
    have B5 := hide (B34.out.trans ((mk4_below w4 P.nh).mono B34.out.size))
    obtain ⟨W5, hW5⟩ : ∃ W5, mk4 w4 P.nh = W5 := ⟨_, rfl⟩
    rw [hW5] at LM0 B5
    unfold mk4 at hW5
    rw [hW5]
    obtain ⟨base, hbase⟩ : ∃ base, W3.heap.size = base := ⟨_, rfl⟩
    rw [hbase] at LM0
    have HBA := hide hbase
    clear hW5 hmk hmu m0l m1l m2l m3l m07 m17 m27 m37 R4 hg4 KA hbase
    obtain ⟨gc, hgc⟩ : ∃ gc, w4.heap.size + 3 = gc := ⟨_, rfl⟩
    obtain ⟨gl, hgl⟩ : ∃ gl, w4.heap.size + 2 = gl := ⟨_, rfl⟩
    obtain ⟨gm, hgm⟩ : ∃ gm, w4.heap.size + 1 = gm := ⟨_, rfl⟩
    obtain ⟨gj, hgj⟩ : ∃ gj, w4.heap.size = gj := ⟨_, rfl⟩
    rw [hgc, hgl, hgm, hgj] at LM0
    have LP0 := hide (show Lp r P f0 base gw gj gm gl gc cw 0 true W5 from by
      obtain ⟨blk, c, M⟩ := LM0.out
      exact ⟨lb0, fun _ => 0, blk, c, TV0.out, rfl, fun _ _ => rfl, fun _ => ⟨Nat.le_refl 0, Nat.le_refl 0⟩, M⟩)
    have z1 : w4.heap.size + 1 + 1 = gl := by omega
    have z2 : w4.heap.size + 1 + 1 + 1 = gc := by omega
    try rw [z2]
    try rw [z1]
    try rw [hgm]
    try rw [hgj]
    clear hgj hgm hgl hgc z1 z2 LM0 TV0
    go_wp2_with fail
    go_loopw [11, 12] (fun v11 v12 wr => ∃ (i : Nat) (sm : Bool), i ≤ k ∧ v12 = .int .i64 (i : Int) ∧ v11 = .bool sm ∧ Lp r P f0 base gw gj gm gl gc cw i sm wr ∧ Below W3.heap.size W3 wr) (fun _ v12 _ => k - (intOf v12).toNat)
    case atStart => exact ⟨0, true, Nat.zero_le _, rfl, rfl, LP0.out, B5.out⟩
    case round =>
      as_aux_lemma =>
        clear LP0 B5
        obtain ⟨i, sm, hi, rfl, rfl, hp, hb⟩ := hrel
        have HB := hide hb
        have HP := hide hp
        obtain ⟨W4, hW4⟩ : ∃ W4, W4 = wr := ⟨_, rfl⟩
        subst hW4
        obtain ⟨Bw4, l1, -, -, -, -, -, c5, -, c7, -, -⟩ := keep.out W4 (B3.out.trans (hb.mono B3.out.size))
        have HBw4 := hide Bw4
        have lt3 : w2.heap.size < W4.heap.size := Nat.lt_of_lt_of_le HT0.out.2 hb.size
        have t0 := (hb.cell (p := ⟨w2.heap.size, 0, none⟩) HT0.out.2).trans HT0.out.1
        clear hb hp Bw4
        by_cases hlt : i < k
        · have hlt' : (i : Int) < k := by omega
          obtain ⟨b, off, rfl, lb, cs⟩ := SSh.out i hlt W4 HB.out
          obtain ⟨L, job, blk, c, T, hsm, hjob, hbd, M⟩ := HP.out
          obtain ⟨h, en', Q⟩ := LST.out i hlt L T
          obtain ⟨x, hx⟩ : ∃ x, (rn r P f0 m0).s i = x := ⟨_, rfl⟩
          rw [hx] at cs Q
          have HQ := hide Q
          have HM := hide M
          have HBD := hide hbd
          have HSM := hide hsm
          have p0 := cs 0 (by decide)
          have p1 := cs 1 (by decide)
          have p2 := cs 2 (by decide)
          have p3 := cs 3 (by decide)
          have p4 := cs 4 (by decide)
          have p5 := cs 5 (by decide)
          have hxh := Q.hand
          have xlo := Q.w.lo
          have xhi := Q.w.hi
          have hnh := Q.hh
          have hjd := Q.hd
          have ej := hjob h Q.hh
          rw [← ej] at hjd
          have HEJ := hide ej
          have HJB := hide hjob
          obtain ⟨jq, hjq⟩ : ∃ jq, job h = jq := ⟨_, rfl⟩
          have HJQ := hide hjq
          obtain ⟨xh, xa, xt, xd, xp, xo⟩ := x
          simp only [Stp.cell, Nat.add_zero] at p0 p1 p2 p3 p4 p5 hxh xlo xhi
          subst hxh
          have c10 : W4.cell? ⟨gj, h, none⟩ = some (.int .i64 (jq : Int)) := by rw [← hjq]; exact M.rowj.cell hnh
          have l10 := M.rowj.lt
          rw [hjq] at hjd
          obtain ⟨bh, oh, av, cv, rfl, lh, ch, SJ⟩ := ((HSH.out.below HBw4.out (Nat.le_refl _)).up HBw4.out.size) h hnh
          obtain ⟨bj, oj, rfl, lj, cj⟩ := SJ jq hjd
          have j0 := cj 0 (by decide)
          have j1 := cj 1 (by decide)
          have j2 := cj 2 (by decide)
          have j3 := cj 3 (by decide)
          have j4 := cj 4 (by decide)
          obtain ⟨jb, hjb⟩ : ∃ jb, P.jb h jq = jb := ⟨_, rfl⟩
          rw [hjb] at j0 j1 j2 j3 j4
          have HJ := hide hjb
          obtain ⟨kk, ka, kb, kc, kh⟩ := jb
          simp only [Jb.cell, Nat.add_zero] at j0 j1 j2 j3 j4
          have hnh' : (h : Int) < P.nh := by omega
          have hjd' : (jq : Int) < P.jn h := by omega
          have d1 : decide ((h : Int) < 0) = false := by simp
          have d2 : decide ((P.nh : Int) ≤ (h : Int)) = false := by simp; omega
          have d3 : decide ((P.jn h : Int) ≤ (jq : Int)) = false := by simp; omega
          have d4 : ¬ ((P.nh : Int) ≤ (h : Int)) := by omega
          have d5 : ¬ ((P.jn h : Int) ≤ (jq : Int)) := by omega
          have d6 : ¬ ((h : Int) < 0) := by omega
          have d7 : ¬ P.nh ≤ h := by omega
          have d8 : ¬ P.jn h ≤ jq := by omega
          have d9 : ¬ (xt < 0) := by omega
          have d10 : ¬ ((P.n : Int) ≤ xt) := by omega
          have d11 : decide (xt < 0) = false := by simp; omega
          have d12 : decide ((P.n : Int) ≤ xt) = false := by simp; omega
          clear cs hx Q M SJ cj ej hjob hjq hjb hbd hsm T
          obtain ⟨W5, hW5⟩ : ∃ W5, W4.alloc (.cells #[.int .i64 (h : Int), .int .i64 xa, .int .i64 xt, .int .u64 xd, .int .u64 xp, .bool xo] 38) = W5 := ⟨_, rfl⟩
          have B45 := hide (show Below W4.heap.size W4 W5 from by rw [← hW5]; exact (Below.refl _ W4).alloc (Nat.le_refl _) _)
          have R5 : W5.rowIs W4.heap.size 38 6 (lrow [.int .i64 (h : Int), .int .i64 xa, .int .i64 xt, .int .u64 xd, .int .u64 xp, .bool xo]) := by rw [← hW5]; exact rowL_alloc W4 [.int .i64 (h : Int), .int .i64 xa, .int .i64 xt, .int .u64 xd, .int .u64 xp, .bool xo] _ rfl
          have HR5 := hide R5
          have up : ∀ p v, W4.cell? p = some v → p.block < W4.heap.size → W5.cell? p = some v := fun p v e l => (B45.out.cell l).trans e
          have e7 := up _ _ c7 l1
          have eh := up _ _ ch lh
          have i0 := up _ _ j0 lj
          have i1 := up _ _ j1 lj
          have i2 := up _ _ j2 lj
          have i3 := up _ _ j3 lj
          have i4 := up _ _ j4 lj
          have e10 := up _ _ c10 l10
          have y0 : W5.cell? ⟨W4.heap.size, 0, none⟩ = some (.int .i64 (h : Int)) := R5.cell (i := 0) (by decide)
          have y2 : W5.cell? ⟨W4.heap.size, 2, none⟩ = some (.int .i64 xt) := R5.cell (i := 2) (by decide)
          have ly := R5.lt
          have z5 := B45.out.size
          have m10 : gj < W5.heap.size := by omega
          have mh : bh < W5.heap.size := by omega
          have mj : bj < W5.heap.size := by omega
          have m1 : w.heap.size < W5.heap.size := by omega
          clear up R5 z5
          go_upto_region 16 with (fail)
          try rw [hW5]
          clear hW5 p0 p1 p2 p3 p4 p5 t0 c7 ch j0 j1 j2 j3 j4 c10 l1 lh lj l10 lb c5 lt3
          go_cut [109] from 72 to 109 (fun v109 wx => v109 = .bool false ∧ ∃ m, wx = W5.drewN m)
          case first =>
            as_aux_lemma =>
              go_quiet (fail)
              go_wp2_with fail
              go_meet
              case rel => exact ⟨rfl, _, rfl⟩
          case rest =>
            as_aux_lemma =>
              obtain ⟨hu, m5, hm5⟩ := hcut
              subst hu
              clear d1 d2 d3 d4 d5 d6 d7 d8 d9 d10 d11 d12
              obtain ⟨W6, hW6⟩ : ∃ W6, W5.drewN m5 = W6 := ⟨_, rfl⟩
              have B56 := hide (show Below W5.heap.size W5 W6 from by rw [← hW6]; exact below_drewT (Below.refl _ W5) _)
              have up6 : ∀ p v, W5.cell? p = some v → p.block < W5.heap.size → W6.cell? p = some v := fun p v e l => (B56.out.cell l).trans e
              have e7 := up6 _ _ e7 m1
              have eh := up6 _ _ eh mh
              have i0 := up6 _ _ i0 mj
              have i1 := up6 _ _ i1 mj
              have i2 := up6 _ _ i2 mj
              have i3 := up6 _ _ i3 mj
              have i4 := up6 _ _ i4 mj
              have e10 := up6 _ _ e10 m10
              have y0 := up6 _ _ y0 ly
              have z6 := B56.out.size
              have n10 : gj < W6.heap.size := by omega
              have nh6 : bh < W6.heap.size := by omega
              have nj6 : bj < W6.heap.size := by omega
              have n1 : w.heap.size < W6.heap.size := by omega
              have ny : W4.heap.size < W6.heap.size := by omega
              rw [hW6] at hm5
              have hm5' := hm5.symm
              subst hm5'
              clear hm5
              have HR6 := hide (HR5.out.of_block (B56.out.block W4.heap.size HR5.out.lt))
              have B46 := hide (B45.out.trans (B56.out.mono B45.out.size))
              clear up6 hW6 z6 m10 mh mj m1 ly y2 m5 HR5
              go_upto_region 18 with (fail)
              go_cut [14] from 110 to 122 (fun v14 wx => v14 = .pointer (some ⟨W6.heap.size, 0, none⟩) ∧ wx = (W6.alloc (.cells #[.int .i64 kk, .int .i64 ka, .int .i64 kb, .int .i64 kc, .int .u64 kh] 41)).drew)
              case first =>
                as_aux_lemma =>
                  go_region
                  go_wp2_with fail
                  go_meet
                  case rel => exact ⟨rfl, rfl⟩
              case rest =>
                as_aux_lemma =>
                  obtain ⟨hu14, hw7⟩ := hcut
                  subst hu14
                  obtain ⟨W7, hW7⟩ : ∃ W7, (W6.alloc (.cells #[.int .i64 kk, .int .i64 ka, .int .i64 kb, .int .i64 kc, .int .u64 kh] 41)).drew = W7 := ⟨_, rfl⟩
                  rw [hW7] at hw7
                  have hw7' := hw7.symm
                  subst hw7'
                  clear hw7
                  obtain ⟨bJ, hbJ⟩ : ∃ bJ, W6.heap.size = bJ := ⟨_, rfl⟩
                  have B67 := hide (show Below W6.heap.size W6 W7 from by rw [← hW7]; exact ((Below.refl _ W6).alloc (Nat.le_refl _) _).drew)
                  have B47 := hide (B46.out.trans (B67.out.mono B46.out.size))
                  have C7 := hide (show Cx W7 base gw gj gm gl gc cw P.n P.nh (rn r P f0 i).f job L.made L.low L.chg W4.heap.size bJ (lrow [.int .i64 (h : Int), .int .i64 xa, .int .i64 xt, .int .u64 xd, .int .u64 xp, .bool xo]) (lrow [.int .i64 kk, .int .i64 ka, .int .i64 kb, .int .i64 kc, .int .u64 kh]) W4 from by
                    have J : W7.rowIs W6.heap.size 41 5 (lrow [.int .i64 kk, .int .i64 ka, .int .i64 kb, .int .i64 kc, .int .u64 kh]) := by rw [← hW7]; exact (rowL_alloc W6 [.int .i64 kk, .int .i64 ka, .int .i64 kb, .int .i64 kc, .int .u64 kh] _ rfl).drew
                    have lo := HM.out.lo
                    have l1 := HM.out.ltw
                    have l2 := HM.out.rowj.lt
                    have l3 := HM.out.rowm.lt
                    have l4 := HM.out.rowl.lt
                    have l5 := HM.out.rowc.lt
                    have l6 := B46.out.size
                    exact ⟨⟨blk, c, HM.out.below B47.out⟩, HR6.out.of_block (B67.out.block W4.heap.size HR6.out.lt), by rw [← hbJ]; exact J, B47.out.mono (by omega), ⟨by omega, by omega, by omega, by omega, by omega⟩, ⟨by omega, by omega, by omega, by omega, by omega⟩⟩)
                  try rw [hbJ]
                  have RUNK := hide (fun (wx : World) (hb : Below base W4 wx) => show Below w.heap.size w wx ∧ w.heap.size < wx.heap.size ∧ wx.cell? ⟨w.heap.size, 5, none⟩ = some (.int .i64 (r : Int)) ∧ wx.cell? ⟨w.heap.size, 7, none⟩ = some (.slice (some ⟨bh, oh, none⟩) P.nh caph) from by
                    have q := keep.out wx (B3.out.trans ((HB.out.trans (by rw [HBA.out]; exact hb)).mono B3.out.size))
                    exact ⟨q.1, q.2.1, q.2.2.2.2.2.2.2.1, q.2.2.2.2.2.2.2.2.2.1⟩)
                  clear hW7 hbJ e7 eh i0 i1 i2 i3 i4 e10 y0 n10 nh6 nj6 n1 ny B67 B46 B56 HR6 B45
                  obtain ⟨-, l1, c5, c7⟩ := RUNK.out W7 C7.out.b
                  have T1 := hide (total_ok (cap := cw) C7.out.ltw (fun q hq => (C7.out.cw' hq).1) HRN.out.2.2 HRN.out.2.1)
                  go_wp2_with fail
                  refine T1.out.mono ?_
                  rintro e w8 ⟨rfl, hw8⟩
                  obtain rfl := hw8.symm
                  clear T1 hw8
                  obtain ⟨n1, hn1⟩ : ∃ n1, tm (rn r P f0 i).f r = n1 := ⟨_, rfl⟩
                  obtain ⟨o1, ho1⟩ : ∃ o1, tf (rn r P f0 i).f r = o1 := ⟨_, rfl⟩
                  have HN1 := hide hn1
                  have HO1 := hide ho1
                  rw [hn1, ho1]
                  clear hn1 ho1
                  go_upto_region 20 with (fail)
                  go_cut [11] from 131 to 134 (fun v11 wx => v11 = .bool (sm && o1) ∧ wx = W7)
                  case first =>
                    as_aux_lemma =>
                      cases sm with
                      | true =>
                        go_wp2_with fail
                        go_meet
                        case rel => exact ⟨by simp, rfl⟩
                      | false =>
                        go_wp2_with fail
                        go_meet
                        case rel => exact ⟨by simp, rfl⟩
                  case rest =>
                    as_aux_lemma =>
                      obtain ⟨hu, hw⟩ := hcut
                      subst hu
                      have hw' := hw.symm
                      subst hw'
                      clear hw
                      obtain ⟨sm1, hsm1⟩ : ∃ sm1, (sm && o1) = sm1 := ⟨_, rfl⟩
                      have HSM1 := hide hsm1
                      rw [hsm1]
                      clear hsm1
                      have y0 : W7.cell? ⟨W4.heap.size, 0, none⟩ = some (.int .i64 (h : Int)) := C7.out.s.cell (i := 0) (by decide)
                      have ly := C7.out.s.lt
                      obtain ⟨cm, fm, lm⟩ := C7.out.cm hnh
                      obtain ⟨cl, fl, ll⟩ := C7.out.cl hnh
                      obtain ⟨cc, fc, lc⟩ := C7.out.cc hnh
                      obtain ⟨mh, hmh⟩ : ∃ mh, L.made h = mh := ⟨_, rfl⟩
                      have HMH := hide hmh
                      rw [hmh] at cm
                      have ne1 := C7.out.ne.1
                      have nS := C7.out.nS
                      obtain ⟨nS1, nS2, nS3, nS4, nS5⟩ := nS
                      have mb : (mh : Int) ≤ 65536 := by have := (HBD.out h).1; rw [hmh] at this; omega
                      clear hmh c5 c7 l1
                      go_upto_if 140 with (fail)
                      go_cut [] from 135 to 149 (fun wx => Cx wx base gw gj gm gl gc cw P.n P.nh (rn r P f0 i).f job L.made (if mh = 0 then upd L.low h n1 else L.low) (if mh = 0 then upd L.chg h 0 else L.chg) W4.heap.size bJ (lrow [.int .i64 (h : Int), .int .i64 xa, .int .i64 xt, .int .u64 xd, .int .u64 xp, .bool xo]) (lrow [.int .i64 kk, .int .i64 ka, .int .i64 kb, .int .i64 kc, .int .u64 kh]) W4)
                      case first =>
                        as_aux_lemma =>
                          by_cases z : mh = 0
                          · subst z
                            go_wp2_with fail
                            go_meet
                            case rel =>
                              simp only [if_true]
                              exact (C7.out.set_low h n1).set_chg h 0
                          · have z' : ((mh : Int) == 0) = false := by simp; omega
                            go_wp2_with fail
                            go_meet
                            case rel =>
                              rw [if_neg z, if_neg z]
                              exact C7.out
                      case rest =>
                        as_aux_lemma =>
                          obtain ⟨W8, hW8⟩ : ∃ W8, W8 = wc := ⟨_, rfl⟩
                          subst hW8
                          obtain ⟨low1, hlow1⟩ : ∃ low1, (if mh = 0 then upd L.low h n1 else L.low) = low1 := ⟨_, rfl⟩
                          obtain ⟨chg1, hchg1⟩ : ∃ chg1, (if mh = 0 then upd L.chg h 0 else L.chg) = chg1 := ⟨_, rfl⟩
                          rw [hlow1, hchg1] at hcut
                          have HLOW1 := hide hlow1
                          have HCHG1 := hide hchg1
                          have C8 := hide hcut
                          have y0 : W8.cell? ⟨W4.heap.size, 0, none⟩ = some (.int .i64 (h : Int)) := hcut.s.cell (i := 0) (by decide)
                          have ly := hcut.s.lt
                          obtain ⟨cm, fm, lm⟩ := hcut.cm hnh
                          rw [HMH.out] at cm
                          clear hlow1 hchg1 hcut cl fl ll cc fc lc
                          go_upto_region 25 with (fail)
                          obtain ⟨W9, hW9⟩ : ∃ W9, W8.setCell ⟨gm, h, none⟩ (.int .i64 ((mh : Int) + 1)) = W9 := ⟨_, rfl⟩
                          have C9 := hide (show Cx W9 base gw gj gm gl gc cw P.n P.nh (rn r P f0 i).f job (upd L.made h (mh + 1)) low1 chg1 W4.heap.size bJ (lrow [.int .i64 (h : Int), .int .i64 xa, .int .i64 xt, .int .u64 xd, .int .u64 xp, .bool xo]) (lrow [.int .i64 kk, .int .i64 ka, .int .i64 kb, .int .i64 kc, .int .u64 kh]) W4 from by
                            have q := C8.out.set_made h (mh + 1)
                            rw [show (((mh + 1 : Nat) : Int)) = (mh : Int) + 1 by omega, hW9] at q
                            exact q)
                          try rw [hW9]
                          clear hW9 C8 C7 cm fm lm y0 ly nS1 nS2 nS3 nS4 nS5 ne1
                          obtain ⟨hits, hhits⟩ : ∃ hits : Nat → Bool, (fun q => decide (hit r P (rn r P f0 i).done h ⟨(h : Int), xa, xt, xd, xp, xo⟩ q)) = hits := ⟨_, rfl⟩
                          have HHT := hide (show ∀ q, hits q = decide (hit r P (rn r P f0 i).done h ⟨(h : Int), xa, xt, xd, xp, xo⟩ q) from fun q => by rw [← hhits])
                          clear hhits
                          go_wp2_with fail
                          go_loopw [17] (fun v17 wr => ∃ q : Nat, q ≤ P.nh ∧ v17 = .int .i64 (q : Int) ∧ Cx wr base gw gj gm gl gc cw P.n P.nh (rn r P f0 i).f job (upd L.made h (mh + 1)) low1 (cqf hits chg1 q) W4.heap.size bJ (lrow [.int .i64 (h : Int), .int .i64 xa, .int .i64 xt, .int .u64 xd, .int .u64 xp, .bool xo]) (lrow [.int .i64 kk, .int .i64 ka, .int .i64 kb, .int .i64 kc, .int .u64 kh]) W4) (fun v17 _ => P.nh - (intOf v17).toNat)
                          case atStart => exact ⟨0, Nat.zero_le _, rfl, by rw [cqf_0]; exact C9.out⟩
                          case round =>
                            as_aux_lemma =>
                              clear C9
                              obtain ⟨q, hq, rfl, hC⟩ := hrel
                              have CQ := hide hC
                              obtain ⟨Wq, hWq⟩ : ∃ Wq, Wq = wr := ⟨_, rfl⟩
                              subst hWq
                              obtain ⟨Bwq, l1, c5, c7⟩ := RUNK.out Wq hC.b
                              have HBwq := hide Bwq
                              clear hC Bwq
                              by_cases hlq : q < P.nh
                              · have hlq' : (q : Int) < P.nh := by omega
                                obtain ⟨bh', oh', avq, cvq, eq', lhq, chq, SJq⟩ := ((HSH.out.below HBwq.out (Nat.le_refl _)).up HBwq.out.size) q hlq
                                cases eq'
                                have y0 : Wq.cell? ⟨W4.heap.size, 0, none⟩ = some (.int .i64 (h : Int)) := CQ.out.s.cell (i := 0) (by decide)
                                have y2 : Wq.cell? ⟨W4.heap.size, 2, none⟩ = some (.int .i64 xt) := CQ.out.s.cell (i := 2) (by decide)
                                have y3 : Wq.cell? ⟨W4.heap.size, 3, none⟩ = some (.int .u64 xd) := CQ.out.s.cell (i := 3) (by decide)
                                have y4 : Wq.cell? ⟨W4.heap.size, 4, none⟩ = some (.int .u64 xp) := CQ.out.s.cell (i := 4) (by decide)
                                have ly := CQ.out.s.lt
                                obtain ⟨cjq, fjq, ljq⟩ := CQ.out.cj hlq
                                obtain ⟨jqq, hjqq⟩ : ∃ jqq, job q = jqq := ⟨_, rfl⟩
                                have HJQQ := hide (show (rn r P f0 i).done q = jqq from by rw [← HJB.out q hlq]; exact hjqq)
                                rw [hjqq] at cjq
                                have HV := hide (HHT.out q)
                                obtain ⟨hv, hhv⟩ : ∃ hv, hits q = hv := ⟨_, rfl⟩
                                rw [hhv] at HV
                                have HHV := hide hhv
                                have HSJ := hide SJq
                                clear hjqq hhv fjq SJq
                                go_upto_region 28 with (fail)
                                go_cut [223] from 164 to 223 (fun v223 wx => v223 = .bool hv ∧ ∃ m, wx = Wq.drewN m)
                                case first =>
                                  as_aux_lemma =>
                                    by_cases eqh : q = h
                                    · have b1 : ((q : Int) != (h : Int)) = false := by simp; omega
                                      have hv0 : hv = false := by rw [HV.out]; exact decide_eq_false (fun t => t.1 eqh)
                                      subst hv0
                                      subst eqh
                                      go_quiet (fail)
                                      go_wp2_with fail
                                      go_meet
                                      case rel => exact ⟨rfl, _, rfl⟩
                                    · have b1 : ((q : Int) != (h : Int)) = true := by simp; omega
                                      by_cases jl : jqq < P.jn q
                                      · have b2 : decide ((jqq : Int) < (P.jn q : Int)) = true := by simp; omega
                                        have jl' : (jqq : Int) < P.jn q := by omega
                                        obtain ⟨bq, oq, rfl, lbq, cbq⟩ := HSJ.out jqq jl
                                        have k0 := cbq 0 (by decide)
                                        have k1 := cbq 1 (by decide)
                                        obtain ⟨jb2, hjb2⟩ : ∃ jb2, P.jb q jqq = jb2 := ⟨_, rfl⟩
                                        rw [hjb2] at k0 k1
                                        obtain ⟨qk, qa, qb, qc, qh⟩ := jb2
                                        simp only [Jb.cell, Nat.add_zero] at k0 k1
                                        have HJ2 := hide hjb2
                                        clear cbq hjb2
                                        by_cases pd : xp = xd
                                        · have b3 : (xp != xd) = false := by simpa using pd
                                          have hv0 : hv = false := by rw [HV.out]; exact decide_eq_false (fun t => t.2.2.1 pd)
                                          subst hv0
                                          go_quiet (fail)
                                          go_wp2_with fail
                                          go_meet
                                          case rel => exact ⟨rfl, _, rfl⟩
                                        · have b3 : (xp != xd) = true := by simpa using pd
                                          by_cases k3 : qk = 3
                                          · subst k3
                                            have A := hide (show 0 ≤ qa ∧ qa < r from by
                                              have e := HOKJ.out q hlq jqq jl
                                              rw [HJ2.out] at e
                                              rcases jok_cases e with k | ⟨_, a⟩
                                              · exact absurd k (by show ¬ (3 : Int) = 2; decide)
                                              · exact a)
                                            have g1 : wrap64 ((r : Int) + qa) = (r : Int) + qa := by have := A.out; have := HRN.out.2.1; unfold wrap64; omega
                                            by_cases at1 : xt = (r : Int) + qa
                                            · have hv1 : hv = true := by
                                                rw [HV.out]
                                                exact decide_eq_true ⟨eqh, by rw [HJQQ.out]; exact jl, pd, by rw [HJQQ.out, HJ2.out], by rw [HJQQ.out, HJ2.out]; exact at1⟩
                                              subst hv1
                                              subst at1
                                              go_quiet (fail)
                                              go_wp2_with fail
                                              go_meet
                                              case rel => exact ⟨rfl, _, rfl⟩
                                            · have b5 : (xt == (r : Int) + qa) = false := by simpa using at1
                                              have hv0 : hv = false := by
                                                rw [HV.out]
                                                refine decide_eq_false (fun t => at1 ?_)
                                                have := t.2.2.2.2
                                                rw [HJQQ.out, HJ2.out] at this
                                                exact this
                                              subst hv0
                                              go_quiet (fail)
                                              go_wp2_with fail
                                              go_meet
                                              case rel => exact ⟨rfl, _, rfl⟩
                                          · have b4 : (qk == 3) = false := by simpa using k3
                                            have hv0 : hv = false := by
                                              rw [HV.out]
                                              refine decide_eq_false (fun t => k3 ?_)
                                              have := t.2.2.2.1
                                              rw [HJQQ.out, HJ2.out] at this
                                              exact this
                                            subst hv0
                                            go_quiet (fail)
                                            go_wp2_with fail
                                            go_meet
                                            case rel => exact ⟨rfl, _, rfl⟩
                                      · have b2 : decide ((jqq : Int) < (P.jn q : Int)) = false := by simp; omega
                                        have b2' : ¬ (jqq : Int) < P.jn q := by omega
                                        have hv0 : hv = false := by rw [HV.out]; exact decide_eq_false (fun t => jl (by have := t.2.1; rw [HJQQ.out] at this; exact this))
                                        subst hv0
                                        go_quiet (fail)
                                        go_wp2_with fail
                                        go_meet
                                        case rel => exact ⟨rfl, _, rfl⟩
                                case rest =>
                                  as_aux_lemma =>
                                    obtain ⟨hu, mq, hmq⟩ := hcut
                                    subst hu
                                    obtain ⟨Wr, hWr⟩ : ∃ Wr, Wq.drewN mq = Wr := ⟨_, rfl⟩
                                    have CR := hide (show Cx Wr base gw gj gm gl gc cw P.n P.nh (rn r P f0 i).f job (upd L.made h (mh + 1)) low1 (cqf hits chg1 q) W4.heap.size bJ (lrow [.int .i64 (h : Int), .int .i64 xa, .int .i64 xt, .int .u64 xd, .int .u64 xp, .bool xo]) (lrow [.int .i64 kk, .int .i64 ka, .int .i64 kb, .int .i64 kc, .int .u64 kh]) W4 from by rw [← hWr]; exact CQ.out.drewN mq)
                                    rw [hWr] at hmq
                                    have hmq' := hmq.symm
                                    subst hmq'
                                    clear hmq hWr cjq ljq chq lhq y0 y2 y3 y4 ly c5 c7 l1
                                    obtain ⟨ccq, fcq, lcq⟩ := CR.out.cc hlq
                                    rw [cqf_at] at ccq
                                    have cb : (chg1 q : Int) ≤ 65536 := by
                                      have a := (HBD.out q).2
                                      rw [← HCHG1.out]
                                      split
                                      · by_cases eqh : q = h
                                        · subst eqh; rw [upd_same]; omega
                                        · rw [upd_other _ _ eqh]; omega
                                      · omega
                                    cases hv with
                                    | true =>
                                      go_wp2_with fail
                                      go_roundw
                                      case rel =>
                                        have z := CR.out.set_chg q (chg1 q + 1)
                                        rw [cqf_yes HHV.out] at z
                                        exact ⟨q + 1, hlq, viT, by simpa using z⟩
                                      case measure => exact measT hlq
                                    | false =>
                                      go_wp2_with fail
                                      go_roundw
                                      case rel => exact ⟨q + 1, hlq, viT, by rw [← cqf_no HHV.out]; exact CR.out⟩
                                      case measure => exact measT hlq
                              · as_aux_lemma =>
                                  have eq' : q = P.nh := by omega
                                  subst eq'
                                  obtain ⟨ai, hai⟩ : ∃ ai : Nat, xt = (ai : Int) := ⟨xt.toNat, by omega⟩
                                  have hai2 : ai < P.n := by omega
                                  have HAI := hide (And.intro hai hai2)
                                  have y2 : Wq.cell? ⟨W4.heap.size, 2, none⟩ = some (.int .i64 (ai : Int)) := by rw [← hai]; exact CQ.out.s.cell (i := 2) (by decide)
                                  have y4 : Wq.cell? ⟨W4.heap.size, 4, none⟩ = some (.int .u64 xp) := CQ.out.s.cell (i := 4) (by decide)
                                  have ly := CQ.out.s.lt
                                  obtain ⟨cwa, fwa, lwa⟩ := CQ.out.cw' hai2
                                  have ai' : (ai : Int) < P.n := by omega
                                  obtain ⟨W11, hW11⟩ : ∃ W11, Wq.setCell ⟨gw, ai, none⟩ (.int .u64 xp) = W11 := ⟨_, rfl⟩
                                  have C11 := hide (show Cx W11 base gw gj gm gl gc cw P.n P.nh (rn r P f0 (i + 1)).f job (upd L.made h (mh + 1)) low1 (cqf hits chg1 P.nh) W4.heap.size bJ (lrow [.int .i64 (h : Int), .int .i64 xa, .int .i64 xt, .int .u64 xd, .int .u64 xp, .bool xo]) (lrow [.int .i64 kk, .int .i64 ka, .int .i64 kb, .int .i64 kc, .int .u64 kh]) W4 from by
                                    have z := CQ.out.set_w ai xp
                                    rw [hW11] at z
                                    have e := HQ.out.w.wds
                                    have e2 : (⟨(h : Int), xa, xt, xd, xp, xo⟩ : Stp).at_.toNat = ai := by show xt.toNat = ai; omega
                                    rw [e2] at e
                                    rw [e]
                                    exact z)
                                  clear hai CQ
                                  go_upto_region 31 with (fail)
                                  try rw [hW11]
                                  clear hW11 y2 y4 ly cwa fwa lwa c5 c7 l1
                                  obtain ⟨-, l1, c5, c7⟩ := RUNK.out W11 C11.out.b
                                  have T2 := hide (total_ok (cap := cw) C11.out.ltw (fun q hq => (C11.out.cw' hq).1) HRN.out.2.2 HRN.out.2.1)
                                  go_wp2_with fail
                                  refine T2.out.mono ?_
                                  rintro e w12 ⟨rfl, hw12⟩
                                  obtain rfl := hw12.symm
                                  clear T2 hw12
                                  obtain ⟨n2, hn2⟩ : ∃ n2, tm (rn r P f0 (i + 1)).f r = n2 := ⟨_, rfl⟩
                                  obtain ⟨o2, ho2⟩ : ∃ o2, tf (rn r P f0 (i + 1)).f r = o2 := ⟨_, rfl⟩
                                  have HN2 := hide hn2
                                  have HO2 := hide ho2
                                  rw [hn2, ho2]
                                  clear hn2 ho2
                                  have y1 : W11.cell? ⟨W4.heap.size, 1, none⟩ = some (.int .i64 xa) := C11.out.s.cell (i := 1) (by decide)
                                  have y3 : W11.cell? ⟨W4.heap.size, 3, none⟩ = some (.int .u64 xd) := C11.out.s.cell (i := 3) (by decide)
                                  have y4 : W11.cell? ⟨W4.heap.size, 4, none⟩ = some (.int .u64 xp) := C11.out.s.cell (i := 4) (by decide)
                                  have ly := C11.out.s.lt
                                  obtain ⟨sm2, hsm2⟩ : ∃ sm2, (sm1 && o2 && (decide (¬ xa = 4) || decide (xd ≤ xp))) = sm2 := ⟨_, rfl⟩
                                  have HSM2 := hide hsm2
                                  clear hsm2
                                  go_upto_region 32 with (fail)
                                  go_cut [11] from 244 to 259 (fun v11 wx => v11 = .bool sm2 ∧ wx = W11)
                                  case first =>
                                    as_aux_lemma =>
                                      cases sm1 with
                                      | false =>
                                        have e : sm2 = false := by rw [← HSM2.out]; simp
                                        subst e
                                        go_wp2_with fail
                                        go_meet
                                        case rel => exact ⟨rfl, rfl⟩
                                      | true =>
                                        cases o2 with
                                        | false =>
                                          have e : sm2 = false := by rw [← HSM2.out]; simp
                                          subst e
                                          go_wp2_with fail
                                          go_meet
                                          case rel => exact ⟨rfl, rfl⟩
                                        | true =>
                                          by_cases a4 : xa = 4
                                          · subst a4
                                            by_cases dp : xd ≤ xp
                                            · have e : sm2 = true := by rw [← HSM2.out]; simp [dp]
                                              subst e
                                              go_wp2_with fail
                                              go_meet
                                              case rel => exact ⟨rfl, rfl⟩
                                            · have e : sm2 = false := by rw [← HSM2.out]; simp [dp]
                                              subst e
                                              go_wp2_with fail
                                              go_meet
                                              case rel => exact ⟨rfl, rfl⟩
                                          · have a4' : (xa != 4) = true := by simpa using a4
                                            have e : sm2 = true := by rw [← HSM2.out]; simp [a4]
                                            subst e
                                            go_wp2_with fail
                                            go_meet
                                            case rel => exact ⟨rfl, rfl⟩
                                  case rest =>
                                    as_aux_lemma =>
                                      obtain ⟨hu, hw⟩ := hcut
                                      subst hu
                                      have hw' := hw.symm
                                      subst hw'
                                      clear hw y3 y4 c5 c7
                                      have EL := hide (show (L.one r (rn r P f0 i).f h).two r P (rn r P f0 (i + 1)).f (rn r P f0 i).done h ⟨(h : Int), xa, xt, xd, xp, xo⟩ = (⟨upd L.made h (mh + 1), low1, cqf hits chg1 P.nh, sm2⟩ : Lb) from by
                                        have e1 : L.one r (rn r P f0 i).f h = ⟨upd L.made h (mh + 1), low1, chg1, sm1⟩ := by
                                          unfold Lb.one
                                          rw [HMH.out, HN1.out, HO1.out, HSM.out, HLOW1.out, HCHG1.out, HSM1.out]
                                        have e2 : (fun q => if q < P.nh ∧ hit r P (rn r P f0 i).done h ⟨(h : Int), xa, xt, xd, xp, xo⟩ q then chg1 q + 1 else chg1 q) = cqf hits chg1 P.nh := by
                                          funext q
                                          unfold cqf
                                          rw [HHT.out q]
                                          by_cases c : q < P.nh ∧ hit r P (rn r P f0 i).done h ⟨(h : Int), xa, xt, xd, xp, xo⟩ q
                                          · rw [if_pos c, if_pos ⟨c.1, decide_eq_true c.2⟩]
                                          · rw [if_neg c, if_neg (fun t => c ⟨t.1, of_decide_eq_true t.2⟩)]
                                        rw [e1]
                                        unfold Lb.two
                                        simp only
                                        rw [e2, HO2.out, HSM2.out])
                                      have KD := hide (show kk = 1 ∨ kk = 2 ∨ kk = 3 from by have := HQ.out.kd; rw [← HEJ.out, HJQ.out, HJ.out] at this; exact this)
                                      obtain ⟨ch2, hch2⟩ : ∃ ch2, cqf hits chg1 P.nh h = ch2 := ⟨_, rfl⟩
                                      have TRY := hide (show kk = 3 → mh + 1 ≤ 2 * ch2 + 2 from fun k3 => by
                                        have := HQ.out.tries
                                        rw [← HEJ.out, HJQ.out, HJ.out, EL.out] at this
                                        have t := this k3
                                        simp only [upd_same] at t
                                        rw [hch2] at t
                                        exact t)
                                      have ENDS := hide (show en' = (decide (kk = 1) || (decide (kk = 2) && decide (mh + 1 = r)) || (decide (kk = 3) && ((decide (xa = 5) && xo) || (decide (xa = 1) && decide (kh ≤ xd))))) from by
                                        have := HQ.out.ends
                                        rw [← HEJ.out, HJQ.out, HJ.out, HMH.out] at this
                                        exact this)
                                      have chb : (ch2 : Int) ≤ 65537 := by
                                        rw [← hch2]
                                        have a := (HBD.out h).2
                                        have b : chg1 h ≤ i := by
                                          rw [← HCHG1.out]
                                          split
                                          · rw [upd_same]; omega
                                          · exact a
                                        unfold cqf
                                        split <;> omega
                                      obtain ⟨-, l1, c5, -⟩ := RUNK.out W11 C11.out.b
                                      have y0 : W11.cell? ⟨W4.heap.size, 0, none⟩ = some (.int .i64 (h : Int)) := C11.out.s.cell (i := 0) (by decide)
                                      have k0 : W11.cell? ⟨bJ, 0, none⟩ = some (.int .i64 kk) := C11.out.j.cell (i := 0) (by decide)
                                      have lJ := C11.out.j.lt
                                      obtain ⟨cm, fm, lm⟩ := C11.out.cm hnh
                                      obtain ⟨cc, fc, lc⟩ := C11.out.cc hnh
                                      rw [upd_same] at cm
                                      have cm : W11.cell? ⟨gm, h, none⟩ = some (.int .i64 ((mh : Int) + 1)) := by rw [cm]; rfl
                                      rw [hch2] at cc
                                      clear hch2 fm fc
                                      go_upto_region 33 with (fail)
                                      go_cut [277] from 260 to 277 (fun v277 wx => v277 = .bool false ∧ ∃ m, wx = W11.drewN m)
                                      case first =>
                                        as_aux_lemma =>
                                          by_cases k3 : kk = 3
                                          · subst k3
                                            have t := TRY.out rfl
                                            have g1 : wrap64 (2 * (ch2 : Int)) = 2 * (ch2 : Int) := by unfold wrap64; omega
                                            have g2 : wrap64 (2 * (ch2 : Int) + 2) = 2 * (ch2 : Int) + 2 := by unfold wrap64; omega
                                            have d1 : decide (2 * (ch2 : Int) + 2 < (mh : Int) + 1) = false := by simp; omega
                                            have d2 : ¬ 2 * (ch2 : Int) + 2 < (mh : Int) + 1 := by omega
                                            clear t
                                            go_quiet (fail)
                                            go_wp2_with fail
                                            go_meet
                                            case rel => exact ⟨rfl, _, rfl⟩
                                          · have b1 : (kk == 3) = false := by simpa using k3
                                            go_quiet (fail)
                                            go_wp2_with fail
                                            go_meet
                                            case rel => exact ⟨rfl, _, rfl⟩
                                      case rest =>
                                        as_aux_lemma =>
                                          obtain ⟨hu, m12, hm12⟩ := hcut
                                          subst hu
                                          obtain ⟨W12, hW12⟩ : ∃ W12, W11.drewN m12 = W12 := ⟨_, rfl⟩
                                          have C12 := hide (show Cx W12 base gw gj gm gl gc cw P.n P.nh (rn r P f0 (i + 1)).f job (upd L.made h (mh + 1)) low1 (cqf hits chg1 P.nh) W4.heap.size bJ (lrow [.int .i64 (h : Int), .int .i64 xa, .int .i64 xt, .int .u64 xd, .int .u64 xp, .bool xo]) (lrow [.int .i64 kk, .int .i64 ka, .int .i64 kb, .int .i64 kc, .int .u64 kh]) W4 from by rw [← hW12]; exact C11.out.drewN m12)
                                          rw [hW12] at hm12
                                          have hm12' := hm12.symm
                                          subst hm12'
                                          clear hm12 hW12 cm lm cc lc y0 y1 k0 lJ c5 l1 ly C11
                                          obtain ⟨-, l1, c5, -⟩ := RUNK.out W12 C12.out.b
                                          have y0 : W12.cell? ⟨W4.heap.size, 0, none⟩ = some (.int .i64 (h : Int)) := C12.out.s.cell (i := 0) (by decide)
                                          have y1 : W12.cell? ⟨W4.heap.size, 1, none⟩ = some (.int .i64 xa) := C12.out.s.cell (i := 1) (by decide)
                                          have y3 : W12.cell? ⟨W4.heap.size, 3, none⟩ = some (.int .u64 xd) := C12.out.s.cell (i := 3) (by decide)
                                          have y5 : W12.cell? ⟨W4.heap.size, 5, none⟩ = some (.bool xo) := C12.out.s.cell (i := 5) (by decide)
                                          have ly := C12.out.s.lt
                                          have k0 : W12.cell? ⟨bJ, 0, none⟩ = some (.int .i64 kk) := C12.out.j.cell (i := 0) (by decide)
                                          have k4 : W12.cell? ⟨bJ, 4, none⟩ = some (.int .u64 kh) := C12.out.j.cell (i := 4) (by decide)
                                          have lJ := C12.out.j.lt
                                          obtain ⟨cm, fm, lm⟩ := C12.out.cm hnh
                                          rw [upd_same] at cm
                                          have cm : W12.cell? ⟨gm, h, none⟩ = some (.int .i64 ((mh : Int) + 1)) := by rw [cm]; rfl
                                          clear fm chb TRY
                                          go_upto_region 35 with (fail)
                                          go_cut [18] from 278 to 322 (fun v18 wx => v18 = .bool en' ∧ ∃ m, wx = W12.drewN m)
                                          case first =>
                                            as_aux_lemma =>
                                              rcases KD.out with rfl | rfl | rfl
                                              · have e : en' = true := by rw [ENDS.out]; simp
                                                subst e
                                                go_quiet (fail)
                                                go_wp2_with fail
                                                go_meet
                                                case rel => exact ⟨rfl, _, rfl⟩
                                              · by_cases mr : mh + 1 = r
                                                · have e : en' = true := by rw [ENDS.out]; simp [mr]
                                                  subst e
                                                  have b1 : ((mh : Int) + 1 == (r : Int)) = true := by simp; omega
                                                  go_quiet (fail)
                                                  go_wp2_with fail
                                                  go_meet
                                                  case rel => exact ⟨rfl, _, rfl⟩
                                                · have e : en' = false := by rw [ENDS.out]; simp [mr]
                                                  subst e
                                                  have b1 : ((mh : Int) + 1 == (r : Int)) = false := by simp; omega
                                                  go_quiet (fail)
                                                  go_wp2_with fail
                                                  go_meet
                                                  case rel => exact ⟨rfl, _, rfl⟩
                                              · by_cases a5 : xa = 5
                                                · subst a5
                                                  cases xo with
                                                  | true =>
                                                    have e : en' = true := by rw [ENDS.out]; simp
                                                    subst e
                                                    go_quiet (fail)
                                                    go_wp2_with fail
                                                    go_meet
                                                    case rel => exact ⟨rfl, _, rfl⟩
                                                  | false =>
                                                    have e : en' = false := by rw [ENDS.out]; simp
                                                    subst e
                                                    go_quiet (fail)
                                                    go_wp2_with fail
                                                    go_meet
                                                    case rel => exact ⟨rfl, _, rfl⟩
                                                · have b5 : (xa == 5) = false := by simpa using a5
                                                  by_cases a1 : xa = 1
                                                  · subst a1
                                                    by_cases hd' : kh ≤ xd
                                                    · have e : en' = true := by rw [ENDS.out]; simp [hd']
                                                      subst e
                                                      have b1 : decide (kh ≤ xd) = true := decide_eq_true hd'
                                                      go_quiet (fail)
                                                      go_wp2_with fail
                                                      go_meet
                                                      case rel => exact ⟨rfl, _, rfl⟩
                                                    · have e : en' = false := by rw [ENDS.out]; simp [hd']
                                                      subst e
                                                      have b1 : decide (kh ≤ xd) = false := decide_eq_false hd'
                                                      go_quiet (fail)
                                                      go_wp2_with fail
                                                      go_meet
                                                      case rel => exact ⟨rfl, _, rfl⟩
                                                  · have b1 : (xa == 1) = false := by simpa using a1
                                                    have e : en' = false := by rw [ENDS.out]; simp [a1, a5]
                                                    subst e
                                                    go_quiet (fail)
                                                    go_wp2_with fail
                                                    go_meet
                                                    case rel => exact ⟨rfl, _, rfl⟩
                                          case rest =>
                                            as_aux_lemma =>
                                              obtain ⟨hu, m13, hm13⟩ := hcut
                                              subst hu
                                              obtain ⟨W13, hW13⟩ : ∃ W13, W12.drewN m13 = W13 := ⟨_, rfl⟩
                                              have C13 := hide (show Cx W13 base gw gj gm gl gc cw P.n P.nh (rn r P f0 (i + 1)).f job (upd L.made h (mh + 1)) low1 (cqf hits chg1 P.nh) W4.heap.size bJ (lrow [.int .i64 (h : Int), .int .i64 xa, .int .i64 xt, .int .u64 xd, .int .u64 xp, .bool xo]) (lrow [.int .i64 kk, .int .i64 ka, .int .i64 kb, .int .i64 kc, .int .u64 kh]) W4 from by rw [← hW13]; exact C12.out.drewN m13)
                                              rw [hW13] at hm13
                                              have hm13' := hm13.symm
                                              subst hm13'
                                              clear hm13 hW13 cm lm y0 y1 y3 y5 ly k0 k4 lJ c5 l1 C12
                                              have BDN := hide (show ∀ q, upd L.made h (mh + 1) q ≤ i + 1 ∧ cqf hits chg1 P.nh q ≤ i + 1 from fun q => by
                                                have a := HBD.out q
                                                have a' := (HBD.out h).1
                                                rw [HMH.out] at a'
                                                refine ⟨?_, ?_⟩
                                                · by_cases e : q = h
                                                  · subst e; rw [upd_same]; omega
                                                  · rw [upd_other _ _ e]; omega
                                                · have b : chg1 q ≤ i := by
                                                    rw [← HCHG1.out]
                                                    split
                                                    · by_cases e : q = h
                                                      · subst e; rw [upd_same]; omega
                                                      · rw [upd_other _ _ e]; exact a.2
                                                    · exact a.2
                                                  unfold cqf
                                                  split <;> omega)
                                              cases en' with
                                              | false =>
                                                go_wp2_with fail
                                                go_roundw
                                                case rel =>
                                                  refine ⟨i + 1, sm2, hlt, viT, rfl, ?_, HB.out.trans (by rw [HBA.out]; exact C13.out.b)⟩
                                                  have T' := HQ.out.on
                                                  rw [EL.out] at T'
                                                  obtain ⟨blk', c', M'⟩ := C13.out.t
                                                  refine ⟨_, job, blk', c', T', rfl, fun q hq => ?_, BDN.out, M'⟩
                                                  rw [HQ.out.dn]
                                                  exact HJB.out q hq
                                                case measure => exact measT hlt
                                              | true =>
                                                obtain ⟨yd, vv⟩ := HQ.out.tl rfl
                                                rw [← HEJ.out, HJQ.out] at yd vv
                                                rw [HJ.out, EL.out, HN2.out] at vv
                                                obtain ⟨Bw13, -, -, -⟩ := RUNK.out W13 C13.out.b
                                                have B213 := hide (show Below w2.heap.size w2 W13 from B23.out.trans ((HB.out.trans (by rw [HBA.out]; exact C13.out.b)).mono B23.out.size))
                                                obtain ⟨ba, oa, av2, cv2, rfl, lba, ca, hA⟩ := ((HSA.out.below B213.out (Nat.le_refl _)).mono B213.out.size) h hnh
                                                obtain ⟨bb, ob, rfl, lbb, cb⟩ := hA jq yd
                                                have a1 := cb 1 (by decide)
                                                obtain ⟨an, han⟩ : ∃ an, (rn r P f0 m0).ans h jq = an := ⟨_, rfl⟩
                                                rw [han] at a1 vv
                                                obtain ⟨aok, avl⟩ := an
                                                simp only [Ans.cell] at a1 vv
                                                have VV := hide vv
                                                obtain ⟨dq, hdq⟩ : ∃ dq, (rn r P f0 m0).done h = dq := ⟨_, rfl⟩
                                                rw [hdq] at ca yd
                                                obtain ⟨cj, fj, lj⟩ := C13.out.cj hnh
                                                rw [HJQ.out] at cj
                                                obtain ⟨cl, fl, ll⟩ := C13.out.cl hnh
                                                have y0 : W13.cell? ⟨W4.heap.size, 0, none⟩ = some (.int .i64 (h : Int)) := C13.out.s.cell (i := 0) (by decide)
                                                have ly := C13.out.s.lt
                                                have k0 : W13.cell? ⟨bJ, 0, none⟩ = some (.int .i64 kk) := C13.out.j.cell (i := 0) (by decide)
                                                have lJ := C13.out.j.lt
                                                have yd' : (jq : Int) < dq := by omega
                                                have d1 : decide ((dq : Int) ≤ (jq : Int)) = false := by simp; omega
                                                have d2 : ¬ ((dq : Int) ≤ (jq : Int)) := by omega
                                                have jb6 : (jq : Int) ≤ 256 := by have := HJN.out h hnh; omega
                                                clear hA cb han hdq yd vv Bw13 fj fl
                                                go_upto_region 37 with (fail)
                                                go_cut [336] from 325 to 336 (fun v336 wx => v336 = .bool false ∧ ∃ m, wx = W13.drewN m)
                                                case first =>
                                                  as_aux_lemma =>
                                                    go_quiet (fail)
                                                    go_wp2_with fail
                                                    go_meet
                                                    case rel => exact ⟨rfl, _, rfl⟩
                                                case rest =>
                                                  as_aux_lemma =>
                                                    obtain ⟨hu, m14, hm14⟩ := hcut
                                                    subst hu
                                                    obtain ⟨W14, hW14⟩ : ∃ W14, W13.drewN m14 = W14 := ⟨_, rfl⟩
                                                    have C14 := hide (show Cx W14 base gw gj gm gl gc cw P.n P.nh (rn r P f0 (i + 1)).f job (upd L.made h (mh + 1)) low1 (cqf hits chg1 P.nh) W4.heap.size bJ (lrow [.int .i64 (h : Int), .int .i64 xa, .int .i64 xt, .int .u64 xd, .int .u64 xp, .bool xo]) (lrow [.int .i64 kk, .int .i64 ka, .int .i64 kb, .int .i64 kc, .int .u64 kh]) W4 from by rw [← hW14]; exact C13.out.drewN m14)
                                                    have B1314 := hide (show Below W13.heap.size W13 W14 from by rw [← hW14]; exact below_drewT (Below.refl _ _) _)
                                                    rw [hW14] at hm14
                                                    have hm14' := hm14.symm
                                                    subst hm14'
                                                    have z14 := B1314.out.size
                                                    have ca := (B1314.out.cell (p := ⟨ba, oa + h, none⟩) lba).trans ca
                                                    have a1 := (B1314.out.cell (p := ⟨bb, ob + jq * 2 + 1, none⟩) lbb).trans a1
                                                    have cj := (B1314.out.cell (p := ⟨gj, h, none⟩) lj).trans cj
                                                    have cl := (B1314.out.cell (p := ⟨gl, h, none⟩) ll).trans cl
                                                    have y0 := (B1314.out.cell (p := ⟨W4.heap.size, 0, none⟩) ly).trans y0
                                                    have k0 := (B1314.out.cell (p := ⟨bJ, 0, none⟩) lJ).trans k0
                                                    have lba : ba < W14.heap.size := by omega
                                                    have lbb : bb < W14.heap.size := by omega
                                                    have lj : gj < W14.heap.size := by omega
                                                    have ll : gl < W14.heap.size := by omega
                                                    have ly : W4.heap.size < W14.heap.size := by omega
                                                    have lJ : bJ < W14.heap.size := by omega
                                                    clear hm14 hW14 d1 d2 z14 C13
                                                    go_upto_region 39 with (fail)
                                                    go_cut [19] from 337 to 349 (fun v19 wx => v19 = .int .u64 avl ∧ ∃ m, wx = W14.drewN m)
                                                    case first =>
                                                      as_aux_lemma =>
                                                        go_quiet (fail)
                                                        go_wp2_with fail
                                                        go_meet
                                                        case rel => exact ⟨rfl, _, rfl⟩
                                                    case rest =>
                                                      as_aux_lemma =>
                                                        obtain ⟨hu, m15, hm15⟩ := hcut
                                                        subst hu
                                                        obtain ⟨W15, hW15⟩ : ∃ W15, W14.drewN m15 = W15 := ⟨_, rfl⟩
                                                        have C15 := hide (show Cx W15 base gw gj gm gl gc cw P.n P.nh (rn r P f0 (i + 1)).f job (upd L.made h (mh + 1)) low1 (cqf hits chg1 P.nh) W4.heap.size bJ (lrow [.int .i64 (h : Int), .int .i64 xa, .int .i64 xt, .int .u64 xd, .int .u64 xp, .bool xo]) (lrow [.int .i64 kk, .int .i64 ka, .int .i64 kb, .int .i64 kc, .int .u64 kh]) W4 from by rw [← hW15]; exact C14.out.drewN m15)
                                                        rw [hW15] at hm15
                                                        have hm15' := hm15.symm
                                                        subst hm15'
                                                        clear hm15 hW15 ca a1 cj cl y0 k0 lba lbb lj ll ly lJ C14 B1314
                                                        have y0 : W15.cell? ⟨W4.heap.size, 0, none⟩ = some (.int .i64 (h : Int)) := C15.out.s.cell (i := 0) (by decide)
                                                        have ly := C15.out.s.lt
                                                        have k0 : W15.cell? ⟨bJ, 0, none⟩ = some (.int .i64 kk) := C15.out.j.cell (i := 0) (by decide)
                                                        have lJ := C15.out.j.lt
                                                        obtain ⟨cj, fj, lj⟩ := C15.out.cj hnh
                                                        rw [HJQ.out] at cj
                                                        obtain ⟨cl, fl, ll⟩ := C15.out.cl hnh
                                                        obtain ⟨cm, fm, lm⟩ := C15.out.cm hnh
                                                        rw [upd_same] at cm
                                                        have cm : W15.cell? ⟨gm, h, none⟩ = some (.int .i64 ((mh : Int) + 1)) := by rw [cm]; rfl
                                                        obtain ⟨lw, hlw⟩ : ∃ lw, low1 h = lw := ⟨_, rfl⟩
                                                        have VL := hide (show kk = 2 → sm2 = true → lw ≤ avl ∧ avl ≤ n2 from fun a b => by rw [← hlw]; exact VV.out a b)
                                                        rw [hlw] at cl
                                                        have ne2 := C15.out.ne.2
                                                        obtain ⟨nS1, nS2, nS3, nS4, nS5⟩ := C15.out.nS
                                                        clear hlw
                                                        go_upto_region 40 with (fail)
                                                        go_cut [369] from 350 to 369 (fun v369 wx => v369 = .bool false ∧ wx = W15)
                                                        case first =>
                                                          as_aux_lemma =>
                                                            by_cases k2 : kk = 2
                                                            · subst k2
                                                              cases sm2 with
                                                              | false =>
                                                                go_wp2_with fail
                                                                go_meet
                                                                case rel => exact ⟨rfl, rfl⟩
                                                              | true =>
                                                                obtain ⟨v1, v2⟩ := VL.out rfl rfl
                                                                have b1 : decide (avl < lw) = false := by simp; omega
                                                                have b2 : decide (n2 < avl) = false := by simp; omega
                                                                have b3 : ¬ avl < lw := by omega
                                                                have b4 : ¬ n2 < avl := by omega
                                                                go_wp2_with fail
                                                                go_meet
                                                                case rel => exact ⟨rfl, rfl⟩
                                                            · have b1 : (kk == 2) = false := by simpa using k2
                                                              go_wp2_with fail
                                                              go_meet
                                                              case rel => exact ⟨rfl, rfl⟩
                                                        case rest =>
                                                          as_aux_lemma =>
                                                            obtain ⟨hu, hw15⟩ := hcut
                                                            subst hu
                                                            have hw15' := hw15.symm
                                                            subst hw15'
                                                            clear hw15 k0 lJ cl fl ll
                                                            go_wp2_with fail
                                                            go_roundw
                                                            case rel =>
                                                              have z := (C15.out.set_job h (jq + 1)).set_made h 0
                                                              refine ⟨i + 1, sm2, hlt, viT, rfl, ?_, HB.out.trans (by rw [HBA.out]; simpa using z.b)⟩
                                                              have T' := HQ.out.on
                                                              rw [EL.out] at T'
                                                              obtain ⟨blk', c', M'⟩ := z.t
                                                              refine ⟨_, upd job h (jq + 1), blk', c', T', rfl, fun q hq => ?_, fun q => ?_, by simpa [Lb.end_] using M'⟩
                                                              · rw [HQ.out.dn, if_pos rfl]
                                                                by_cases e : q = h
                                                                · subst e; rw [upd_same, upd_same, ← HEJ.out, HJQ.out]
                                                                · rw [upd_other _ _ e, upd_other _ _ e]; exact HJB.out q hq
                                                              · refine ⟨?_, (BDN.out q).2⟩
                                                                show (if true = true then upd (upd L.made h (mh + 1)) h 0 else upd L.made h (mh + 1)) q ≤ i + 1
                                                                rw [if_pos rfl]
                                                                by_cases e : q = h
                                                                · subst e; rw [upd_same]; omega
                                                                · rw [upd_other _ _ e]; exact (BDN.out q).1
                                                            case measure => exact measT hlt
        · have e : i = k := by omega
          subst e
          go_wp2_with fail
          go_ret
          exact ⟨rfl, HBw4.out⟩
  · have he' : (er == 0) = false := by simpa using he
    go_wp2_with fail
    go_ret
    exact ⟨rfl, HBw3.out⟩
end Tally
end Go.Proofs.Ytmkkkknalldckaa
