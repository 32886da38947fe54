/-
  Lemmas: BeltW.
-/
import Derived.Test.YtchhkoalibapiaaTp31
/-
  BeltOrder: the law's look at a run's end, walked.
-/
namespace Go.Proofs.Ytchhkoalibapiaa
open Go.RowKit PKept
set_option linter.unusedVariables false
set_option linter.unusedSimpArgs false
set_option linter.unnecessarySimpa false
set_option maxRecDepth 20000
namespace Belt

/-- A turn's place, as the law reckons it. -/
theorem pl_facts {r p n2 : Nat} (h1 : 1 ≤ r) (h2 : r ≤ 64) (hn : 2 + 2 * r = n2) (hp : p ≤ 70000) : ∃ pm am av r2 : Nat, ((p : Int)).tmod (r : Int) = (pm : Int) ∧ mkp r p = am ∧ vl r p = av ∧ wrap64 (pm : Int) = (pm : Int) ∧ wrap64 (2 + (pm : Int)) = (am : Int) ∧ wrap64 (2 + (r : Int)) = (r2 : Int) ∧ wrap64 ((r2 : Int) + (pm : Int)) = (av : Int) ∧ IntKind.u64.wrap (2 * (p : Int)) = 2 * (p : Int) ∧ IntKind.u64.wrap (2 * (p : Int) + 1) = 2 * (p : Int) + 1 ∧ IntKind.u64.wrap ((p : Int) + 1) = (p : Int) + 1 ∧ (am : Int) < n2 ∧ (av : Int) < n2 ∧ IntKind.u64.wrap (r : Int) = (r : Int) ∧ ¬ (r : Int) = 0 ∧ am < 2 + 2 * r ∧ av < 2 + 2 * r := by
  have hm := Nat.mod_lt p (show 0 < r by omega)
  have e : ((p : Int)).tmod (r : Int) = ((p % r : Nat) : Int) := by rw [Int.tmod_eq_emod_of_nonneg (by omega), Int.natCast_emod]
  generalize hq : p % r = pm at hm e
  refine ⟨pm, 2 + pm, 2 + r + pm, 2 + r, e, by unfold mkp; rw [hq], by unfold vl; rw [hq], ?_, ?_, ?_, ?_, ?_, ?_, ?_, ?_, ?_, ?_, ?_, ?_, ?_⟩
  all_goals clear e hq
  all_goals first | omega | (unfold wrap64; omega) | (rw [IntKind.wrap_u64]; omega)

theorem wrap_hr {H T r : Nat} (h1 : H ≤ T) (h2 : T ≤ 65536) (h3 : r ≤ 64) : IntKind.u64.wrap ((H : Int) + (r : Int)) = ((H + r : Nat) : Int) := by rw [IntKind.wrap_u64]; omega
theorem le_hr {H T r q x : Nat} (hq : q ≤ x) (e : H + r = x) (h1 : H ≤ T) (h2 : T ≤ 65536) (h3 : r ≤ 64) : q ≤ 70000 := by omega
set_option maxHeartbeats 40000000 in
theorem told_ok {w : World} {s0 s1 s2 s3 s4 : Int} {r : Nat} {aoh wa aa : Option Addr} {caph wcp ac : Nat} {P : Par} {f : Nat → Int} {done : Nat → Nat} {ans : Nat → Nat → Ans} {ow fw : Nat → Nat × Nat} {T H : Nat} (h1 : 1 ≤ r) (h2 : r ≤ 64) (hnh : P.nh ≤ 8) (hj : ∀ h, h < P.nh → P.jn h ≤ 256) (SH : SeesH w w.heap.size aoh P.nh P.jn P.jb) (SW : Sees w w.heap.size wa (2 + 2 * r) f) (SA : SeesA w w.heap.size aa P.nh done ans) (F : Fa r P f ans ow fw T H) (hd : ∀ h, h < P.nh → done h = P.jn h) :
    Calls Try.prog 17 #[.agg #[.int .i64 s0, .int .i64 s1, .int .i64 s2, .int .i64 s3, .int .i64 s4, .int .i64 (r : Int)], .slice aoh P.nh caph, .slice wa (2 + 2 * r) wcp, .slice aa P.nh ac] w fun e w' => Below w.heap.size w w' ∧ ∃ gb lo cp, e = .returned (.tuple #[.slice (some ⟨gb, 0, none⟩) T T, .slice lo (fv P ans P.nh 0).length cp, .bool true]) ∧ w'.rowIs gb 55 T (fun p => .int .u64 (gvo P ow p)) ∧ LV w' lo (fv P ans P.nh 0) cp := by
  obtain ⟨W0, hW0⟩ : ∃ W0, w.alloc (.cells #[.int .i64 s0, .int .i64 s1, .int .i64 s2, .int .i64 s3, .int .i64 s4, .int .i64 (r : Int)] 23) = W0 := ⟨_, rfl⟩
  have B0 : Below w.heap.size w W0 := by rw [← hW0]; exact (Below.refl _ w).alloc (Nat.le_refl _) _
  have R0 : W0.rowIs w.heap.size 23 6 (lrow [.int .i64 s0, .int .i64 s1, .int .i64 s2, .int .i64 s3, .int .i64 s4, .int .i64 (r : Int)]) := by rw [← hW0]; exact rowL_alloc w [.int .i64 s0, .int .i64 s1, .int .i64 s2, .int .i64 s3, .int .i64 s4, .int .i64 (r : Int)] _ rfl
  have z0 : W0.heap.size = w.heap.size + 1 := by rw [← hW0]; simp
  have c5 : W0.cell? ⟨w.heap.size, 5, none⟩ = some (.int .i64 (r : Int)) := R0.cell (i := 5) (by decide)
  have HC0 := hide (fun (wr : World) (hb : Below W0.heap.size W0 wr) => show wr.cell? ⟨w.heap.size, 5, none⟩ = some (.int .i64 (r : Int)) ∧ w.heap.size < wr.heap.size from ⟨(R0.of_block (hb.block w.heap.size (by omega))).cell (i := 5) (by decide), (R0.of_block (hb.block w.heap.size (by omega))).lt⟩)
  have RW := hide (fun (i : Nat) (hi : i < P.nh) => at_rows SH SA hd hi)
  have WD := hide (fun (k : Nat) (hk : k < 2 + 2 * r) (wr : World) (hb : Below w.heap.size w wr) => show ∃ b off, wa = some ⟨b, off, none⟩ ∧ b < wr.heap.size ∧ wr.cell? ⟨b, off + k, none⟩ = some (.int .u64 (f k)) from by
    obtain ⟨b, off, e, l, c⟩ := SW k hk
    exact ⟨b, off, e, Nat.lt_of_lt_of_le l hb.size, (hb.cell (p := ⟨b, off + k, none⟩) l).trans c⟩)
  have HF := hide F
  have HJ := hide hj
  have HNH := hide hnh
  have HB0 := hide B0
  have HH1 := hide h1
  have HH2 := hide h2
  obtain ⟨bw, offw, ew, lw0, cw0⟩ := WD.out 0 (by omega) W0 B0
  obtain ⟨bw', offw', ew', lw1, cw1⟩ := WD.out 1 (by omega) W0 B0
  rw [ew] at ew'
  cases ew'
  rw [F.t] at cw0
  rw [F.h] at cw1
  subst ew
  have WDC := hide (fun (k : Nat) (hk : k < 2 + 2 * r) (wr : World) (hb : Below w.heap.size w wr) => show wr.cell? ⟨bw, offw + k, none⟩ = some (.int .u64 (f k)) from by
    obtain ⟨b, off, e, _, c⟩ := WD.out k hk wr hb
    cases e
    exact c)
  have lbw : bw < w.heap.size := by
    obtain ⟨b, off, e, l, _⟩ := SW 0 (by omega)
    cases e
    exact l
  obtain ⟨n2, hn2⟩ : ∃ n2, 2 + 2 * r = n2 := ⟨_, rfl⟩
  rw [hn2]
  have e29 : wrap64 (2 * (r : Int)) = 2 * (r : Int) := by unfold wrap64; omega
  have e30 : wrap64 (2 + 2 * (r : Int)) = (n2 : Int) := by unfold wrap64; omega
  have l02 : (0 : Int) < n2 := by omega
  have l12 : (1 : Int) < n2 := by omega
  have HN2 := hide hn2
  have bb := F.b
  have gT : ¬ (65536 : Int) < (T : Int) := by omega
  have gH : ¬ (T : Int) < (H : Int) := by omega
  have u1 : IntKind.u64.wrap (r : Int) = (r : Int) := by rw [IntKind.wrap_u64]; omega
  have u2 : IntKind.u64.wrap ((H : Int) + (r : Int)) = (H : Int) + (r : Int) := by rw [IntKind.wrap_u64]; omega
  have gR : ¬ (H : Int) + (r : Int) < (T : Int) := by omega
  have hT16 : T ≤ 65536 := bb.2.2
  have HBB := hide bb
  have hmg := run_make_u (P := Try.prog) 24 55 _ 1 8 Try.underlying24 infoU T (by omega) (by omega)
  have hmb := run_make_u (P := Try.prog) 72 4 _ 1 1 Try.underlying72 infoB T (by omega) (by omega)
  simp only [Nat.mul_one] at hmg hmb
  obtain ⟨i46, hi46, hz46, hs46, hy46⟩ := info46e
  rw [Nat.add_zero] at cw0
  clear SH SW SA F hd hj hnh R0 B0 h1 h2 WD bb hn2
  go_enter Try.func17, Try.ntmps17
  go_wp2_with fail
  go_quiet (fail)
  obtain ⟨Wd, hWd⟩ : ∃ Wd, W0.drewN nq = Wd := ⟨_, rfl⟩
  have BD : Below W0.heap.size W0 Wd := by rw [← hWd]; exact ⟨rfl, rfl, rfl, Nat.le_refl _, fun _ _ => rfl⟩
  have zd : Wd.heap.size = W0.heap.size := by rw [← hWd]; rfl
  have HBd := hide (HB0.out.trans (BD.mono HB0.out.size))
  have HC5 := hide (fun (wr : World) (hb : Below Wd.heap.size Wd wr) => HC0.out wr (BD.trans (hb.mono (Nat.le_of_eq zd.symm))))
  rw [hWd]
  clear cw0 cw1 lw0 lw1 c5 hW0 hWd
  obtain ⟨c5, lc5⟩ := HC5.out Wd (Below.refl _ _)
  obtain ⟨W1, hW1⟩ : ∃ W1, Wd.alloc (.cells (madeCells #[.int .u64 0] T) 55) = W1 := ⟨_, rfl⟩
  obtain ⟨W2, hW2⟩ : ∃ W2, W1.alloc (.cells (madeCells #[.bool false] T) 4) = W2 := ⟨_, rfl⟩
  have z1 : W1.heap.size = Wd.heap.size + 1 := by rw [← hW1]; simp
  have z2 : W2.heap.size = Wd.heap.size + 2 := by rw [← hW2]; simp [z1]
  have B02 := hide (show Below Wd.heap.size Wd W2 from by rw [← hW2, ← hW1]; exact ((Below.refl _ Wd).alloc (Nat.le_refl _) _).alloc (by simp) _)
  have LD0 := hide (show Ld P ans ow T Wd.heap.size 0 0 (.slice none 0 0) W2 from ⟨World.ownsRow_nil _ _ _ _, by
      rw [← hW2, ← hW1]
      exact World.rowIs.congr ((World.rowIs_made Wd (.int .u64 0) T 55).alloc _) (fun p hp => by unfold gs bf; simp), by
      rw [← hW2, ← z1]
      exact World.rowIs.congr (World.rowIs_made W1 (.bool false) T 4) (fun p hp => by unfold bf; simp)⟩)
  have lwd : w.heap.size ≤ Wd.heap.size := HBd.out.size
  clear BD zd HC0 z0
  go_wp2_with fail
  have d1 : decide ((65536 : Int) < (T : Int)) = false := decide_eq_false (by have := HBB.out; omega)
  have d2 : decide ((T : Int) < (H : Int)) = false := decide_eq_false (by have := HBB.out; omega)
  have d3 : decide ((H : Int) + (r : Int) < (T : Int)) = false := decide_eq_false (by have := HBB.out; omega)
  have d4 : decide (T < H) = false := decide_eq_false (by have := HBB.out; omega)
  try simp only [d1, d2, d3, d4, Bool.false_or, Bool.or_false, Bool.or_self]
  clear d1 d2 d3 d4
  rename_i hx1 hx2 _ _
  clear hx1 hx2
  clear hmg hmb hW1 hW2 gT gH gR u1 u2 e29 e30 l02 l12
  go_loopw [8, 9, 67] (fun v8 v9 v67 wr => ∃ i : Nat, i ≤ P.nh ∧ v67 = .int .i64 (i : Int) ∧ v8 = .slice (some ⟨Wd.heap.size, 0, none⟩) T T ∧ Ld P ans ow T Wd.heap.size i 0 v9 wr ∧ Below Wd.heap.size Wd wr) (fun _ _ v67 _ => P.nh - (intOf v67).toNat)
  case atStart => exact ⟨0, Nat.zero_le _, rfl, rfl, LD0.out, B02.out⟩
  case round =>
    obtain ⟨i, hi, rfl, rfl, hL, hb⟩ := hrel
    obtain ⟨lo9, cp9, e9⟩ := own_slice hL.own
    subst e9
    have HL1 := hide hL
    have HB1 := hide hb
    obtain ⟨W3, hW3⟩ : ∃ W3, W3 = wr := ⟨_, rfl⟩
    subst hW3
    clear hL hb
    by_cases hlt : i < P.nh
    · as_aux_lemma =>
      have hlt' : (i : Int) < P.nh := by omega
      have rw0 := RW.out i hlt
      clear RW WDC lbw
      obtain ⟨bh, oh, av, cv', ba, oa, bv, ca, rfl, rfl, rr⟩ := rw0
      obtain ⟨rc1, rc2, rl1, rl2, rj⟩ := rr W3 (HBd.out.trans (HB1.out.mono HBd.out.size))
      have RR := hide rr
      obtain ⟨jn, hjn⟩ : ∃ jn, P.jn i = jn := ⟨_, rfl⟩
      have h256 : jn ≤ 256 := by rw [← hjn]; exact HJ.out i hlt
      have HJN := hide hjn
      rw [hjn] at rc1 rc2
      obtain ⟨fl0, hfl0⟩ : ∃ n, (fv P ans i 0).length = n := ⟨_, rfl⟩
      rw [hfl0]
      have HFL0 := hide hfl0
      clear rr rj hjn hfl0
      go_wp2_with fail
      go_loopw [8, 9, 16, 82] (fun v8 v9 v16 v82 w4 => ∃ (n : Nat) (l : Int), n ≤ jn ∧ v82 = .int .i64 (n : Int) ∧ v16 = .int .u64 l ∧ v8 = .slice (some ⟨Wd.heap.size, 0, none⟩) T T ∧ La ow T i n l ∧ Ld P ans ow T Wd.heap.size i n v9 w4 ∧ Below Wd.heap.size Wd w4) (fun _ _ _ v82 _ => jn - (intOf v82).toNat)
      case atStart => exact ⟨0, 0, Nat.zero_le _, rfl, rfl, rfl, .inl rfl, by rw [← HFL0.out]; exact HL1.out, HB1.out⟩
      case round =>
        clear HL1 HB1 rc1 rc2 rl1 rl2 HFL0
        obtain ⟨n, l, hn, rfl, rfl, rfl, hLa, hL, hb⟩ := hrel
        obtain ⟨lo9, cp9, e9⟩ := own_slice hL.own
        subst e9
        have HLA := hide hLa
        have HL2 := hide hL
        have HB2 := hide hb
        obtain ⟨W4, hW4⟩ : ∃ W4, W4 = wr := ⟨_, rfl⟩
        subst hW4
        clear hL hb hLa
        by_cases hlt2 : n < jn
        · as_aux_lemma =>
          have hlt2' : (n : Int) < jn := by omega
          obtain ⟨rc1, rc2, rl1, rl2, rj⟩ := RR.out W4 (HBd.out.trans (HB2.out.mono HBd.out.size))
          have hnj : n < P.jn i := by rw [HJN.out]; exact hlt2
          obtain ⟨bj, oj, bx, ox, rfl, rfl, lj, lx, lx0, la0, cj, cx0, cx1⟩ := rj n hnj
          rw [HJN.out] at rc1 rc2
          have JJ := job_is HF.out hlt hnj
          have FVL := hide (show (fv P ans i n).length ≤ 2048 from fv_len_le HJ.out HNH.out hlt (by omega))
          have q0 := cj 0 (by decide)
          have q1 := cj 1 (by decide)
          have q2 := cj 2 (by decide)
          have q3 := cj 3 (by decide)
          have q4 := cj 4 (by decide)
          simp only [Jb.cell, Nat.add_zero] at q0 q1 q2 q3 q4
          clear rj cj
          rcases JJ with ⟨ea, nn⟩ | ⟨kk, v, ea, v0, v1, nn⟩ | ⟨kk, q, hq, eq, ea⟩
          · as_aux_lemma =>
            rw [ea] at cx0 cx1
            simp only [no] at cx0 cx1
            have HR := hide (show Ld P ans ow T Wd.heap.size i (n + 1) (.slice lo9 (fv P ans i n).length cp9) W4 from HL2.out.skip nn (fun t => by rw [ea] at t; cases t.2))
            have HLA' := hide HLA.out.step
            obtain ⟨fl1, hfl1⟩ : ∃ n', (fv P ans i n).length = n' := ⟨_, rfl⟩
            rw [hfl1] at HR ⊢
            clear ea nn HL2 HLA FVL hfl1
            go_wp2_with fail
            go_roundw
            case rel => exact ⟨n + 1, l, hlt2, vi_b, rfl, rfl, HLA'.out, (HR.out.alloc _).alloc _, (by with_reducible repeat (first | exact HB2.out | refine Below.alloc ?_ (by have := HB2.out.size; simp; omega) _))⟩
            case measure => exact meas_b hlt2
          · as_aux_lemma =>
            rw [ea] at cx0 cx1
            rw [kk] at q0
            simp only at cx0 cx1
            obtain ⟨W4a, hW4a⟩ : ∃ W, W4.alloc (.cells #[.int .i64 2, .int .i64 (P.jb i n).a, .int .i64 (P.jb i n).b, .int .i64 (P.jb i n).c, .int .u64 (P.jb i n).h] 61) = W := ⟨_, rfl⟩
            obtain ⟨W5, hW5⟩ : ∃ W, W4a.alloc (.cells #[.bool true, .int .u64 v] 65) = W := ⟨_, rfl⟩
            have z4 : W4a.heap.size = W4.heap.size + 1 := by rw [← hW4a]; simp
            have HL5 := hide (show Ld P ans ow T Wd.heap.size i n (.slice lo9 (fv P ans i n).length cp9) W5 from by rw [← hW5, ← hW4a]; exact (HL2.out.alloc _).alloc _)
            have R4a : W4a.rowIs W4.heap.size 61 5 (lrow [.int .i64 2, .int .i64 (P.jb i n).a, .int .i64 (P.jb i n).b, .int .i64 (P.jb i n).c, .int .u64 (P.jb i n).h]) := by rw [← hW4a]; exact rowL_alloc W4 [.int .i64 2, .int .i64 (P.jb i n).a, .int .i64 (P.jb i n).b, .int .i64 (P.jb i n).c, .int .u64 (P.jb i n).h] _ rfl
            have R5a : W5.rowIs W4a.heap.size 65 2 (lrow [.bool true, .int .u64 v]) := by rw [← hW5]; exact rowL_alloc W4a [.bool true, .int .u64 v] _ rfl
            have R4b : W5.rowIs W4.heap.size 61 5 (lrow [.int .i64 2, .int .i64 (P.jb i n).a, .int .i64 (P.jb i n).b, .int .i64 (P.jb i n).c, .int .u64 (P.jb i n).h]) := by rw [← hW5]; exact R4a.alloc _
            have y0 : W5.cell? ⟨W4.heap.size, 0, none⟩ = some (.int .i64 2) := R4b.cell (i := 0) (by decide)
            have y5 : W5.cell? ⟨W4a.heap.size, 0, none⟩ = some (.bool true) := R5a.cell (i := 0) (by decide)
            have y6 : W5.cell? ⟨W4a.heap.size, 1, none⟩ = some (.int .u64 v) := R5a.cell (i := 1) (by decide)
            have d1 : W4a.cell? ⟨bx, ox + n * 2, none⟩ = some (.bool true) := by rw [← hW4a]; exact ((Below.refl _ W4).alloc (Nat.le_refl _) _).cell (p := ⟨bx, ox + n * 2, none⟩) lx |>.trans cx0
            have d2 : W4a.cell? ⟨bx, ox + n * 2 + 1, none⟩ = some (.int .u64 v) := by rw [← hW4a]; exact ((Below.refl _ W4).alloc (Nat.le_refl _) _).cell (p := ⟨bx, ox + n * 2 + 1, none⟩) lx |>.trans cx1
            have d3 : W4a.cell? ⟨ba, oa + i, none⟩ = some (.slice (some ⟨bx, ox, none⟩) jn ca) := by rw [← hW4a]; exact ((Below.refl _ W4).alloc (Nat.le_refl _) _).cell (p := ⟨ba, oa + i, none⟩) rl2 |>.trans rc2
            have HB5 := hide (show Below Wd.heap.size Wd W5 from by rw [← hW5, ← hW4a]; exact (HB2.out.alloc HB2.out.size _).alloc (by have := HB2.out.size; simp; omega) _)
            have HLA' := hide HLA.out.step
            have SB3 := hide HL5.out.see.lt
            have HNN := hide nn
            have HEA := hide ea
            have HKK := hide kk
            have l45 : W4.heap.size < W5.heap.size := R4b.lt
            have l45a : W4a.heap.size < W5.heap.size := R5a.lt
            clear ea nn HLA HL2 R4a R5a R4b kk z4 cx0 cx1 rc2 rl2 lx
            obtain ⟨FL, hFL⟩ : ∃ L, fv P ans i n = L := ⟨_, rfl⟩
            have HFL := hide hFL
            have HO5 := hide (show W5.ownsRow (Wd.heap.size + 2) 55 1 (.slice lo9 FL.length cp9) FL.length (wc FL) from by rw [← hFL]; exact HL5.out.own)
            rw [hFL] at FVL HL5 ⊢
            clear hFL
            go_wp2_with (at_builtin; refine wpList_append_opt rfl (.tmp 117) (.tmp 120) 24 rfl (Wd.heap.size + 2) 55 i46 (.int .u64 0) 1 8 Try.underlying24 hi46 hz46 hs46 hy46 rfl (by decide) (.slice lo9 FL.length cp9) FL.length (wc FL) rfl (HO5.out.alloc _) (some ⟨W5.heap.size, 0, none⟩) 1 1 [.int .u64 v] rfl (fun h => by cases h) rfl (fun ad had => by cases had; exact cells_new W5 #[.int .u64 v] _) (by simp [Value.oneCell']) (by have := FVL.out; unfold maxLen; omega) (by have := FVL.out; omega) (by have := SB3.out; simp; omega) ?_; intro v7 w7 hown7 hgrow7 hnn; have O7 := hide hown7; have G7 := hide hgrow7; clear hown7 hgrow7 hnn)
            go_roundw
            case rel =>
              refine ⟨n + 1, l, hlt2, vi_b, rfl, rfl, HLA'.out, ?_, ?_⟩
              · refine Ld.fetch (HL5.out.alloc _) HNN.out HKK.out HEA.out ?_ G7.out
                rw [HFL.out]; exact O7.out
              · exact (HB5.out.alloc HB5.out.size _).grown G7.out (by have := HB5.out.size; simp; omega) (fun q hq => (by have := (HO5.out.lt q hq).1; omega))
            case measure => exact meas_b hlt2
          · as_aux_lemma =>
            rw [ea] at cx0 cx1
            rw [kk] at q0
            simp only at cx0 cx1
            obtain ⟨W4a, hW4a⟩ : ∃ W, W4.alloc (.cells #[.int .i64 1, .int .i64 (P.jb i n).a, .int .i64 (P.jb i n).b, .int .i64 (P.jb i n).c, .int .u64 (P.jb i n).h] 61) = W := ⟨_, rfl⟩
            obtain ⟨W5, hW5⟩ : ∃ W, W4a.alloc (.cells #[.bool true, .int .u64 (q : Int)] 65) = W := ⟨_, rfl⟩
            have z4 : W4a.heap.size = W4.heap.size + 1 := by rw [← hW4a]; simp
            have HL5 := hide (show Ld P ans ow T Wd.heap.size i n (.slice lo9 (fv P ans i n).length cp9) W5 from by rw [← hW5, ← hW4a]; exact (HL2.out.alloc _).alloc _)
            have R4a : W4a.rowIs W4.heap.size 61 5 (lrow [.int .i64 1, .int .i64 (P.jb i n).a, .int .i64 (P.jb i n).b, .int .i64 (P.jb i n).c, .int .u64 (P.jb i n).h]) := by rw [← hW4a]; exact rowL_alloc W4 [.int .i64 1, .int .i64 (P.jb i n).a, .int .i64 (P.jb i n).b, .int .i64 (P.jb i n).c, .int .u64 (P.jb i n).h] _ rfl
            have R5a : W5.rowIs W4a.heap.size 65 2 (lrow [.bool true, .int .u64 (q : Int)]) := by rw [← hW5]; exact rowL_alloc W4a [.bool true, .int .u64 (q : Int)] _ rfl
            have R4b : W5.rowIs W4.heap.size 61 5 (lrow [.int .i64 1, .int .i64 (P.jb i n).a, .int .i64 (P.jb i n).b, .int .i64 (P.jb i n).c, .int .u64 (P.jb i n).h]) := by rw [← hW5]; exact R4a.alloc _
            have y0 : W5.cell? ⟨W4.heap.size, 0, none⟩ = some (.int .i64 1) := R4b.cell (i := 0) (by decide)
            have y4 : W5.cell? ⟨W4.heap.size, 4, none⟩ = some (.int .u64 (P.jb i n).h) := R4b.cell (i := 4) (by decide)
            have y5 : W5.cell? ⟨W4a.heap.size, 0, none⟩ = some (.bool true) := R5a.cell (i := 0) (by decide)
            have y6 : W5.cell? ⟨W4a.heap.size, 1, none⟩ = some (.int .u64 (q : Int)) := R5a.cell (i := 1) (by decide)
            have d1 : W4a.cell? ⟨bx, ox + n * 2, none⟩ = some (.bool true) := by rw [← hW4a]; exact ((Below.refl _ W4).alloc (Nat.le_refl _) _).cell (p := ⟨bx, ox + n * 2, none⟩) lx |>.trans cx0
            have d2 : W4a.cell? ⟨bx, ox + n * 2 + 1, none⟩ = some (.int .u64 (q : Int)) := by rw [← hW4a]; exact ((Below.refl _ W4).alloc (Nat.le_refl _) _).cell (p := ⟨bx, ox + n * 2 + 1, none⟩) lx |>.trans cx1
            have d3 : W4a.cell? ⟨ba, oa + i, none⟩ = some (.slice (some ⟨bx, ox, none⟩) jn ca) := by rw [← hW4a]; exact ((Below.refl _ W4).alloc (Nat.le_refl _) _).cell (p := ⟨ba, oa + i, none⟩) rl2 |>.trans rc2
            have HB5 := hide (show Below Wd.heap.size Wd W5 from by rw [← hW5, ← hW4a]; exact (HB2.out.alloc HB2.out.size _).alloc (by have := HB2.out.size; simp; omega) _)
            have HLA' := hide (La.self hq eq)
            have HEA := hide ea
            have HKK := hide kk
            have HEQ := hide eq
            have l45 : W4.heap.size < W5.heap.size := R4b.lt
            have l45a : W4a.heap.size < W5.heap.size := R5a.lt
            have gq : (q : Int) < (T : Int) := by omega
            have gq2 : ¬ (T : Int) ≤ (q : Int) := by omega
            have gl := (HLA.out.le HF.out hq eq).1
            have gl2 : ¬ (q : Int) < l := by omega
            have sq : W5.cell? ⟨Wd.heap.size + 1, q, none⟩ = some (.bool false) := by
              have := HL5.out.see.cell (i := q) hq
              rw [decide_eq_false (bf_not eq)] at this
              exact this
            have gvq := HL5.out.giv.cell (i := q) hq
            have sfr := HL5.out.see.frozen q
            have gfr := HL5.out.giv.frozen q
            have sl5 := HL5.out.see.lt
            have gl5 := HL5.out.giv.lt
            have ne1 : W4.heap.size ≠ Wd.heap.size + 1 := by have := HL2.out.see.lt; omega
            have ne2 : W4a.heap.size ≠ Wd.heap.size + 1 := by have := HL2.out.see.lt; omega
            have ne3 : W4.heap.size ≠ Wd.heap.size := by have := HL2.out.see.lt; omega
            have ne4 : W4a.heap.size ≠ Wd.heap.size := by have := HL2.out.see.lt; omega
            obtain ⟨FL, hFL⟩ : ∃ L, fv P ans i n = L := ⟨_, rfl⟩
            have HFL := hide hFL
            obtain ⟨jh, hjh⟩ : ∃ x, (P.jb i n).h = x := ⟨_, rfl⟩
            have HJH := hide hjh
            rw [hjh] at y4 hW4a q4
            rw [hFL] at FVL HL5 ⊢
            clear hFL hjh eq ea HLA HL2 R4a R5a R4b kk cx0 cx1 rc2 rl2 lx z4
            go_wp2_with fail
            go_region
            go_wp2_with fail
            go_roundw
            case rel =>
              refine ⟨n + 1, (q : Int), hlt2, vi_b, rfl, rfl, HLA'.out, ?_, ?_⟩
              · refine Ld.heap (w := (W5.setCell ⟨Wd.heap.size + 1, q, none⟩ (.bool true)).setCell ⟨Wd.heap.size, q, none⟩ (.int .u64 jh)) ?_ rfl
                rw [← HJH.out]
                exact Ld.give HF.out HL5.out hq HEQ.out HKK.out
              · exact below_drew (below_set (below_set HB5.out (by omega) (by omega)) (by simp; omega) (Nat.le_refl _))
            case measure => exact meas_b hlt2
        · as_aux_lemma =>
          have hlt2' : ¬ (n : Int) < jn := by omega
          have en : n = jn := by omega
          subst en
          have hnh8 : P.nh ≤ 8 := HNH.out
          have HR := hide (show Ld P ans ow T Wd.heap.size (i + 1) 0 (.slice lo9 (fv P ans i n).length cp9) W4 from Ld.hand HF.out (by rw [HJN.out]; exact HL2.out))
          obtain ⟨fl1, hfl1⟩ : ∃ n', (fv P ans i n).length = n' := ⟨_, rfl⟩
          rw [hfl1] at HR ⊢
          clear HL2 HLA hfl1
          go_wp2_with fail
          go_roundw
          case rel => exact ⟨i + 1, hlt, vi_b, rfl, HR.out, HB2.out⟩
          case measure => exact meas_b hlt
    · as_aux_lemma =>
      obtain rfl : i = P.nh := by omega
      have LH : (fv P ans P.nh 0).length = H := fv_len HF.out
      have GIV := hide (show W3.rowIs Wd.heap.size 55 T (fun p => .int .u64 (gvo P ow p)) from World.rowIs.congr HL1.out.giv (fun p hp => by rw [gs_all HF.out hp]))
      have SEE := hide (show ∀ p, p < T → W3.cell? ⟨Wd.heap.size + 1, p, none⟩ = some (.bool true) from fun p hp => by
        have := HL1.out.see.cell (i := p) hp
        rw [decide_eq_true (bf_all HF.out hp)] at this
        exact this)
      have LVF := hide (show LV W3 lo9 (fv P ans P.nh 0) cp9 from by
        obtain ⟨lo', cp', e, S⟩ := LV.own HL1.out.own
        cases e
        exact S)
      have sl3 := HL1.out.see.lt
      have gl3 := HL1.out.giv.lt
      have HLH := hide LH
      have HB3 := hide (HBd.out.trans (HB1.out.mono HBd.out.size))
      rw [LH]
      clear LH HL1 RW HJ hi LD0 B02
      have uH : IntKind.u64.wrap (H : Int) = (H : Int) := by have := HBB.out; rw [IntKind.wrap_u64]; omega
      go_wp2_with fail
      go_loopw [8, 9, 144] (fun v8 v9 v144 wr => ∃ k : Nat, k ≤ T ∧ v144 = .int .i64 (k : Int) ∧ v8 = .slice (some ⟨Wd.heap.size, 0, none⟩) T T ∧ v9 = .slice lo9 H cp9 ∧ wr = W3) (fun _ _ v144 _ => T - (intOf v144).toNat)
      case atStart => exact ⟨0, Nat.zero_le _, rfl, rfl, rfl, rfl⟩
      case round =>
        obtain ⟨k, hk, rfl, rfl, rfl, hw⟩ := hrel
        have hw' := hw.symm
        subst hw'
        clear hw
        by_cases hlk : k < T
        · as_aux_lemma =>
          have hlk' : (k : Int) < T := by omega
          have sc := SEE.out k hlk
          go_wp2_with fail
          go_roundw
          case rel => exact ⟨k + 1, hlk, vi_b, rfl, rfl, (by first | trivial | rfl)⟩
          case measure => exact meas_b hlk
        · as_aux_lemma =>
          obtain rfl : k = T := by omega
          go_wp2_with fail
          clear SEE
          go_loopw [8, 9, 22] (fun v8 v9 v22 wr => ∃ p : Nat, H ≤ p ∧ p ≤ k ∧ v22 = .int .u64 (p : Int) ∧ v8 = .slice (some ⟨Wd.heap.size, 0, none⟩) k k ∧ v9 = .slice lo9 H cp9 ∧ Below W3.heap.size W3 wr) (fun _ _ v22 _ => k - (intOf v22).toNat)
          case atStart => exact ⟨H, Nat.le_refl _, HBB.out.1, rfl, rfl, rfl, Below.refl _ _⟩
          case round =>
            obtain ⟨p, hp1, hp2, rfl, rfl, rfl, hb⟩ := hrel
            have HBr := hide hb
            clear hb
            obtain ⟨c5r, lc5r⟩ := HC5.out wr (HB1.out.trans (HBr.out.mono HB1.out.size))
            obtain ⟨pm, am, av, r2', tm0, km, kv, w1, w2, w3, w4, x1, x2, x3, la1, la2, u1, g0, lm, lv⟩ := pl_facts HH1.out HH2.out HN2.out (Nat.le_trans hp2 (Nat.le_trans hT16 (by decide)) : p ≤ 70000)
            by_cases hlp : p < k
            · as_aux_lemma =>
              have hlp' : (p : Int) < k := Int.ofNat_lt.2 hlp
              obtain ⟨f1, f2⟩ := HF.out.m1 p hp1 hlp
              have b4 := HBd.out.trans ((HB1.out.trans (HBr.out.mono HB1.out.size)).mono HBd.out.size)
              have cm := WDC.out (mkp r p) (by rw [km]; exact lm) wr b4
              have cv := WDC.out (vl r p) (by rw [kv]; exact lv) wr b4
              rw [f1, km] at cm
              rw [f2, kv] at cv
              have cg : wr.cell? ⟨Wd.heap.size, p, none⟩ = some (.int .u64 (gvo P ow p)) := (GIV.out.of_block (HBr.out.block _ gl3)).cell (i := p) hlp
              have lbr : bw < wr.heap.size := Nat.lt_of_lt_of_le lbw b4.size
              have lgr : Wd.heap.size < wr.heap.size := Nat.lt_of_lt_of_le gl3 HBr.out.size
              clear f1 f2 km kv b4 WDC lm lv
              go_wp2_with fail
              go_quiet (fail)
              go_wp2_with fail
              go_roundw
              case rel => exact ⟨p + 1, Nat.le_succ_of_le hp1, hlp, vi_u, rfl, rfl, below_dn HBr.out _⟩
              case measure => exact meas_u hlp
            · as_aux_lemma =>
              obtain rfl : p = k := Nat.le_antisymm hp2 (Nat.le_of_not_lt hlp)
              clear tm0 km kv w1 w2 w3 w4 x1 x2 x3 la1 la2 lm lv
              go_wp2_with fail
              obtain ⟨W6, hW6⟩ : ∃ W6, W6 = wr := ⟨_, rfl⟩
              subst hW6
              have uHr : IntKind.u64.wrap ((H : Int) + (r : Int)) = ((H + r : Nat) : Int) := wrap_hr HBB.out.1 hT16 HH2.out
              obtain ⟨hr', hhr⟩ : ∃ x, H + r = x := ⟨_, rfl⟩
              rw [hhr] at uHr
              have pr : p ≤ hr' := by rw [← hhr]; exact HBB.out.2.1
              have HHR := hide hhr
              clear hhr
              go_loopw [8, 9, 24] (fun v8 v9 v24 wr => ∃ q : Nat, p ≤ q ∧ q ≤ hr' ∧ v24 = .int .u64 (q : Int) ∧ v8 = .slice (some ⟨Wd.heap.size, 0, none⟩) p p ∧ v9 = .slice lo9 H cp9 ∧ wr = W6) (fun _ _ v24 _ => hr' - (intOf v24).toNat)
              case atStart => exact ⟨p, Nat.le_refl _, pr, rfl, rfl, rfl, rfl⟩
              case round =>
                obtain ⟨q, hq1, hq2, rfl, rfl, rfl, hw⟩ := hrel
                have hw' := hw.symm
                subst hw'
                clear hw
                obtain ⟨pm, am, av, r2', tm0, km, kv, w1, w2, w3, w4, x1, x2, x3, la1, la2, u1', g0', lm, lv⟩ := pl_facts (p := q) HH1.out HH2.out HN2.out (le_hr hq2 HHR.out HBB.out.1 hT16 HH2.out)
                by_cases hlq : q < hr'
                · as_aux_lemma =>
                  have hlq' : (q : Int) < hr' := Int.ofNat_lt.2 hlq
                  have f1 := HF.out.m2 q hq1 (by rw [HHR.out]; exact hlq)
                  have b4 := HBd.out.trans ((HB1.out.trans (HBr.out.mono HB1.out.size)).mono HBd.out.size)
                  have cm := WDC.out (mkp r q) (by rw [km]; exact lm) W6 b4
                  rw [f1, km] at cm
                  have lbr : bw < W6.heap.size := Nat.lt_of_lt_of_le lbw b4.size
                  clear f1 km kv b4 WDC lm lv u1' g0'
                  go_wp2_with fail
                  go_roundw
                  case rel => exact ⟨q + 1, Nat.le_succ_of_le hq1, hlq, vi_u, rfl, rfl, (by first | trivial | rfl)⟩
                  case measure => exact meas_u hlq
                · as_aux_lemma =>
                  obtain rfl : q = hr' := Nat.le_antisymm hq2 (Nat.le_of_not_lt hlq)
                  clear tm0 km kv w1 w2 w3 w4 x1 x2 x3 la1 la2 lm lv u1' g0'
                  go_wp2_with fail
                  refine bodyPost_ret (v := .tuple #[.slice (some ⟨Wd.heap.size, 0, none⟩) p p, .slice lo9 H cp9, .bool true]) (by simp [results, Try.results17, go_sem]) rfl ⟨HB3.out.trans (HBr.out.mono HB3.out.size), Wd.heap.size, lo9, cp9, by rw [HLH.out], GIV.out.of_block (HBr.out.block _ gl3), LVF.out.below HBr.out⟩
end Belt
end Go.Proofs.Ytchhkoalibapiaa
