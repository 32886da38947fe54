/-
  Lemmas: RoomEW.
-/
import Derived.Test.YtidihnnmdmlgfaaGreatTp54
import Derived.Test.YtidihnnmdmlgfaaGreatTp51
namespace Go.Proofs.YtidihnnmdmlgfaaGreat
set_option maxHeartbeats 8000000
open Go.RowKit
set_option linter.unusedVariables false
set_option linter.unusedSimpArgs false
set_option linter.unnecessarySimpa false
set_option maxRecDepth 20000
section
namespace Rom
open PKept Hp
theorem done_le {sh : Shp} {P : Par} {f : Nat → Int} : ∀ m h, h < P.nh → (runSt P (st0 (kRom false sh) P f) m).done h ≤ P.jn h
  | 0, h, hh => Nat.zero_le _
  | m + 1, h, hh => by
    have ih := done_le (sh := sh) (P := P) (f := f) m h hh
    rcases run_succ_cases P (st0 (kRom false sh) P f) rfl m with ⟨e, _⟩ | ⟨h', _, _, h3, _, e⟩
    · rw [e]; exact ih
    · rw [e]
      have := (step_done P (runSt P (st0 (kRom false sh) P f) m) h' h).1
      by_cases eh : h = h'
      · subst eh
        simp only [stepSt]
        split
        · rw [upd_same]; omega
        · exact ih
      · simp only [stepSt]
        split
        · rw [upd_other _ _ eh]; exact ih
        · exact ih
theorem tl1_le (i : Int) (jb : Nat → Jb) (an : Nat → Ans) : ∀ k, (tl1 i jb an k).length ≤ k
  | 0 => Nat.le_refl _
  | k + 1 => by
    have := tl1_le i jb an k
    unfold tl1
    split
    · simp; omega
    · omega
theorem tlh_le (i : Int) (P : Par) (done : Nat → Nat) (ans : Nat → Nat → Ans) : ∀ h, (∀ i, i < h → done i ≤ 256) → (tlh i P done ans h).length ≤ 256 * h
  | 0, _ => Nat.le_refl _
  | h + 1, hd => by
    have := tlh_le i P done ans h (fun i hi => hd i (by omega))
    have := tl1_le i (P.jb h) (ans h) (done h)
    have := hd h (by omega)
    unfold tlh
    rw [List.length_append]
    omega
theorem tl1_not {i : Int} {jb : Nat → Jb} {an : Nat → Ans} {k : Nat} (h : ¬ ((jb k).kind = 1 ∧ (an k).ok = true)) : tl1 i jb an (k + 1) = tl1 i jb an k := by
  have : ¬ tb i (jb k) (an k) = 1 := by
    unfold tb
    rw [if_neg (fun c => h ⟨c.1, c.2.1⟩)]
    decide
  show (if _ then _ else _) = _
  rw [if_neg this]
theorem tl1_more {i : Int} {jb : Nat → Jb} {an : Nat → Ans} {k : Nat} (h : (jb k).kind = 1 ∧ (an k).ok = true) : tl1 i jb an (k + 1) = if i = idx (an k).val then tl1 i jb an k ++ [(an k).val / 4294967296] else tl1 i jb an k := by
  show (if tb i (jb k) (an k) = 1 then _ else _) = _
  by_cases e : i = idx (an k).val
  · have e1 : tb i (jb k) (an k) = 1 := by unfold tb; rw [if_pos ⟨h.1, h.2, e.symm⟩]
    rw [if_pos e1, if_pos e]
  · have e1 : ¬ tb i (jb k) (an k) = 1 := by
      unfold tb
      rw [if_neg (fun c => e c.2.2.symm)]
      decide
    rw [if_neg e1, if_neg e]
theorem infoB : (Tryz.prog.info? 4).map (fun i => (i.zero.map Value.cells, i.size, i.bytes)) = some (some #[.bool false], 1, 1) := by kernel_rfl
theorem infoSU : (Tryz.prog.info? 24).map (fun i => (i.zero.map Value.cells, i.size, i.bytes)) = some (some #[.slice none 0 0], 1, 24) := by kernel_rfl
structure FE (sh : Shp) (P : Par) (aa : Option Addr) (m : Nat) (DN : Nat → Nat) (AN : Nat → Nat → Ans) (w1 : World) : Prop where
  h5 : Shape.R5 sh.a sh.b sh.c sh.d sh.e
  m : m = P.nh
  nh : P.nh ≤ 8
  dn : ∀ h, h < P.nh → DN h ≤ P.jn h ∧ DN h ≤ 256
  an : SeesA w1 w1.heap.size aa P.nh DN AN
  tl : ∀ h, h < P.nh → ∀ j, j < DN h → (P.jb h j).kind = 1 → (AN h j).ok = true → there sh (idx (AN h j).val) ∧ 0 ≤ (AN h j).val ∧ (AN h j).val < 18446744073709551616
  lt : ∀ (i : Int) g, g ∈ tlh i P DN AN P.nh → 0 ≤ g ∧ g < (tlh i P DN AN P.nh).length
  nd : ∀ i : Int, (tlh i P DN AN P.nh).Nodup
theorem fe_of {sh : Shp} {P : Par} {most : Int} {base : Nat} {sa wa aa : Option Addr} {k sc n wc m ac : Nat} {en : Bool} {w1 : World} (hn : Shape.R5 sh.a sh.b sh.c sh.d sh.e → (P.n : Int) = sizeOf sh) (hjw : ∀ h, h < P.nh → ∀ j, j < P.jn h → (P.jb h j).wf) (h : FT sh P most base sa k sc wa n wc en aa m ac true w1) : ∃ DN AN, FE sh P aa m DN AN w1 := by
  obtain ⟨h5, T, HO⟩ := h rfl
  obtain ⟨st, hst, hF, hok, _, _, hm, _, _, SA⟩ := tb_sees T
  have hM : most.toNat ≤ 65536 := by have := hF.2.2.2; omega
  obtain ⟨C, pl, I⟩ := inv_run h5 (hn h5) hjw hok hM HO most.toNat (Nat.le_refl _)
  rw [← hst] at I
  have hkk := (runSt_k P (st0 (kRom false sh) P (ff sh)) rfl most.toNat).1
  rw [← hst] at hkk
  have hnl := hF.2.1
  rw [hm] at SA
  refine ⟨st.done, st.ans, h5, hm, by have : ¬ 8 < P.nh := fun h => hnl (.inl h); omega, fun h hh => ?_, SA, fun h hh j hj k1 o1 => ?_, fun i g hg => tlh_lt I h5.1.2 (by omega) hg, fun i => tlh_nodup I P.nh (Nat.le_refl _)⟩
  · have h1 := done_le (sh := sh) (P := P) (f := ff sh) most.toNat h hh
    rw [← hst] at h1
    have : ¬ 256 < P.jn h := fun h2 => hnl (.inr ⟨h, hh, h2⟩)
    omega
  · obtain ⟨x, g, hx, h0, h1, hv⟩ := I.tl h hh j hj k1 o1
    have h2 := (I.gn x hx).2.2
    have hx1 := hx.1
    have hx2 := hx.2
    have h64 := h5.1.2
    rw [hv, hd_idx (by omega)]
    refine ⟨hx, hd_lo _ _, by have := hd_hi x g; omega⟩
variable {w : World} {ao aoh aos : Option Addr} {nw cap caph caps : Nat} {P : Par} {most : Int} {sh : Shp}
theorem each_walk (hn : Shape.R5 sh.a sh.b sh.c sh.d sh.e → (P.n : Int) = sizeOf sh) (SH : SeesH w w.heap.size aoh P.nh P.jn P.jb) (hn63 : P.nh ≤ 9223372036854775807) (SI : SeesI w w.heap.size aos P.ns P.sched) (hjw : ∀ h, h < P.nh → ∀ j, j < P.jn h → (P.jb h j).wf) :
    Calls Tryz.prog 3 #[.agg #[.int .i64 sh.a, .int .i64 sh.b, .int .i64 sh.c, .int .i64 sh.d, .int .i64 sh.e, .int .i64 sh.f, .slice ao nw cap, .slice aoh P.nh caph, .slice aos P.ns caps, .int .i64 most]] w fun e w' => e = .returned (.bool true) ∧ Below w.heap.size w w' := by
  have FR := hide (fun (w1 : World) (B1 : Below w.heap.size w w1) => fresh_any (sh := sh) (most := most) (ao := ao) (nw := nw) (cap := cap) (caph := caph) (caps := caps) hn ((SH.below B1 (Nat.le_refl _)).up B1.size) hn63 ((SI.below B1 (Nat.le_refl _)).up B1.size) hjw)
  have FT' := hide (fun (base : Nat) sa k sc wa n wc en aa m ac (w1 : World) (h : FT sh P most base sa k sc wa n wc en aa m ac true w1) => fe_of hn hjw h)
  have RW := hide (fun (w1 : World) (B1 : Below w.heap.size w w1) aa DN AN (SA : SeesA w1 w1.heap.size aa P.nh DN AN) (i : Nat) (hi : i < P.nh) => own_rows ((SH.below B1 (Nat.le_refl _)).up B1.size) SA hi)
  obtain ⟨FX, hFX⟩ : ∃ FX, FT sh P most = FX := ⟨_, rfl⟩
  rw [hFX] at FR FT'
  clear hFX
  obtain ⟨s0, s1, s2, s3, s4, s5⟩ := sh
  simp only [Shp.val] at FR FT' ⊢
  clear SH SI hjw hn
  obtain ⟨W0, hW0⟩ : ∃ W0, w.alloc (.cells #[.int .i64 s0, .int .i64 s1, .int .i64 s2, .int .i64 s3, .int .i64 s4, .int .i64 s5, .slice ao nw cap, .slice aoh P.nh caph, .slice aos P.ns caps, .int .i64 most] 28) = W0 := ⟨_, rfl⟩
  have b0 : Below w.heap.size w W0 := by rw [← hW0]; exact (Below.refl _ w).alloc (Nat.le_refl _) _
  have R0 : W0.rowIs w.heap.size 28 10 (lrow [.int .i64 s0, .int .i64 s1, .int .i64 s2, .int .i64 s3, .int .i64 s4, .int .i64 s5, .slice ao nw cap, .slice aoh P.nh caph, .slice aos P.ns caps, .int .i64 most]) := by rw [← hW0]; exact rowL_alloc w [.int .i64 s0, .int .i64 s1, .int .i64 s2, .int .i64 s3, .int .i64 s4, .int .i64 s5, .slice ao nw cap, .slice aoh P.nh caph, .slice aos P.ns caps, .int .i64 most] _ rfl
  have keep : Hid (∀ w' : World, Below W0.heap.size W0 w' → Below w.heap.size w w' ∧ w.heap.size < w'.heap.size ∧ w'.cell? ⟨w.heap.size, 0, none⟩ = some (.int .i64 s0) ∧ w'.cell? ⟨w.heap.size, 1, none⟩ = some (.int .i64 s1) ∧ w'.cell? ⟨w.heap.size, 2, none⟩ = some (.int .i64 s2) ∧ w'.cell? ⟨w.heap.size, 3, none⟩ = some (.int .i64 s3) ∧ w'.cell? ⟨w.heap.size, 4, none⟩ = some (.int .i64 s4) ∧ w'.cell? ⟨w.heap.size, 5, none⟩ = some (.int .i64 s5) ∧ w'.cell? ⟨w.heap.size, 6, none⟩ = some (.slice ao nw cap) ∧ w'.cell? ⟨w.heap.size, 7, none⟩ = some (.slice aoh P.nh caph) ∧ w'.cell? ⟨w.heap.size, 8, none⟩ = some (.slice aos P.ns caps) ∧ w'.cell? ⟨w.heap.size, 9, none⟩ = some (.int .i64 most)) := fun w' hb => by
    have r := R0.of_block (hb.block w.heap.size R0.lt)
    exact ⟨b0.trans (hb.mono b0.size), r.lt, r.cell (i := 0) (by decide), r.cell (i := 1) (by decide), r.cell (i := 2) (by decide), r.cell (i := 3) (by decide), r.cell (i := 4) (by decide), r.cell (i := 5) (by decide), r.cell (i := 6) (by decide), r.cell (i := 7) (by decide), r.cell (i := 8) (by decide), r.cell (i := 9) (by decide)⟩
  have sz0 : W0.heap.size = w.heap.size + 1 := by rw [← hW0]; simp
  clear b0 R0
  go_enter Tryz.func3, Tryz.ntmps3
  go_wp2_with fail
  refine (alive_any W0).mono ?_
  rintro e w1 ⟨rfl, hb1⟩
  obtain ⟨bw1, l1, c0, c1, c2, c3, c4, c5, c6, c7, c8, c9⟩ := keep.out w1 hb1
  have HB1 := hide hb1
  have BW1 := hide bw1
  have hs1 := hb1.size
  clear hb1 bw1 hW0
  go_wp2_with fail
  refine (FR.out w1 BW1.out).mono ?_
  rintro e w2 ⟨hb2, sa, k0, sc, wa, n0, wc0, en, aa, m, ac, ok, rfl, hT⟩
  have B2 := hide (HB1.out.trans (hb2.mono hs1))
  have hs2 := hb2.size
  clear c0 c1 c2 c3 c4 c5 c6 c7 c8 c9 FR
  obtain ⟨W3, hW3⟩ : ∃ W3, w2.alloc (.cells #[.slice sa k0 sc, .slice wa n0 wc0, .bool en] 32) = W3 := ⟨_, rfl⟩
  have B23 : Below w2.heap.size w2 W3 := by rw [← hW3]; exact (Below.refl _ w2).alloc (Nat.le_refl _) _
  have HB03 := hide (B2.out.trans (B23.mono (Nat.le_trans hs1 hs2)))
  cases ok with
  | false =>
    have BW3 := hide (keep.out W3 HB03.out).1
    clear hb2 hT B23
    go_wp2_with fail
    go_ret
    exact ⟨rfl, BW3.out⟩
  | true =>
    obtain ⟨DN, AN, E⟩ := FT'.out _ _ _ _ _ _ _ _ _ _ _ _ hT
    obtain ⟨o, ho⟩ : ∃ o : Nat, s0 = (o : Int) := ⟨s0.toNat, by have := E.h5.1.1; simp only at this; omega⟩
    subst ho
    obtain rfl := E.m
    have ho64 : 1 ≤ o ∧ o ≤ 64 := by have := E.h5.1; simp only at this; omega
    have hnh := E.nh
    have HE := hide E
    have RA := hide (fun (wr : World) (hb : Below W3.heap.size W3 wr) (i : Nat) (hi : i < P.nh) => RW.out W3 (keep.out W3 HB03.out).1 aa DN AN ((E.an.below B23 (Nat.le_refl _)).mono B23.size) i hi)
    have KP := hide (fun (wx : World) (hb : Below W3.heap.size W3 wx) => keep.out wx (HB03.out.trans (hb.mono HB03.out.size)))
    have hmk : ∀ W : World, (Instr.makeSlice 36 (.int .i64 ((o : Int) + 1)) (.int .i64 ((o : Int) + 1))).run Tryz.prog W = .ok (.slice (some ⟨W.heap.size, 0, none⟩) (o + 1) (o + 1)) (W.alloc (.cells (madeCells #[.slice none 0 0] (o + 1)) 24)) := fun W => by
      have := Shape.run_make_z (P := Tryz.prog) 36 24 _ 1 24 Tryz.underlying36 infoSU (o + 1) (by omega) (by omega) W
      simpa using this
    obtain ⟨_, l3, c0, c1, c2, c3, c4, c5, c6, c7, c8, c9⟩ := KP.out W3 (Below.refl _ _)
    clear hb2 hT B23 E FT' RW
    go_upto_region 7 with (fail)
    obtain ⟨W5, hW5⟩ : ∃ W5, W3.alloc (.cells (madeCells #[.slice none 0 0] (o + 1)) 24) = W5 := ⟨_, rfl⟩
    obtain ⟨T, hTT⟩ : ∃ T, W3.heap.size = T := ⟨_, rfl⟩
    have HT5 := hide (show TL W5 T (T + 1) (o + 1) (fun _ => .slice none 0 0) (fun _ => []) from by rw [← hW5, ← hTT]; exact TL.made W3 (o + 1))
    have HB5 := hide (show Below T W3 W5 from by rw [← hW5, ← hTT]; exact (Below.refl _ W3).alloc (Nat.le_refl _) _)
    rw [hTT] at RA KP
    rw [hW5, hTT]
    clear hW5 hTT c0 c1 c2 c3 c4 c5 c6 c7 c8 c9 l3 hmk hW3
    go_wp2_with fail
    go_loopw [7] (fun v7 wr => ∃ h : Nat, h ≤ P.nh ∧ v7 = .int .i64 (h : Int) ∧ (∃ F, TL wr T (T + 1) (o + 1) F (fun i => tlh (i : Int) P DN AN h)) ∧ Below T W3 wr) (fun v7 _ => P.nh - (intOf v7).toNat)
    case atStart => exact ⟨0, Nat.zero_le _, rfl, ⟨_, HT5.out⟩, HB5.out⟩
    case round =>
      obtain ⟨h, hh, rfl, ⟨F0, hT⟩, hb⟩ := hrel
      have HT1 := hide hT
      have HB1' := hide hb
      obtain ⟨W1, hW1⟩ : ∃ W1, W1 = wr := ⟨_, rfl⟩
      subst hW1
      clear hb hT
      by_cases hlt : h < P.nh
      · have hlt' : (h : Int) < (P.nh : Int) := by omega
        have HGI := hide (meas_o hlt)
        obtain ⟨bh, oh, av, cv, ba, oa, bv, ca, rfl, rfl, rr⟩ := RA.out W3 (Below.refl _ _) h hlt
        have RR := hide (fun (wr : World) (hb : Below T W3 wr) => And.intro (KP.out wr hb) (rr wr hb))
        have hdl := HE.out.dn h hlt
        have HTL := hide (fun j (hj : j < DN h) => HE.out.tl h hlt j hj)
        clear rr
        go_wp2_with fail
        go_loopw [8] (fun v8 w2 => ∃ k : Nat, k ≤ DN h ∧ v8 = .int .i64 (k : Int) ∧ (∃ F, TL w2 T (T + 1) (o + 1) F (fun i => tlh (i : Int) P DN AN h ++ tl1 (i : Int) (P.jb h) (AN h) k)) ∧ Below T W3 w2) (fun v8 _ => DN h - (intOf v8).toNat)
        case atStart => exact ⟨0, Nat.zero_le _, rfl, ⟨F0, TL.cong HT1.out (fun i => (List.append_nil _).symm)⟩, HB1'.out⟩
        case round =>
          obtain ⟨k, hk, rfl, ⟨F, hT⟩, hb⟩ := hrel
          have HT2 := hide hT
          have HB2 := hide hb
          obtain ⟨W2, hW2⟩ : ∃ W2, W2 = wr := ⟨_, rfl⟩
          subst hW2
          clear hT
          obtain ⟨⟨_, lw2, c0, -, -, -, -, -, -, c7, -, -⟩, d1, d2, la1, la2, J, A⟩ := RR.out W2 hb
          clear hb
          by_cases hlt2 : k < DN h
          · have hlt2' : (k : Int) < (DN h : Int) := by omega
            have HGK := hide (meas_o hlt2)
            obtain ⟨bj, oj, rfl, lj, cj⟩ := J k (by omega)
            obtain ⟨bx, ox, rfl, lx, x0, x1⟩ := A k hlt2
            have j0 := cj 0 (by omega)
            rw [Nat.add_zero] at j0
            have htl := HTL.out k hlt2
            have HN := hide (fun (i : Int) (hc : ¬ ((P.jb h k).kind = 1 ∧ (AN h k).ok = true)) => tl1_not (i := i) hc)
            have HM := hide (fun (i : Int) (hc : (P.jb h k).kind = 1 ∧ (AN h k).ok = true) => tl1_more (i := i) hc)
            have TK := hide (fun i : Nat => show (tlh (i : Int) P DN AN h ++ tl1 (i : Int) (P.jb h) (AN h) k).length ≤ 4096 from by
              rw [List.length_append]
              have := tlh_le (i : Int) P DN AN h (fun q hq => (HE.out.dn q (by omega)).2)
              have := tl1_le (i : Int) (P.jb h) (AN h) k
              omega)
            obtain ⟨Lk, hLk⟩ : ∃ Lk : Nat → List Int, (fun i : Nat => tlh (i : Int) P DN AN h ++ tl1 (i : Int) (P.jb h) (AN h) k) = Lk := ⟨_, rfl⟩
            have HLk := hide hLk
            rw [hLk] at HT2
            clear hLk
            generalize hjk : P.jb h k = jj at j0 htl HN HM
            generalize han : AN h k = aa0 at x0 x1 htl HN HM
            obtain ⟨kd, ja, jbb, jc, jh⟩ := jj
            obtain ⟨aok, xv⟩ := aa0
            simp only [Jb.cell] at j0 x0 x1 htl HN HM
            have HJK := hide hjk
            have HAN := hide han
            obtain ⟨W4, hW4⟩ : ∃ W4, W2.alloc (.cells #[.bool aok, .int .u64 xv] 40) = W4 := ⟨_, rfl⟩
            have R4 : W4.rowIs W2.heap.size 40 2 (lrow [.bool aok, .int .u64 xv]) := by rw [← hW4]; exact rowL_alloc W2 [.bool aok, .int .u64 xv] _ rfl
            have B4 : Below W2.heap.size W2 W4 := by rw [← hW4]; exact (Below.refl _ W2).alloc (Nat.le_refl _) _
            have hs4 : W4.heap.size = W2.heap.size + 1 := by rw [← hW4]; simp
            have tbs := HT2.out.bs
            have HB4 := hide (HB2.out.trans (B4.mono (by omega)))
            have HT4 := hide (HT2.out.keep B4)
            have y0 : W4.cell? ⟨W2.heap.size, 0, none⟩ = some (.bool aok) := R4.cell (i := 0) (by decide)
            have y1 : W4.cell? ⟨W2.heap.size, 1, none⟩ = some (.int .u64 xv) := R4.cell (i := 1) (by decide)
            have l4 : W2.heap.size < W4.heap.size := by omega
            obtain ⟨⟨_, lw4, e0, -, -, -, -, -, -, e7, -, -⟩, f1, f2, lf1, lf2, -, -⟩ := RR.out W4 HB4.out
            have j0' : W4.cell? ⟨bj, oj + k * 5, none⟩ = some (.int .i64 kd) := (B4.cell (p := ⟨bj, oj + k * 5, none⟩) lj).trans j0
            have lj4 : bj < W4.heap.size := by omega
            have HR4 := hide R4
            clear B4 R4 J A cj hjk han
            go_upto_region 14 with (fail)
            clear x0 x1 hW4 c0 c7 d1 d2
            by_cases hkd : kd = 1
            · subst hkd
              cases aok with
              | false =>
                have HC := hide (TL.cong HT4.out (fun i => by rw [HN.out (i : Int) (fun h => absurd h.2 (by decide)), ← HLk.out]) : TL W4 T (T + 1) (o + 1) F (fun i => tlh (i : Int) P DN AN h ++ tl1 (i : Int) (P.jb h) (AN h) (k + 1)))
                go_wp2_with fail
                go_roundw
                case rel => exact ⟨k + 1, hlt2, by go_num, ⟨F, HC.out⟩, HB4.out⟩
                case measure => exact HGK.out
              | true =>
                obtain ⟨hthere, hv0, hv1⟩ := htl rfl rfl
                obtain ⟨i, hi⟩ : ∃ i : Nat, idx xv = (i : Int) := ⟨(idx xv).toNat, by have := hthere.1; omega⟩
                rw [hi] at hthere
                have hi1 : ¬ ((i : Int) < 1) := by have := hthere.1; omega
                have hi2 : ¬ ((o : Int) < (i : Int)) := by have := hthere.2; simp only at this; omega
                have hin : i < o + 1 := by omega
                have HCG := hide (show ∀ j : Nat, (if j = i then Lk i ++ [xv / 4294967296] else Lk j) = tlh (j : Int) P DN AN h ++ tl1 (j : Int) (P.jb h) (AN h) (k + 1) from fun j => by
                  rw [HM.out (j : Int) ⟨rfl, rfl⟩, ← HLk.out, hi]
                  by_cases e : j = i
                  · subst e; rw [if_pos rfl, if_pos rfl, List.append_assoc]
                  · rw [if_neg e, if_neg (by omega)])
                have hix : wrap64 (bits .and .u64 xv 4294967295) = (i : Int) := by rw [wrap64_low _ hv0 hv1]; exact hi
                go_upto_region 18 with (fail)
                rw [hix]
                clear hix e0 e7 f1 f2 j0'
                obtain ⟨q4, hq4⟩ : ∃ q, W2.heap.size = q := ⟨_, rfl⟩
                rw [hq4] at y0 y1 l4 ⊢
                have hTq : q4 ≠ T := by have := HT2.out.row.lt; omega
                have hFq : (F i).ownBlock ≠ some q4 := fun e => by have := ((HT2.out.own i hin).lt q4 e).2; omega
                have MX := hide (show (Lk i).length + 1 ≤ maxLen ∧ ((Lk i).length + 1) * 8 ≤ 140737488355328 from by have := TK.out i; rw [← HLk.out]; unfold maxLen; simp only; omega)
                have HF4 := hide (show ∀ n1 s w', n1 ≤ 1 → EA W4 T (T + 1) (o + 1) F Lk i (xv / 4294967296) n1 s w' → w'.cell? ⟨T, 0 + i * 1, none⟩ = some (F i) from fun n1 s w' hn1 hS => by
                  have hB : Below W4.heap.size W4 w' := by
                    match n1, hn1 with
                    | 0, _ => exact hS
                    | 1, _ => exact hS.1
                  rw [Nat.zero_add, Nat.mul_one]
                  exact (HT4.out.keep hB).row.cell (i := i) hin)
                have HX4 := hide (show ∀ n1 s w', EA W4 T (T + 1) (o + 1) F Lk i (xv / 4294967296) n1 s w' → w'.cell? ⟨q4, 1, none⟩ = some (.int .u64 xv) from fun n1 s w' hS => (World.cell?_of_block (a := ⟨q4, 1, none⟩) (hS.past l4 hTq hFq)).trans y1)
                clear y0 y1
                obtain ⟨iU, hiU, hzU, hsU, hyU⟩ := info46e
                refine LtH.region2 (ks := [(0, 80), (1, 81), (2, 82), (3, 83), (4, 84), (5, 85), (6, 86), (7, 87), (8, 88), (11, 91)]) (vals := fun iv => match iv with | 0 => .slice (some ⟨T, 0, none⟩) (o + 1) (o + 1) | 1 => .int .i64 (i : Int) | 2 => .slice (some ⟨T, 0, none⟩) (o + 1) (o + 1) | 3 => .int .i64 (i : Int) | 4 => .pointer (some ⟨T, 0 + i * 1, none⟩) | 5 => F i | 6 => .pointer (some ⟨q4, 1, none⟩) | 7 => .int .u64 xv | 8 => .int .u64 (xv / 4294967296) | 11 => .pointer (some ⟨T, 0 + i * 1, none⟩) | _ => undef) (xs := [89, 90]) (WI := LtE.WI [9, 10, 12] [(10, 5)] (EA W4 T (T + 1) (o + 1) F Lk i (xv / 4294967296))) (by kernel_rfl) ?Agd ?Abk rfl ?Add ?Axx ?Alc ?Ast ?Ado ?Afi
                case Agd =>
                  intro iq oq ho
                  have hiq : iq < 13 := by have := (Array.getElem?_eq_some_iff.1 ho).1; simpa using this
                  match iq, hiq with
                  | 0, _ | 1, _ | 2, _ | 3, _ | 4, _ | 5, _ | 6, _ | 7, _ | 8, _ | 9, _ | 10, _ | 11, _ | 12, _ => injection ho with ho; subst ho; rfl
                case Abk =>
                  intro iq oq ho
                  have hiq : iq < 13 := by have := (Array.getElem?_eq_some_iff.1 ho).1; simpa using this
                  match iq, hiq with
                  | 0, _ | 1, _ | 2, _ | 3, _ | 4, _ | 5, _ | 6, _ | 7, _ | 8, _ | 9, _ | 10, _ | 11, _ | 12, _ => injection ho with ho; subst ho; simp [Region.binds]
                case Add =>
                  intro kq hk
                  have hk2 : kq < 135 := by
                    simp [Lt.D] at hk
                    omega
                  exact hk2
                case Axx =>
                  intro kq hk
                  have hk2 : kq < 135 := by
                    simp at hk
                    omega
                  exact hk2
                case Alc =>
                  rintro L1 s1x s2x w1 hx ⟨⟨n1, h1, h2, h3⟩, h4⟩
                  exact ⟨⟨n1, h1, h2, EA.local (hx 89 rfl) (hx 90 rfl) h3⟩, h4⟩
                case Ast => exact LtE.WI.start (show Below W4.heap.size W4 _ from (Below.refl _ W4).drew)
                case Ado =>
                  intro iq oq ho
                  have hiq : iq < 13 := by have := (Array.getElem?_eq_some_iff.1 ho).1; simpa using this
                  match iq, hiq with
                  | 0, _ => injection ho with ho; subst ho; exact LtE.read rfl rfl rfl (fun L1 a w' hI hL hq => Lt.ex_move rfl (hI.fix 6 (Lt.notD rfl) rfl))
                  | 1, _ => injection ho with ho; subst ho; exact LtE.read rfl rfl rfl (fun L1 a w' hI hL hq => Lt.ex_move rfl (hI.fix 10 (Lt.notD rfl) rfl))
                  | 2, _ => injection ho with ho; subst ho; exact LtE.read rfl rfl rfl (fun L1 a w' hI hL hq => Lt.ex_move rfl (hI.fix 6 (Lt.notD rfl) rfl))
                  | 3, _ => injection ho with ho; subst ho; exact LtE.read rfl rfl rfl (fun L1 a w' hI hL hq => Lt.ex_move rfl (hI.fix 10 (Lt.notD rfl) rfl))
                  | 4, _ => injection ho with ho; subst ho; exact LtE.read rfl rfl rfl (fun L1 a w' hI hL hq => ex_index (i := i) rfl (hI.pure 2 _ _ rfl (hq ⟨2, .data⟩ (by simp) rfl)) (hI.pure 3 _ _ rfl (hq ⟨3, .data⟩ (by simp) rfl)) hin Tryz.underlying36 sizeSU)
                  | 5, _ => injection ho with ho; subst ho; exact LtE.read rfl rfl rfl (fun L1 a w' hI hL hq => Lt.ex_load rfl (hI.pure 4 _ _ rfl (hq ⟨4, .data⟩ (by simp) rfl)) (aggSU w') (by obtain ⟨n1, hn1, hS⟩ := hI.world.early (ra := 10) (rb := 5) (by simp) (m := 1) rfl hL; exact HF4.out n1 _ w' hn1 hS))
                  | 6, _ => injection ho with ho; subst ho; exact LtE.read rfl rfl rfl (fun L1 a w' hI hL hq => Lt.ex_field rfl (hI.fix 9 (Lt.notD rfl) rfl) (fieldA1 w' _ 0))
                  | 7, _ => injection ho with ho; subst ho; exact LtE.read rfl rfl rfl (fun L1 a w' hI hL hq => Lt.ex_load rfl (hI.pure 6 _ _ rfl (hq ⟨6, .data⟩ (by simp) rfl)) (aggU8 w') (by obtain ⟨n1, hS⟩ := hI.world.any; exact HX4.out n1 _ w' hS))
                  | 8, _ => injection ho with ho; subst ho; exact LtE.read rfl rfl rfl (fun L1 a w' hI hL hq => ex_shr32 rfl (hI.pure 7 _ _ rfl (hq ⟨7, .data⟩ (by simp) rfl)) rfl)
                  | 9, _ => injection ho with ho; subst ho; exact LtE.link (m := 0) (by decide) rfl rfl rfl rfl (fun L hq p hp e => by simp at hp; subst hp; simp at e) (fun L hq m1 j1 e1 _ => absurd e1 (by omega)) (fun L1 a w' Kq hI hq hS hk => Lt.wp_value (ex_bslice1w rfl (hI.pure 8 _ _ rfl (hq ⟨8, .data⟩ (by simp) rfl))) (hk _ _ ⟨Below.alloc hS hS.size _, w'.heap.size, by simp, by simp⟩))
                  | 10, _ => injection ho with ho; subst ho; exact LtE.link (m := 1) (by decide) rfl rfl rfl rfl (fun L hq p hp e => by simp at hp; subst hp; exact hq ⟨5, .data⟩ (by simp) rfl) (fun L hq m1 j1 e1 hj => by (cases (show m1 = 0 from (by omega))); cases hj; exact hq ⟨9, .data⟩ (by simp) rfl) (fun L1 a w' Kq hI hq hS hk => by obtain ⟨hb, q, h89, hcq⟩ := hS; have H1 := HT4.out.keep hb; exact wp_append_one (.tmp 85) (.tmp 89) 24 rfl (T + 1) 38 iU (.int .u64 0) 1 8 Tryz.underlying24 hiU hzU hsU hyU rfl (by decide) (F i) (Lk i).length (wc (Lk i)) (hI.pure 5 _ _ rfl (hq ⟨5, .data⟩ (by simp) rfl)) (H1.own i hin) ⟨q, 0, none⟩ 1 1 [.int .u64 (xv / 4294967296)] h89 rfl (fun j u hj => one_neww hcq hj) one_onew MX.out.1 MX.out.2 H1.bs (fun v w'' own gr hd => hk v w'' ⟨w', hb, gr, by simpa using own, by simpa using hd⟩))
                  | 11, _ => injection ho with ho; subst ho; exact LtE.read rfl rfl rfl (fun L1 a w' hI hL hq => ex_index (i := i) rfl (hI.pure 0 _ _ rfl (hq ⟨0, .data⟩ (by simp) rfl)) (hI.pure 1 _ _ rfl (hq ⟨1, .data⟩ (by simp) rfl)) hin Tryz.underlying36 sizeSU)
                  | 12, _ => injection ho with ho; subst ho; exact LtE.store (m := 2) (by decide) rfl rfl rfl (fun L hq p hp e => by simp at hp; subst hp; simp at e) (fun L hq m1 j1 e1 hj => by (cases (show m1 = 1 from (by omega))); cases hj; exact hq ⟨10, .data⟩ (by simp) rfl) (fun L1 a w' Kq hI hq hS hk => by obtain ⟨w1, h1, h2, h3, h4⟩ := hS; obtain ⟨ao', cp', e90⟩ := own_slice h3; have e90' : a.eval (.tmp 90) = _ := e90; have R6 := (HT4.out.keep h1).row.of_block (h2.block T (HT4.out.keep h1).row.lt (fun e => by have := (((HT4.out.keep h1).own i hin).lt T e.symm).1; have := HT4.out.tb; omega)); exact wp_storeS rfl rfl (hI.pure 11 _ _ rfl (hq ⟨11, .data⟩ (by simp) rfl)) e90' (by kernel_rfl) (R6.cell (i := 0 + i * 1) (by omega)) (R6.frozen _) (hk undef _ ⟨w1, w', _, h1, h2, h3, h4, by simp only [e90]; rw [Nat.zero_add, Nat.mul_one]⟩))
                case Afi =>
                  intro L1 a' w' hI hall
                  have hS := hI.world.done (fun i hi => hall i (by simp at hi ⊢; omega))
                  have hfr := LtH.frame hI [80, 81, 82, 83, 84, 85, 86, 87, 88, 91, 89, 90] rfl rfl (fun x hx => by simp at hx ⊢; omega)
                  obtain ⟨t80, e80⟩ : ∃ t, a'.eval (.tmp 80) = t := ⟨_, rfl⟩
                  obtain ⟨t81, e81⟩ : ∃ t, a'.eval (.tmp 81) = t := ⟨_, rfl⟩
                  obtain ⟨t82, e82⟩ : ∃ t, a'.eval (.tmp 82) = t := ⟨_, rfl⟩
                  obtain ⟨t83, e83⟩ : ∃ t, a'.eval (.tmp 83) = t := ⟨_, rfl⟩
                  obtain ⟨t84, e84⟩ : ∃ t, a'.eval (.tmp 84) = t := ⟨_, rfl⟩
                  obtain ⟨t85, e85⟩ : ∃ t, a'.eval (.tmp 85) = t := ⟨_, rfl⟩
                  obtain ⟨t86, e86⟩ : ∃ t, a'.eval (.tmp 86) = t := ⟨_, rfl⟩
                  obtain ⟨t87, e87⟩ : ∃ t, a'.eval (.tmp 87) = t := ⟨_, rfl⟩
                  obtain ⟨t88, e88⟩ : ∃ t, a'.eval (.tmp 88) = t := ⟨_, rfl⟩
                  obtain ⟨t91, e91⟩ : ∃ t, a'.eval (.tmp 91) = t := ⟨_, rfl⟩
                  obtain ⟨t89, e89⟩ : ∃ t, a'.eval (.tmp 89) = t := ⟨_, rfl⟩
                  obtain ⟨t90, e90⟩ : ∃ t, a'.eval (.tmp 90) = t := ⟨_, rfl⟩
                  rw [hfr]
                  simp only [LtH.lay, List.foldl, e80, e81, e82, e83, e84, e85, e86, e87, e88, e91, e89, e90]
                  have hD := EA.done HT4.out hin (Nat.le_refl T) HB4.out hS
                  have HD := hide hD
                  clear hfr hI hall hS hD e80 e81 e82 e83 e84 e85 e86 e87 e88 e91 e89 e90
                  simp only [Act.put, List.setIfInBounds_toArray, List.set_cons_succ, List.set_cons_zero]
                  go_wp2_with fail
                  go_roundw
                  case rel => exact ⟨k + 1, hlt2, by go_num, ⟨_, TL.cong HD.out.choose_spec.1 HCG.out⟩, HD.out.choose_spec.2⟩
                  case measure => exact HGK.out
            · have hkd' : (kd != 1) = true := by simpa using hkd
              have HC := hide (TL.cong HT4.out (fun i => by rw [HN.out (i : Int) (fun h => absurd h.1 hkd), ← HLk.out]) : TL W4 T (T + 1) (o + 1) F (fun i => tlh (i : Int) P DN AN h ++ tl1 (i : Int) (P.jb h) (AN h) (k + 1)))
              go_wp2_with fail
              go_roundw
              case rel => exact ⟨k + 1, hlt2, by go_num, ⟨F, HC.out⟩, HB4.out⟩
              case measure => exact HGK.out
          · have hlt2' : ¬ (k : Int) < (DN h : Int) := by omega
            obtain rfl : k = DN h := by omega
            go_wp2_with fail
            go_roundw
            case rel => exact ⟨h + 1, hlt, by go_num, ⟨F, HT2.out⟩, HB2.out⟩
            case measure => exact HGI.out
      · have hlt' : ¬ (h : Int) < (P.nh : Int) := by omega
        obtain rfl : h = P.nh := by omega
        obtain ⟨-, lw1, e0, -⟩ := KP.out W1 HB1'.out
        have HZ := hide (KP.out W1 HB1'.out).1
        have tbs := HT1.out.bs
        go_wp2_with fail
        clear e0
        go_loopw [11] (fun v11 wx => ∃ i : Nat, 1 ≤ i ∧ i ≤ o + 1 ∧ v11 = .int .i64 (i : Int) ∧ Below W1.heap.size W1 wx) (fun v11 _ => o + 1 - (intOf v11).toNat)
        case atStart => exact ⟨1, Nat.le_refl _, by omega, rfl, Below.refl _ _⟩
        case round =>
          obtain ⟨i, hi0, hi, rfl, hb⟩ := hrel
          have HB3 := hide hb
          obtain ⟨W2, hW2⟩ : ∃ W2, W2 = wr := ⟨_, rfl⟩
          subst hW2
          have hs2' := hb.size
          clear hb
          by_cases hlt : i < o + 1
          · have hlt' : (i : Int) < (o : Int) + 1 := by omega
            have HGI := hide (meas_o hlt)
            have HT2 := hide (HT1.out.keep HB3.out)
            obtain ⟨lo, cp, hFi⟩ := HT2.out.shape hlt
            have hc := HT2.out.row.cell (i := i) hlt
            rw [hFi] at hc
            have HND := hide (HE.out.nd (i : Int))
            have HLT := hide (fun g hg => HE.out.lt (i : Int) g hg)
            have HLN := hide (show (tlh (i : Int) P DN AN P.nh).length ≤ 2048 from by
              have := tlh_le (i : Int) P DN AN P.nh (fun q hq => (HE.out.dn q (by omega)).2)
              omega)
            have HSE := hide (fun (wx : World) (hb : Below W1.heap.size W1 wx) (k : Nat) (hk : k < (tlh (i : Int) P DN AN P.nh).length) => (HT1.out.keep hb).see hlt hFi hk)
            have HCE := hide (fun (wx : World) (hb : Below W1.heap.size W1 wx) => show wx.cell? ⟨T, i, none⟩ = some (.slice lo (tlh (i : Int) P DN AN P.nh).length cp) ∧ T < wx.heap.size from by
              have R := (HT1.out.keep hb).row
              have := R.cell (i := i) hlt
              rw [hFi] at this
              exact ⟨this, R.lt⟩)
            clear hFi hc
            generalize tlh (i : Int) P DN AN P.nh = l at HND HLT HLN HSE HCE
            have h2048 := HLN.out
            obtain ⟨hc, lT⟩ := HCE.out W2 HB3.out
            have hmk : ∀ W : World, (Instr.makeSlice 45 (.int .i64 ((l.length : Int) + 9)) (.int .i64 ((l.length : Int) + 9))).run Tryz.prog W = .ok (.slice (some ⟨W.heap.size, 0, none⟩) (l.length + 9) (l.length + 9)) (W.alloc (.cells (madeCells #[.bool false] (l.length + 9)) 4)) := fun W => by
              have := Shape.run_make_z (P := Tryz.prog) 45 4 _ 1 1 Tryz.underlying45 infoB (l.length + 9) (by omega) (by omega) W
              simpa using this
            go_upto_region 23 with (fail)
            obtain ⟨W7, hW7⟩ : ∃ W7, W2.alloc (.cells (madeCells #[.bool false] (l.length + 9)) 4) = W7 := ⟨_, rfl⟩
            obtain ⟨S, hS⟩ : ∃ S, W2.heap.size = S := ⟨_, rfl⟩
            have GR := hide (show W7.rowIs S 4 (l.length + 9) (fun q => .bool (decide ((q : Int) ∈ l.take 0))) from by
              rw [← hW7, ← hS]
              have := World.rowIs_made W2 (.bool false) (l.length + 9) 4
              simpa using this)
            have HB7 := hide (show Below W1.heap.size W1 W7 from HB3.out.trans (by rw [← hW7]; exact (Below.refl _ W2).alloc hs2' _))
            have hS1 : W1.heap.size ≤ S := by omega
            rw [hW7, hS]
            clear hmk hc lT hW7 hS
            go_wp2_with fail
            go_loopw [13] (fun v13 wy => ∃ k : Nat, k ≤ l.length ∧ v13 = .int .i64 (k : Int) ∧ wy.rowIs S 4 (l.length + 9) (fun q => .bool (decide ((q : Int) ∈ l.take k))) ∧ Below W1.heap.size W1 wy) (fun v13 _ => l.length - (intOf v13).toNat)
            case atStart => exact ⟨0, Nat.zero_le _, rfl, GR.out, HB7.out⟩
            case round =>
              obtain ⟨k, hk, rfl, hr, hb⟩ := hrel
              have HR := hide hr
              have HBy := hide hb
              obtain ⟨W8, hW8⟩ : ∃ W8, W8 = wr := ⟨_, rfl⟩
              subst hW8
              obtain ⟨hc, lT⟩ := HCE.out W8 hb
              have lS := hr.lt
              clear hr
              by_cases hlt3 : k < l.length
              · have hlt3' : (k : Int) < (l.length : Int) := by omega
                have HGK := hide (meas_o hlt3)
                obtain ⟨g, x, rfl, hg, cx, hx⟩ := HSE.out W8 hb k hlt3
                obtain ⟨h0, h1⟩ := HLT.out x (List.mem_of_getElem? hx)
                obtain ⟨xn, hxn⟩ : ∃ xn : Nat, x = (xn : Int) := ⟨x.toNat, by omega⟩
                subst hxn
                have hnin : ¬ (xn : Int) ∈ l.take k := fun hm => by
                  obtain ⟨q, hq⟩ := List.getElem?_of_mem hm
                  have hql := (List.getElem?_eq_some_iff.1 hq).1
                  rw [List.length_take] at hql
                  rw [List.getElem?_take_of_lt (by omega)] at hq
                  have := (List.getElem?_inj (by omega) HND.out).1 (hq.trans hx.symm)
                  omega
                have hxl : xn < l.length + 9 := by omega
                have cs : W8.cell? ⟨S, xn, none⟩ = some (.bool false) := by
                  rw [HR.out.cell (i := xn) hxl]
                  simp [hnin]
                have fs := HR.out.frozen xn
                have hng : ¬ ((l.length : Int) + 9 ≤ (xn : Int)) := by omega
                have hw9 : IntKind.u64.wrap ((l.length : Int) + 9) = (l.length : Int) + 9 := by rw [IntKind.wrap_u64]; omega
                rw [Nat.zero_add] at cx
                have HNX := hide (show (W8.setCell ⟨S, xn, none⟩ (.bool true)).rowIs S 4 (l.length + 9) (fun q => .bool (decide ((q : Int) ∈ l.take (k + 1)))) from by
                  obtain ⟨cur, r1, r2, r3⟩ := HR.out.set xn (.bool true)
                  refine ⟨cur, r1, r2, fun j hj => ?_⟩
                  rw [r3 j hj]
                  rw [List.take_add_one, hx]
                  by_cases e : j = xn
                  · subst e; simp
                  · have : ¬ (j : Int) = (xn : Int) := by omega
                    simp [e, this])
                have HBN := hide (HBy.out.setCell (p := ⟨S, xn, none⟩) hS1 (.bool true))
                clear hnin hx hb h0 h1
                go_wp2_with fail
                go_roundw
                case rel => exact ⟨k + 1, hlt3, by go_num, HNX.out, HBN.out⟩
                case measure => exact HGK.out
              · have hlt3' : ¬ (k : Int) < (l.length : Int) := by omega
                clear hb
                go_wp2_with fail
                go_roundw
                case rel => exact ⟨i + 1, by omega, hlt, by go_num, HBy.out⟩
                case measure => exact HGI.out
          · have hlt' : ¬ (i : Int) < (o : Int) + 1 := by omega
            have HF := hide (HZ.out.trans (HB3.out.mono HZ.out.size))
            go_wp2_with fail
            go_ret
            exact ⟨rfl, HF.out⟩
end Rom
end
end Go.Proofs.YtidihnnmdmlgfaaGreat
