/-
  Lemmas: RoomTW.
-/
import Derived.Test.YtppgbndoijppnaaGreatTp50
namespace Go.Proofs.YtppgbndoijppnaaGreat
set_option maxHeartbeats 8000000
open Go.RowKit
set_option linter.unusedVariables false
set_option linter.unusedSimpArgs false
set_option linter.unnecessarySimpa false
set_option maxRecDepth 20000
section
namespace Rom
open Hp
theorem run_tells {sh : Shp} (h5 : Shape.R5 sh.a sh.b sh.c sh.d sh.e) {P : Par} {f : Nat → Int} (hf : ∀ i, i < P.n → 0 ≤ f i ∧ f i ≤ 18446744073709551615) (hjw : ∀ h, h < P.nh → ∀ j, j < P.jn h → (P.jb h j).wf) (hok : AllOk (kRom false sh) P) (m i : Nat) (hi : i < (runSt P (st0 (kRom false sh) P f) m).k) :
    OkT sh ((runSt P (st0 (kRom false sh) P f) m).s i) ∧ 0 ≤ ((runSt P (st0 (kRom false sh) P f) m).s i).had ∧ ((runSt P (st0 (kRom false sh) P f) m).s i).had ≤ 18446744073709551615 := by
  refine ⟨run_touches h5 hf hjw hok m i hi, ?_⟩
  obtain ⟨s, hw, hj, e, _⟩ := run_step_ok h5 hf hjw hok m i hi
  rw [e]
  exact had_bounds (wf_run h5 hf hjw hok i).1 _
variable {w : World} {ao aoh aos : Option Addr} {nw cap caph caps : Nat} {P : Par} {most : Int} {sh : Shp}
theorem touches_walk (hn : Shape.R5 sh.a sh.b sh.c sh.d sh.e → (P.n : Int) = sizeOf sh) (SH : SeesH w w.heap.size aoh P.nh P.jn P.jb) (hn63 : P.nh ≤ 9223372036854775807) (SI : SeesI w w.heap.size aos P.ns P.sched) (hjw : ∀ h, h < P.nh → ∀ j, j < P.jn h → (P.jb h j).wf) :
    Calls Tryz.prog 5 #[.agg #[.int .i64 sh.a, .int .i64 sh.b, .int .i64 sh.c, .int .i64 sh.d, .int .i64 sh.e, .int .i64 sh.f, .slice ao nw cap, .slice aoh P.nh caph, .slice aos P.ns caps, .int .i64 most]] w fun e w' => e = .returned (.bool true) ∧ Below w.heap.size w w' := by
  have FR := hide (fun (w1 : World) (B1 : Below w.heap.size w w1) => fresh_any (sh := sh) (most := most) (ao := ao) (nw := nw) (cap := cap) (caph := caph) (caps := caps) hn ((SH.below B1 (Nat.le_refl _)).up B1.size) hn63 ((SI.below B1 (Nat.le_refl _)).up B1.size) hjw)
  have OB := hide (fun (h5 : Shape.R5 sh.a sh.b sh.c sh.d sh.e) (w1 : World) => object_yes h5 (i := 1) ⟨by decide, h5.1.1⟩ w1)
  have FT' := hide (fun (base : Nat) sa k sc wa n wc en aa m ac (w1 : World) (h : FT sh P most base sa k sc wa n wc en aa m ac true w1) => show ∃ (kk : Nat) (s : Nat → Stp) (f0 f1 : Int), Shape.R5 sh.a sh.b sh.c sh.d sh.e ∧ k = kk ∧ kk ≤ 65536 ∧ SeesS w1 w1.heap.size sa kk s ∧ headAt sh 1 = f0 ∧ 8 ≤ f0 ∧ (n : Int) = f1 ∧ 13 ≤ f1 ∧ ∀ i, i < kk → ((s i).at_ = 1 ∨ (s i).at_ = 4 ∨ (s i).at_ = 5 ∨ (f0 ≤ (s i).at_ ∧ (s i).at_ < f1)) ∧ ((s i).at_ = 1 → (s i).act = 5 → (s i).ok = true → bits .and .u64 (IntKind.u64.wrap ((s i).had / 4294967296 + 1)) 4294967295 = (s i).put / 4294967296) from by
    obtain ⟨h5, T, _⟩ := h rfl
    obtain ⟨st, hst, hF, hok, rfl, rfl, _, SS, _, _⟩ := tb_sees T
    have hsz := hn h5
    obtain ⟨want, hw1, hw2, _⟩ := size_nat h5
    have hb := head_bd h5 (i := 1) ⟨by decide, h5.1.1⟩
    have he : headAt sh 1 = base0 sh := by
      unfold headAt
      rw [if_pos ⟨by decide, h5.1.1⟩]
      unfold base0
      omega
    have ha : all0 sh = sizeOf sh := rfl
    refine ⟨st.k, st.s, headAt sh 1, _, h5, rfl, ?_, SS, rfl, hb.1, rfl, by omega, fun i hi => ?_⟩
    · have := (runSt_k P (st0 (kRom false sh) P (ff sh)) rfl most.toNat).1
      rw [← hst] at this
      have := hF.2.2.2
      omega
    · have hr := run_tells h5 (fun i _ => ff_bd h5 i) hjw hok most.toNat i (by rw [← hst]; exact hi)
      rw [← hst] at hr
      obtain ⟨⟨h1, h2⟩, h3, h4⟩ := hr
      refine ⟨?_, fun a1 a2 a3 => ?_⟩
      · unfold At at h1
        rw [ha] at h1
        omega
      · rw [h2 a1 a2 a3, IntKind.wrap_u64, Int.emod_eq_of_lt (by omega) (by omega), and_low _ (by omega) (by omega)])
  obtain ⟨FX, hFX⟩ : ∃ FX, FT sh P most = FX := ⟨_, rfl⟩
  rw [hFX] at FR FT'
  clear hFX
  obtain ⟨s0, s1, s2, s3, s4, s5⟩ := sh
  simp only [Shp.val] at FR OB FT' ⊢
  clear SH SI hjw hn
  obtain ⟨W0, hW0⟩ : ∃ W0, w.alloc (.cells #[.int .i64 s0, .int .i64 s1, .int .i64 s2, .int .i64 s3, .int .i64 s4, .int .i64 s5, .slice ao nw cap, .slice aoh P.nh caph, .slice aos P.ns caps, .int .i64 most] 28) = W0 := ⟨_, rfl⟩
  have b0 : Below w.heap.size w W0 := by rw [← hW0]; exact (Below.refl _ w).alloc (Nat.le_refl _) _
  have R0 : W0.rowIs w.heap.size 28 10 (lrow [.int .i64 s0, .int .i64 s1, .int .i64 s2, .int .i64 s3, .int .i64 s4, .int .i64 s5, .slice ao nw cap, .slice aoh P.nh caph, .slice aos P.ns caps, .int .i64 most]) := by rw [← hW0]; exact rowL_alloc w [.int .i64 s0, .int .i64 s1, .int .i64 s2, .int .i64 s3, .int .i64 s4, .int .i64 s5, .slice ao nw cap, .slice aoh P.nh caph, .slice aos P.ns caps, .int .i64 most] _ rfl
  have keep : Hid (∀ w' : World, Below W0.heap.size W0 w' → Below w.heap.size w w' ∧ w.heap.size < w'.heap.size ∧ w'.cell? ⟨w.heap.size, 0, none⟩ = some (.int .i64 s0) ∧ w'.cell? ⟨w.heap.size, 1, none⟩ = some (.int .i64 s1) ∧ w'.cell? ⟨w.heap.size, 2, none⟩ = some (.int .i64 s2) ∧ w'.cell? ⟨w.heap.size, 3, none⟩ = some (.int .i64 s3) ∧ w'.cell? ⟨w.heap.size, 4, none⟩ = some (.int .i64 s4) ∧ w'.cell? ⟨w.heap.size, 5, none⟩ = some (.int .i64 s5) ∧ w'.cell? ⟨w.heap.size, 6, none⟩ = some (.slice ao nw cap) ∧ w'.cell? ⟨w.heap.size, 7, none⟩ = some (.slice aoh P.nh caph) ∧ w'.cell? ⟨w.heap.size, 8, none⟩ = some (.slice aos P.ns caps) ∧ w'.cell? ⟨w.heap.size, 9, none⟩ = some (.int .i64 most)) := fun w' hb => by
    have r := R0.of_block (hb.block w.heap.size R0.lt)
    exact ⟨b0.trans (hb.mono b0.size), r.lt, r.cell (i := 0) (by decide), r.cell (i := 1) (by decide), r.cell (i := 2) (by decide), r.cell (i := 3) (by decide), r.cell (i := 4) (by decide), r.cell (i := 5) (by decide), r.cell (i := 6) (by decide), r.cell (i := 7) (by decide), r.cell (i := 8) (by decide), r.cell (i := 9) (by decide)⟩
  have sz0 : W0.heap.size = w.heap.size + 1 := by rw [← hW0]; simp
  clear b0 R0
  go_enter Tryz.func5, Tryz.ntmps5
  go_wp2_with fail
  refine (alive_any W0).mono ?_
  rintro e w1 ⟨rfl, hb1⟩
  obtain ⟨bw1, l1, c0, c1, c2, c3, c4, c5, c6, c7, c8, c9⟩ := keep.out w1 hb1
  have HB1 := hide hb1
  have BW1 := hide bw1
  have hs1 := hb1.size
  clear hb1 bw1 hW0
  go_wp2_with fail
  refine (FR.out w1 BW1.out).mono ?_
  rintro e w2 ⟨hb2, sa, k, sc, wa, n, wc, en, aa, m, ac, ok, rfl, hT⟩
  have B2 := hide (HB1.out.trans (hb2.mono hs1))
  have hs2 := hb2.size
  clear c0 c1 c2 c3 c4 c5 c6 c7 c8 c9 FR
  obtain ⟨W3, hW3⟩ : ∃ W3, w2.alloc (.cells #[.slice sa k sc, .slice wa n wc, .bool en] 32) = W3 := ⟨_, rfl⟩
  have B23 : Below w2.heap.size w2 W3 := by rw [← hW3]; exact (Below.refl _ w2).alloc (Nat.le_refl _) _
  have HB03 := hide (B2.out.trans (B23.mono (Nat.le_trans hs1 hs2)))
  cases ok with
  | false =>
    have BW3 := hide (keep.out W3 HB03.out).1
    clear hb2 hT B23
    go_wp2_with fail
    go_ret
    exact ⟨rfl, BW3.out⟩
  | true =>
    obtain ⟨kk, s, f0, f1, h5, rfl, hk6, SS, hf0, hf8, hf1, hf13, OKS⟩ := FT'.out _ _ _ _ _ _ _ _ _ _ _ _ hT
    have R3 := hide (show W3.rowIs w2.heap.size 32 3 (lrow [.slice sa k sc, .slice wa n wc, .bool en]) from by rw [← hW3]; exact rowL_alloc w2 [.slice sa k sc, .slice wa n wc, .bool en] _ rfl)
    have hs3 : W3.heap.size = w2.heap.size + 1 := by rw [← hW3]; simp
    have HSS := hide (fun (wx : World) (hb : Below W3.heap.size W3 wx) => ((SS.below B23 (Nat.le_refl _)).below hb (by omega)).mono (show w2.heap.size ≤ wx.heap.size by have := hb.size; omega))
    have KP := hide (fun (wx : World) (hb : Below W3.heap.size W3 wx) => And.intro (R3.out.of_block (hb.block _ R3.out.lt)) (keep.out wx (HB03.out.trans (hb.mono HB03.out.size))))
    have HOB := hide (OB.out h5)
    have HOK := hide OKS
    rw [hf0] at HOB
    clear SS B23 R3 hb2 hT OKS OB FT' hf0
    obtain ⟨rw3, bw3, l3, c0, c1, c2, c3, c4, c5, c6, c7, c8, c9⟩ := KP.out W3 (Below.refl _ _)
    have t0 : W3.cell? ⟨w2.heap.size, 0, none⟩ = some (.slice sa k sc) := rw3.cell (i := 0) (by omega)
    have lt3 := rw3.lt
    clear rw3 bw3
    go_wp2_with fail
    refine (HOB.out W3).mono ?_
    rintro e w4 ⟨rfl, hb4⟩
    have HB4 := hide hb4
    have hs4 := hb4.size
    have t4 : w4.cell? ⟨w2.heap.size, 0, none⟩ = some (.slice sa k sc) := (hb4.cell (p := ⟨w2.heap.size, 0, none⟩) lt3).trans t0
    have lt4 : w2.heap.size < w4.heap.size := by omega
    clear c0 c1 c2 c3 c4 c5 c6 c7 c8 c9 t0 hb4 hW3 HOB
    go_wp2_with fail
    clear t4
    go_loopw [8] (fun v8 wr => ∃ q : Nat, q ≤ k ∧ v8 = .int .i64 (q : Int) ∧ Below W3.heap.size W3 wr) (fun v8 _ => k - (intOf v8).toNat)
    case atStart => exact ⟨0, Nat.zero_le _, rfl, HB4.out⟩
    case round =>
      obtain ⟨q, hq, rfl, hb⟩ := hrel
      have HBr := hide hb
      have hsr := hb.size
      obtain ⟨Wr, hWr⟩ : ∃ Wr, Wr = wr := ⟨_, rfl⟩
      subst hWr
      obtain ⟨rwr, bwr, lr, -⟩ := KP.out Wr hb
      have t0 : Wr.cell? ⟨w2.heap.size, 0, none⟩ = some (.slice sa k sc) := rwr.cell (i := 0) (by omega)
      have ltr := rwr.lt
      have HBW := hide bwr
      clear hb rwr bwr
      by_cases hlt : q < k
      · have hlt' : (q : Int) < (k : Int) := by omega
        have HGQ := hide (meas_o hlt)
        obtain ⟨b, off, he, hbl, hcs⟩ := HSS.out Wr HBr.out q hlt
        subst he
        have x0 := hcs 0 (by omega)
        have x1 := hcs 1 (by omega)
        have x2 := hcs 2 (by omega)
        have x3 := hcs 3 (by omega)
        have x4 := hcs 4 (by omega)
        have x5 := hcs 5 (by omega)
        have hA := HOK.out q hlt
        obtain ⟨x, hx⟩ : ∃ x, s q = x := ⟨_, rfl⟩
        rw [hx] at x0 x1 x2 x3 x4 x5 hA
        simp only [Stp.cell] at x0 x1 x2 x3 x4 x5
        rw [Nat.add_zero] at x0
        obtain ⟨xh, xa, xt, xd, xp, xo⟩ := x
        simp only at x0 x1 x2 x3 x4 x5 hA
        obtain ⟨hW, hC⟩ := hA
        obtain ⟨W4, hW4⟩ : ∃ W4, Wr.alloc (.cells #[.int .i64 xh, .int .i64 xa, .int .i64 xt, .int .u64 xd, .int .u64 xp, .bool xo] 69) = W4 := ⟨_, rfl⟩
        have R4 := hide (show W4.rowIs Wr.heap.size 69 6 (lrow [.int .i64 xh, .int .i64 xa, .int .i64 xt, .int .u64 xd, .int .u64 xp, .bool xo]) from by rw [← hW4]; exact rowL_alloc Wr [.int .i64 xh, .int .i64 xa, .int .i64 xt, .int .u64 xd, .int .u64 xp, .bool xo] _ rfl)
        have B4 : Below Wr.heap.size Wr W4 := by rw [← hW4]; exact (Below.refl _ Wr).alloc (Nat.le_refl _) _
        have HB4' := hide (HBr.out.trans (B4.mono hsr))
        have hs4' : W4.heap.size = Wr.heap.size + 1 := by rw [← hW4]; simp
        have r4 := R4.out
        have y1 : W4.cell? ⟨Wr.heap.size, 1, none⟩ = some (.int .i64 xa) := r4.cell (i := 1) (by decide)
        have y2 : W4.cell? ⟨Wr.heap.size, 2, none⟩ = some (.int .i64 xt) := r4.cell (i := 2) (by decide)
        have y3 : W4.cell? ⟨Wr.heap.size, 3, none⟩ = some (.int .u64 xd) := r4.cell (i := 3) (by decide)
        have y4 : W4.cell? ⟨Wr.heap.size, 4, none⟩ = some (.int .u64 xp) := r4.cell (i := 4) (by decide)
        have y5 : W4.cell? ⟨Wr.heap.size, 5, none⟩ = some (.bool xo) := r4.cell (i := 5) (by decide)
        have l4 : Wr.heap.size < W4.heap.size := by omega
        have r3 := (KP.out W4 HB4'.out).1
        have t1 : W4.cell? ⟨w2.heap.size, 1, none⟩ = some (.slice wa n wc) := r3.cell (i := 1) (by decide)
        have lt4' := r3.lt
        clear hx hcs B4 r4 r3
        go_upto_region 11 with (fail)
        clear x0 x1 x2 x3 x4 x5 hW4 t0
        by_cases e1 : xt = 1
        · subst e1
          have g1 : ¬ f1 ≤ 1 := by omega
          have g2 : ¬ (n : Int) ≤ 1 := by omega
          clear hW
          by_cases e2 : xa = 5
          · subst e2
            cases xo with
            | false =>
              clear hC
              go_wp2_with fail
              go_roundw
              case rel => exact ⟨q + 1, hlt, by go_num, HB4'.out⟩
              case measure => exact HGQ.out
            | true =>
              have hC' := hC rfl rfl rfl
              have z1 : (xp / 4294967296 != xp / 4294967296) = false := by simp
              clear hC
              go_wp2_with fail
              go_roundw
              case rel => exact ⟨q + 1, hlt, by go_num, HB4'.out⟩
              case measure => exact HGQ.out
          · have e2' : (xa == 5) = false := by simpa using e2
            clear hC
            go_wp2_with fail
            go_roundw
            case rel => exact ⟨q + 1, hlt, by go_num, HB4'.out⟩
            case measure => exact HGQ.out
        · have e1' : (xt == 1) = false := by simpa using e1
          clear hC
          rcases hW with h | rfl | rfl | ⟨ha, hb⟩
          · exact absurd h e1
          · have g2 : ¬ (n : Int) ≤ 4 := by omega
            go_wp2_with fail
            go_roundw
            case rel => exact ⟨q + 1, hlt, by go_num, HB4'.out⟩
            case measure => exact HGQ.out
          · have g2 : ¬ (n : Int) ≤ 5 := by omega
            go_wp2_with fail
            go_roundw
            case rel => exact ⟨q + 1, hlt, by go_num, HB4'.out⟩
            case measure => exact HGQ.out
          · have g2 : ¬ (n : Int) ≤ xt := by omega
            have g3 : ¬ xt < f0 := by omega
            have g4 : (xt == 4) = false := by simp; omega
            have g5 : (xt == 5) = false := by simp; omega
            go_wp2_with fail
            go_roundw
            case rel => exact ⟨q + 1, hlt, by go_num, HB4'.out⟩
            case measure => exact HGQ.out
      · have hlt' : ¬ (q : Int) < (k : Int) := by omega
        go_wp2_with fail
        go_ret
        exact ⟨rfl, HBW.out⟩
end Rom
end
end Go.Proofs.YtppgbndoijppnaaGreat
