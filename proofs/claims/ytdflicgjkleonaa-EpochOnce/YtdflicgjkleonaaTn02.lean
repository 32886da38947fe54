/-
  EpochOnce: whatever shape, words, hands, schedule and bound are handed in, the law answers true, and the input reads as it did. No condition beyond the row's.
-/
import Derived.Test.YtdflicgjkleonaaTn01
import Derived.Deep.CutBlock
import Derived.Deep.CutRange
import Derived.Test.YtdflicgjkleonaaTp43
set_option linter.unusedVariables false
set_option linter.unusedSimpArgs false
set_option linter.unnecessarySimpa false
set_option maxRecDepth 100000
namespace Go.Proofs.Ytdflicgjkleonaa
open Go.RowKit
namespace Epoch

theorem seesA_up {w : World} {B C : Nat} {aa : Option Addr} {nh : Nat} {dn : Nat → Nat} {a : Nat → Nat → Ans} (h : SeesA w B aa nh dn a) (hBC : B ≤ C) : SeesA w C aa nh dn a := fun i hi => by
  obtain ⟨b, off, av, cap, e, l, c, q⟩ := h i hi
  refine ⟨b, off, av, cap, e, Nat.lt_of_lt_of_le l hBC, c, fun j hj => ?_⟩
  obtain ⟨b', off', e', l', c'⟩ := q j hj
  exact ⟨b', off', e', Nat.lt_of_lt_of_le l' hBC, c'⟩

set_option maxHeartbeats 16000000 in
theorem once_walk {w : World} {sh : Shp} {aw aoh aos : Option Addr} {nw cw caph caps : Nat} {P : Par} {most : Int} {r : Nat} (hr : 1 ≤ sh.f ∧ sh.f ≤ 64 → sh.f = (r : Int) ∧ P.n = 9 + r) (SH : SeesH w w.heap.size aoh P.nh P.jn P.jb) (hn63 : P.nh ≤ 9223372036854775807) (SI : SeesI w w.heap.size aos P.ns P.sched) (hjw : ∀ h, h < P.nh → ∀ j, j < P.jn h → (P.jb h j).wf) :
    Calls Try.prog 7 #[.agg #[.int .i64 sh.a, .int .i64 sh.b, .int .i64 sh.c, .int .i64 sh.d, .int .i64 sh.e, .int .i64 sh.f, .slice aw nw cw, .slice aoh P.nh caph, .slice aos P.ns caps, .int .i64 most]] w fun e w' => e = .returned (.bool true) ∧ Below w.heap.size w w' := by
  have AL := hide alive_any
  have FR := hide (fun (w1 : World) (B1 : Below w.heap.size w w1) => fresh_any (w := w1) (aw := aw) (nw := nw) (cw := cw) (caph := caph) (caps := caps) (most := most) (sh := sh) (P := P) (fun h => by rw [(hr h).1, (hr h).2]; simp) ((SH.below B1 (Nat.le_refl _)).up B1.size) hn63 ((SI.below B1 (Nat.le_refl _)).up B1.size) hjw)
  have SE0 := hide (fun base er sa k sc wa n wc en aa m ac (w' : World) (h : TB sh P most base er sa k sc wa n wc en aa m ac w') => And.intro (se_of hr h) (fun h0 : er = 0 => (hr (h h0).1).1))
  have HR := hide hr
  have HSH := hide SH
  have HJW := hide hjw
  obtain ⟨TBx, hTB⟩ : ∃ TBx, TB sh P most = TBx := ⟨_, rfl⟩
  rw [hTB] at FR SE0
  obtain ⟨s0, s1, s2, s3, s4, s5⟩ := sh
  simp only at FR HR ⊢
  clear SH SI hjw hn63 hr hTB
  obtain ⟨W0, hW0⟩ : ∃ W0, w.alloc (.cells #[.int .i64 s0, .int .i64 s1, .int .i64 s2, .int .i64 s3, .int .i64 s4, .int .i64 s5, .slice aw nw cw, .slice aoh P.nh caph, .slice aos P.ns caps, .int .i64 most] 28) = W0 := ⟨_, rfl⟩
  have R0 : W0.rowIs w.heap.size 28 10 (lrow [.int .i64 s0, .int .i64 s1, .int .i64 s2, .int .i64 s3, .int .i64 s4, .int .i64 s5, .slice aw nw cw, .slice aoh P.nh caph, .slice aos P.ns caps, .int .i64 most]) := by rw [← hW0]; exact rowL_alloc w [.int .i64 s0, .int .i64 s1, .int .i64 s2, .int .i64 s3, .int .i64 s4, .int .i64 s5, .slice aw nw cw, .slice aoh P.nh caph, .slice aos P.ns caps, .int .i64 most] _ rfl
  have B0 : Below w.heap.size w W0 := by rw [← hW0]; exact (Below.refl _ w).alloc (Nat.le_refl _) _
  have z0 : W0.heap.size = w.heap.size + 1 := by rw [← hW0]; simp
  have keep : Hid (∀ w' : World, Below W0.heap.size W0 w' → Below w.heap.size w w' ∧ w.heap.size < w'.heap.size ∧ w'.cell? ⟨w.heap.size, 0, none⟩ = some (.int .i64 s0) ∧ w'.cell? ⟨w.heap.size, 1, none⟩ = some (.int .i64 s1) ∧ w'.cell? ⟨w.heap.size, 2, none⟩ = some (.int .i64 s2) ∧ w'.cell? ⟨w.heap.size, 3, none⟩ = some (.int .i64 s3) ∧ w'.cell? ⟨w.heap.size, 4, none⟩ = some (.int .i64 s4) ∧ w'.cell? ⟨w.heap.size, 5, none⟩ = some (.int .i64 s5) ∧ w'.cell? ⟨w.heap.size, 6, none⟩ = some (.slice aw nw cw) ∧ w'.cell? ⟨w.heap.size, 7, none⟩ = some (.slice aoh P.nh caph) ∧ w'.cell? ⟨w.heap.size, 8, none⟩ = some (.slice aos P.ns caps) ∧ w'.cell? ⟨w.heap.size, 9, none⟩ = some (.int .i64 most)) := fun w' hb => by
    have q := R0.of_block (hb.block w.heap.size R0.lt)
    exact ⟨B0.trans (hb.mono B0.size), q.lt, q.cell (i := 0) (by decide), q.cell (i := 1) (by decide), q.cell (i := 2) (by decide), q.cell (i := 3) (by decide), q.cell (i := 4) (by decide), q.cell (i := 5) (by decide), q.cell (i := 6) (by decide), q.cell (i := 7) (by decide), q.cell (i := 8) (by decide), q.cell (i := 9) (by decide)⟩
  have HZ := hide z0
  clear R0 B0 z0
  go_enter Try.func7, Try.ntmps7
  go_wp2_with fail
  refine (AL.out W0).mono ?_
  rintro e w1 ⟨rfl, hb1⟩
  have B1 := hide hb1
  clear hb1 hW0 AL
  obtain ⟨Bw1, l1, c0, c1, c2, c3, c4, c5, c6, c7, c8, c9⟩ := keep.out w1 B1.out
  have HBw1 := hide Bw1
  clear Bw1
  go_wp2_with fail
  refine (FR.out w1 HBw1.out).mono ?_
  rintro e w2 ⟨hb2, sa, k, sc, wa, n, wc, en, aa, m, ac, er, rfl, hT⟩
  have SEv := hide (SE0.out _ _ _ _ _ _ _ _ _ _ _ _ _ hT)
  have B2 := hide (B1.out.trans (hb2.mono B1.out.size))
  clear hb2 hT SE0 FR HBw1 c0 c1 c2 c3 c4 c5 c6 c7 c8 c9 l1
  have s02 := B2.out.size
  obtain ⟨W3, hW3⟩ : ∃ W3, w2.alloc (.cells #[.slice sa k sc, .slice wa n wc, .bool en] 32) = W3 := ⟨_, rfl⟩
  have R3 := hide (show W3.rowIs w2.heap.size 32 3 (lrow [.slice sa k sc, .slice wa n wc, .bool en]) from by rw [← hW3]; exact rowL_alloc w2 [.slice sa k sc, .slice wa n wc, .bool en] _ rfl)
  have B23 := hide (show Below w2.heap.size w2 W3 from by rw [← hW3]; exact (Below.refl _ w2).alloc (Nat.le_refl _) _)
  have B3 := hide (B2.out.trans (B23.out.mono B2.out.size))
  clear s02
  go_upto_region 4 with (fail)
  try rw [hW3]
  clear hW3
  obtain ⟨-, l1, c0, c1, c2, c3, c4, c5, c6, c7, c8, c9⟩ := keep.out W3 B3.out
  by_cases he : er = 0
  · subst he
    obtain ⟨SE1, e5⟩ := SEv.out
    obtain ⟨⟨h1, h2⟩, hPn, hm0, hnh, hjn, hdl, hok, hk, hm, hn, hen, SS, SW, SA⟩ := SE1 rfl
    have e5 := e5 rfl
    subst e5
    obtain rfl : n = 9 + r := hn.trans hPn
    subst hm
    rw [hPn] at SW
    have hJ : Jok r P := fun h hh j hj => ⟨hok h hh j hj, HJW.out h hh j hj⟩
    obtain ⟨m0, hm0'⟩ : ∃ m0, most.toNat = m0 := ⟨_, rfl⟩
    rw [hm0'] at hm0 hdl hk hen SS SW SA
    have hK65 : k ≤ 65536 := by rw [hk]; have := (runSt_k P (st0 (kEpoch r) P (fun _ => 0)) rfl m0).1; show (runSt P (st0 (kEpoch r) P (fun _ => 0)) m0).k ≤ 65536; omega
    have LST := hide (fun (i : Nat) (hi : i < k) => law_step h1 h2 hPn hJ hm0 (m := m0) (i := i) (by rw [← hk]; exact hi))
    have ATK := hide (show (rn r P k).f 0 = (rn r P m0).f 0 from by rw [hk]; exact congrArg (fun s : St (kEpoch r) => s.f 0) (run_at_k P (st0 (kEpoch r) P (fun _ => 0)) rfl m0))
    have SSh := hide (fun (i : Nat) (hi : i < k) (wr : World) (hb : Below W3.heap.size W3 wr) => show ∃ b off, sa = some ⟨b, off, none⟩ ∧ b < wr.heap.size ∧ ∀ q, q < 6 → wr.cell? ⟨b, off + i * 6 + q, none⟩ = some (((rn r P m0).s i).cell q) from by
      obtain ⟨b, off, e, l, c⟩ := SS i (by rw [← hk]; exact hi)
      have hb2 := B23.out.trans (hb.mono B23.out.size)
      exact ⟨b, off, e, Nat.lt_of_lt_of_le l hb2.size, fun q hq => (hb2.cell (p := ⟨b, off + i * 6 + q, none⟩) l).trans (c q hq)⟩)
    have W0h := hide (fun (wr : World) (hb : Below W3.heap.size W3 wr) => show ∃ b off, wa = some ⟨b, off, none⟩ ∧ b < wr.heap.size ∧ wr.cell? ⟨b, off, none⟩ = some (.int .u64 ((rn r P m0).f 0)) from by
      obtain ⟨b, off, e, l, c⟩ := SW 0 (by omega)
      have hb2 := B23.out.trans (hb.mono B23.out.size)
      exact ⟨b, off, e, Nat.lt_of_lt_of_le l hb2.size, (hb2.cell (p := ⟨b, off + 0, none⟩) l).trans c⟩)
    have HS := hide (And.intro SW SA)
    have CNT := hide (fun (w' : World) (SHr : SeesH w' w'.heap.size aoh P.nh P.jn P.jb) (SAr : SeesA w' w'.heap.size aa P.nh (rn r P m0).done (rn r P m0).ans) => counted_ok (w := w') (caph := caph) (ac := ac) h1 h2 hnh hjn hdl hok (fun h hh j hj => (run_iv h1 h2 hPn hJ m0 hm0).av h hh j hj) SHr SAr)
    have TLE := hide (fun p => show tot (gv p) P (rn r P m0).done (rn r P m0).ans ≤ 2304 from by
      have := part_le (g := gv p) (P := P) (done := (rn r P m0).done) (ans := (rn r P m0).ans) (i := P.nh) (n := 0) (gv_le p) (fun h hh => Nat.le_trans (hdl h hh) (hjn h hh))
      show part (gv p) P (rn r P m0).done (rn r P m0).ans P.nh 0 ≤ 2304
      omega)
    have ECN := hide (fun (hc : cnt ((rn r P m0).going P) P.nh = 0) (p : Nat) (hp : p < r) => end_cn h1 h2 hPn hJ hm0 (m := m0) (fun h hh => all_done hc hdl hh) hp)
    have HEN := hide hen
    have t0 : W3.cell? ⟨w2.heap.size, 0, none⟩ = some (.slice sa k sc) := R3.out.cell (i := 0) (by decide)
    have lt3 := R3.out.lt
    clear SE1 SEv SS SW SA hok hjn hdl hen hk hm0 hm0' hJ hPn hn HJW HR c0 c1 c2 c3 c4 c5 c6 c7 c8 c9 l1
    obtain ⟨F0, hF0⟩ : ∃ F0 : Nat → Int, (fun i => (rn r P i).f 0) = F0 := ⟨_, rfl⟩
    have HF0 := hide (fun i => congrFun hF0 i)
    have f00 : F0 0 = 0 := by rw [← hF0]; rfl
    simp only [HF0.out] at LST ATK
    clear hF0
    go_wp2_with fail
    go_loopw [6, 7] (fun v6 v7 wr => ∃ i : Nat, i ≤ k ∧ v7 = .int .i64 (i : Int) ∧ v6 = .int .u64 (F0 i) ∧ Below W3.heap.size W3 wr) (fun _ v7 _ => k - (intOf v7).toNat)
    case atStart => exact ⟨0, Nat.zero_le _, rfl, by rw [f00], Below.refl _ _⟩
    case round =>
      obtain ⟨i, hi, rfl, rfl, hb⟩ := hrel
      have HB := hide hb
      obtain ⟨W4, hW4⟩ : ∃ W4, W4 = wr := ⟨_, rfl⟩
      subst hW4
      clear hb
      have t0 := (HB.out.cell (p := ⟨w2.heap.size, 0, none⟩) lt3).trans t0
      have lt4 : w2.heap.size < W4.heap.size := Nat.lt_of_lt_of_le lt3 HB.out.size
      by_cases hlt : i < k
      · have hlt' : (i : Int) < k := by omega
        obtain ⟨b, off, rfl, lb, cs⟩ := SSh.out i hlt W4 HB.out
        obtain ⟨la, lc⟩ := LST.out i hlt
        obtain ⟨x, hx⟩ : ∃ x, (rn r P m0).s i = x := ⟨_, rfl⟩
        simp only [hx] at cs la lc
        have p0 := cs 0 (by decide)
        have p1 := cs 1 (by decide)
        have p2 := cs 2 (by decide)
        have p3 := cs 3 (by decide)
        have p4 := cs 4 (by decide)
        have p5 := cs 5 (by decide)
        obtain ⟨xh, xa, xt, xd, xp, xo⟩ := x
        simp only [Stp.cell, Nat.add_zero] at p0 p1 p2 p3 p4 p5 la lc
        obtain ⟨fi, hfi⟩ : ∃ fi, F0 i = fi := ⟨_, rfl⟩
        obtain ⟨fj, hfj⟩ : ∃ fj, F0 (i + 1) = fj := ⟨_, rfl⟩
        rw [hfi, hfj] at la lc
        rw [hfi]
        have HFJ := hide hfj
        clear cs hx hfi hfj W0h HS CNT TLE ECN ATK LST SSh
        by_cases ha : xt = 0
        · subst ha
          obtain ⟨d1, d2, d3⟩ := la rfl
          subst d1 d2
          clear la lc
          by_cases hq : xp = xd
          · subst hq
            clear d3
            go_wp2_with fail
            go_roundw
            case rel => exact ⟨i + 1, hlt, vi_b, by rw [HFJ.out], HB.out.alloc HB.out.size _⟩
            case measure => exact meas_b hlt
          · have d3 : xp = u64 (xd + 1) := d3.resolve_left hq
            have g1 : IntKind.u64.wrap (xd + 1) = xp := by rw [IntKind.wrap_u64, d3]; rfl
            have hq' : (xp != xd) = true := by simpa using hq
            clear d3 hq
            go_wp2_with fail
            go_roundw
            case rel => exact ⟨i + 1, hlt, vi_b, by rw [HFJ.out], HB.out.alloc HB.out.size _⟩
            case measure => exact meas_b hlt
        · have ha' : (xt == 0) = false := by simpa using ha
          have d2 := lc ha
          subst d2
          clear la lc ha
          go_wp2_with fail
          go_roundw
          case rel => exact ⟨i + 1, hlt, vi_b, by rw [HFJ.out], HB.out.alloc HB.out.size _⟩
          case measure => exact meas_b hlt
      · have hlt' : ¬ (i : Int) < k := by omega
        have ei : i = k := by omega
        subst ei
        obtain ⟨Bw4, l1, c0, c1, c2, c3, c4, c5, c6, c7, c8, c9⟩ := keep.out W4 (B3.out.trans (HB.out.mono B3.out.size))
        have BW4 := hide Bw4
        have SHr := hide ((HSH.out.below Bw4 (Nat.le_refl _)).up Bw4.size)
        have B24 := hide (B23.out.trans (HB.out.mono B23.out.size))
        have SAr := hide (seesA_up (HS.out.2.below B24.out (Nat.le_refl _)) B24.out.size)
        have SWr := hide ((HS.out.1.below B24.out (Nat.le_refl _)).mono B24.out.size)
        clear Bw4
        rw [ATK.out]
        go_wp2_with fail
        refine (CNT.out W4 SHr.out SAr.out).mono ?_
        rintro e w5 ⟨hb5, g1, g2, rfl, R1, R2⟩
        have HB5 := hide (HB.out.trans (hb5.mono HB.out.size))
        have HR1 := hide R1
        have HR2 := hide R2
        have SW5 := hide ((SWr.out.below hb5 (Nat.le_refl _)).mono hb5.size)
        clear R1 R2 hb5 c0 c1 c2 c3 c4 c5 c6 c7 c8 c9 l1 t0 lt4 SAr SHr SWr CNT LST SSh
        obtain ⟨Bw5, l1, c0, c1, c2, c3, c4, c5, c6, c7, c8, c9⟩ := keep.out w5 (B3.out.trans (HB5.out.mono B3.out.size))
        have BW5 := hide Bw5
        have R5 := R3.out.of_block (HB5.out.block w2.heap.size lt3)
        have t1 : w5.cell? ⟨w2.heap.size, 1, none⟩ = some (.slice wa (9 + r) wc) := R5.cell (i := 1) (by decide)
        have t2 : w5.cell? ⟨w2.heap.size, 2, none⟩ = some (.bool en) := R5.cell (i := 2) (by decide)
        have lt5 : w2.heap.size < w5.heap.size := R5.lt
        obtain ⟨bw, ow, rfl, lw, cw0⟩ := W0h.out w5 HB5.out
        have w9 : wrap64 (9 + (r : Int)) = 9 + (r : Int) := by unfold wrap64; omega
        rw [HF0.out m0] at cw0
        obtain ⟨f0, hf0⟩ : ∃ f0, F0 m0 = f0 := ⟨_, rfl⟩
        rw [hf0] at cw0
        clear Bw5 R5 W0h
        have LE := hide (fun h : en = true => left_ok (wc := wc) h2 SW5.out HR1.out HR2.out (fun p _ => TLE.out p) (fun p hp => ECN.out (by have q := HEN.out; rw [h] at q; simpa using q.symm) p hp))
        clear HEN ECN TLE HR1 HR2 SW5
        rw [hf0]
        clear hf0
        have q9 : (0 : Int) < 9 + (r : Int) := by omega
        go_upto_region 16 with (fail)
        go_upto_region 18 with (fail)
        clear w9 q9
        cases en with
        | false =>
          clear LE
          go_wp2_with fail
          go_ret
          exact ⟨rfl, BW5.out⟩
        | true =>
          have LE2 := hide (LE.out rfl)
          clear LE
          go_wp2_with fail
          refine LE2.out.mono ?_
          rintro e w6 ⟨rfl, hb6⟩
          have BW6 := hide (BW5.out.trans (hb6.mono BW5.out.size))
          clear hb6
          go_wp2_with fail
          go_ret
          exact ⟨rfl, BW6.out⟩
  · have he' : (er == 0) = false := by simpa using he
    go_wp2_with fail
    go_ret
    exact ⟨rfl, (keep.out _ B3.out).1⟩
end Epoch
end Go.Proofs.Ytdflicgjkleonaa

namespace Go.Proofs.Ytdflicgjkleonaa
open Go.ChangeShapes Go.WideShapes Go.ChangeAt Go.RowKit Go.Deep
namespace EOnceLaw

theorem list1' {α : Type} {l : List α} (h : l.length = 1) : ∃ a, l = [a] := by
  match l, h with
  | [a], _ => exact ⟨a, rfl⟩

theorem isLaw : Lift.IsLaw Rows.epochOnceSpec 1 := ⟨rfl, fun H ds h => by obtain ⟨a, rfl⟩ := list1' h; rfl⟩

theorem lifted (os : Os) (started : os.Started) (H : Type) (enc : TypeId × Value → H) :
    ReturnsInHanded {} Try.checked os 7 .any (Rows.epochOnceSpec.pre6 enc Try.prog Try.f7 Rows.epochOnceRow.domain false) (Rows.epochOnceSpec.post enc Try.prog Try.f7 false true false false) := by
  refine returnsInHanded_of_change_sized (C := Try.checked) Lift.own started (by kernel_rfl) Try.func7
    (ChangeSpec.witness6 (enc := enc) (C := Try.checked) false ⟨#[], #[.agg #[.int .i64 0, .int .i64 0, .int .i64 0, .int .i64 0, .int .i64 0, .int .i64 0, .slice none 0 0, .slice none 0 0, .slice none 0 0, .int .i64 0]], []⟩ 8 (by kernel_rfl) (by kernel_rfl) (by kernel_rfl) (by kernel_rfl)) ?_
  intro W base args ds gs before hval0 hW hcnd hsz0 _
  have hgs : gs = [] := by
    obtain ⟨_, _, _, hV, _⟩ := hW
    exact (trodVars_none hV).1
  subst hgs
  refine Lift.contract enc (tb := 4) isLaw (by kernel_rfl) (by kernel_rfl) Try.underlying4 W args ds [] before hW ?_
  intro p hA0
  have hval : ∀ (j : Nat) t v, Try.f7.params[j]? = some t → args[j]? = some v → Value.okWide Try.prog W .any base t v := hval0
  have hA : DataW.TrodAll enc Try.prog W 0 (fun _ => true) true Try.f7.params.toList args.toList ds p := hA0
  rw [Try.params7] at hA hval
  obtain ⟨v0, vs0, d0, ds0, p0, q0, hargs0, rfl, rfl, k0, hA1⟩ := trodAll_cons hA
  obtain ⟨rfl, rfl, rfl⟩ := trodAll_nil hA1
  obtain rfl : args = #[v0] := by cases args; simp_all
  obtain ⟨sh, ao, n, cap, f, aoh, nh, caph, jn, jb, aos, ns, caps, sch, most, rfl, hnil, _, hs, hf, hn63, hh, hjw, hi⟩ := open_run11 (hval 0 28 v0 rfl rfl) k0
  exact Epoch.once_walk (P := ⟨9 + sh.f.toNat, nh, jn, jb, ns, sch⟩) (r := sh.f.toNat) (fun h => ⟨by omega, rfl⟩) hh (by unfold maxLen at hn63; omega) hi hjw
end EOnceLaw

theorem epochOnce_holds : Rows.EpochOnceSaid :=
  OpenClaim.holds_of_wide 7 Try.f7 rfl rfl rfl rfl rfl rfl rfl ⟨rfl, rfl, rfl, rfl, rfl⟩ rfl rfl rfl rfl rfl (by kernel_rfl) Try.func7 (by kernel_rfl)
    (of_decide_eq_true (by kernel_rfl)) (by unfold Func.isWrapper; first | (rw [if_pos (by decide +kernel)]; kernel_rfl) | (rw [if_neg (by decide +kernel)]; exact ⟨rfl, rfl⟩))
    (fun os started H enc _ => EOnceLaw.lifted os started H enc)
#print axioms epochOnce_holds
end Go.Proofs.Ytdflicgjkleonaa
