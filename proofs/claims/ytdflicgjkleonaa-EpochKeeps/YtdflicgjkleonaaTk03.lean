/-
  Lemmas: EpochKW.
-/
import Derived.Test.YtdflicgjkleonaaTk01
import Derived.Test.YtdflicgjkleonaaTk02
import Derived.Deep.CutBlock
set_option linter.unusedVariables false
set_option linter.unusedSimpArgs false
set_option linter.unnecessarySimpa false
set_option maxRecDepth 20000
namespace Go.Proofs.Ytdflicgjkleonaa
open Go.RowKit
namespace Epoch
open KV
theorem fieldR2 (w : World) (b : Nat) : (Instr.fieldAt 28 (.pointer (some ⟨b, 0, none⟩)) 2).run Try.prog w = .ok (.pointer (some ⟨b, 7, none⟩)) w := by simp [go_sem]
variable {w : World} {ao aoh aos : Option Addr} {cap caph caps : Nat} {P : Par} {f : Nat → Int} {most : Int} {sh : Shp}
set_option maxHeartbeats 16000000 in
theorem keeps_walk (S : Sees w w.heap.size ao P.n f) (hnil : ao = none → P.n = 0 ∧ cap = 0) (hf : ∀ i, i < P.n → 0 ≤ f i ∧ f i ≤ 18446744073709551615) (SH : SeesH w w.heap.size aoh P.nh P.jn P.jb) (SI : SeesI w w.heap.size aos P.ns P.sched) (hjw : ∀ h, h < P.nh → ∀ j, j < P.jn h → (P.jb h j).wf)
    (hnlI : aos = none → P.ns = 0 ∧ caps = 0) (hnlH : ∀ h, h < P.nh → ∀ b off c, aoh = some ⟨b, off, none⟩ → w.cell? ⟨b, off + h, none⟩ = some (.slice none (P.jn h) c) → c = 0)
    (hb1 : (P.n + 2) * 8 ≤ 140737488355328) (hb2 : (P.nh + 1) * 24 ≤ 140737488355328) (hb3 : ∀ h, h < P.nh → (P.jn h + 1) * 40 ≤ 140737488355328) (hb4 : (P.ns + 2) * 8 ≤ 140737488355328) :
    Calls Try.prog 5 #[.agg #[.int .i64 sh.a, .int .i64 sh.b, .int .i64 sh.c, .int .i64 sh.d, .int .i64 sh.e, .int .i64 sh.f, .slice ao P.n cap, .slice aoh P.nh caph, .slice aos P.ns caps, .int .i64 most]] w fun e w' => e = .returned (.bool true) ∧ Below w.heap.size w w' := by
  obtain ⟨⟨vk, vs, vn, vff, ven, vm, vdn, van, ver⟩, D, R, v1, v2, v3, v4, KD, KR, v5, v6⟩ := views3 sh P f most (by omega) hf hjw
  simp only at v1 v2 v3 v4
  have ups : Hid (∀ w1, Below w.heap.size w w1 → Sees w1 w1.heap.size ao P.n f ∧ SeesH w1 w1.heap.size aoh P.nh P.jn P.jb ∧ SeesI w1 w1.heap.size aos P.ns P.sched) := fun w1 B1 =>
    ⟨(S.below B1 (Nat.le_refl _)).mono B1.size, (SH.below B1 (Nat.le_refl _)).up B1.size, (SI.below B1 (Nat.le_refl _)).up B1.size⟩
  have HRP := hide (fun (w1 : World) (B1 : Below w.heap.size w w1) => v5 w1 ao cap aoh caph aos caps (ups.out w1 B1).1 hnil (ups.out w1 B1).2.1 (ups.out w1 B1).2.2)
  have HPP := hide v6
  have HS0 := hide S
  have HSH := hide SH
  have HSI := hide SI
  have HNW := hide hnil
  have HNI := hide hnlI
  have HNH := hide hnlH
  have HF := hide hf
  have HB3 := hide hb3
  have HKD := hide KD
  have HKR := hide KR
  have HJW := hide hjw
  obtain ⟨s0, s1, s2, s3, s4, s5⟩ := sh
  simp only [Shp.val] at HRP HPP ⊢
  clear S SH SI hjw hnil hf v5 v6 hnlI hnlH hb3 KD KR
  obtain ⟨W0, hW0⟩ : ∃ W0, w.alloc (.cells #[.int .i64 s0, .int .i64 s1, .int .i64 s2, .int .i64 s3, .int .i64 s4, .int .i64 s5, .slice ao P.n cap, .slice aoh P.nh caph, .slice aos P.ns caps, .int .i64 most] 28) = W0 := ⟨_, rfl⟩
  have b0 : Below w.heap.size w W0 := by rw [← hW0]; exact (Below.refl _ w).alloc (Nat.le_refl _) _
  have R0 : W0.rowIs w.heap.size 28 10 (lrow [.int .i64 s0, .int .i64 s1, .int .i64 s2, .int .i64 s3, .int .i64 s4, .int .i64 s5, .slice ao P.n cap, .slice aoh P.nh caph, .slice aos P.ns caps, .int .i64 most]) := by rw [← hW0]; exact rowL_alloc w [.int .i64 s0, .int .i64 s1, .int .i64 s2, .int .i64 s3, .int .i64 s4, .int .i64 s5, .slice ao P.n cap, .slice aoh P.nh caph, .slice aos P.ns caps, .int .i64 most] _ rfl
  have keep : Hid (∀ w' : World, Below W0.heap.size W0 w' → Below w.heap.size w w' ∧ w.heap.size < w'.heap.size ∧ w'.cell? ⟨w.heap.size, 0, none⟩ = some (.int .i64 s0) ∧ w'.cell? ⟨w.heap.size, 1, none⟩ = some (.int .i64 s1) ∧ w'.cell? ⟨w.heap.size, 2, none⟩ = some (.int .i64 s2) ∧ w'.cell? ⟨w.heap.size, 3, none⟩ = some (.int .i64 s3) ∧ w'.cell? ⟨w.heap.size, 4, none⟩ = some (.int .i64 s4) ∧ w'.cell? ⟨w.heap.size, 5, none⟩ = some (.int .i64 s5) ∧
      w'.cell? ⟨w.heap.size, 6, none⟩ = some (.slice ao P.n cap) ∧ w'.cell? ⟨w.heap.size, 7, none⟩ = some (.slice aoh P.nh caph) ∧ w'.cell? ⟨w.heap.size, 8, none⟩ = some (.slice aos P.ns caps) ∧ w'.cell? ⟨w.heap.size, 9, none⟩ = some (.int .i64 most)) := fun w' hb => by
    have r := R0.of_block (hb.block w.heap.size R0.lt)
    exact ⟨b0.trans (hb.mono b0.size), r.lt, r.cell (i := 0) (by decide), r.cell (i := 1) (by decide), r.cell (i := 2) (by decide), r.cell (i := 3) (by decide), r.cell (i := 4) (by decide), r.cell (i := 5) (by decide), r.cell (i := 6) (by decide), r.cell (i := 7) (by decide), r.cell (i := 8) (by decide), r.cell (i := 9) (by decide)⟩
  have sz0 : W0.heap.size = w.heap.size + 1 := by rw [← hW0]; simp
  have lenW : (P.n : Int) ≤ 9223372036854775805 := by omega
  have lenI : (P.ns : Int) ≤ 9223372036854775805 := by omega
  have lenH : (P.nh : Int) ≤ 9223372036854775805 := by omega
  have mxW : P.n + 2 ≤ maxLen := by unfold maxLen; omega
  have mxI : P.ns + 2 ≤ maxLen := by unfold maxLen; omega
  have mxH : P.nh + 1 ≤ maxLen := by unfold maxLen; omega
  clear b0 R0
  obtain ⟨i46, hi46, hz46, hs46, hy46⟩ := info46e
  obtain ⟨i3, hi3, hz3, hs3, hy3⟩ := info3e
  obtain ⟨iJ, hiJ, hzJ, hsJ, hyJ⟩ := infoJ
  obtain ⟨iS, hiS, hzS, hsS, hyS⟩ := infoSl
  go_enter Try.func5, Try.ntmps5
  go_wp2_with fail
  refine (alive_any W0).mono ?_
  rintro e w1 ⟨rfl, hb1'⟩
  obtain ⟨bw1, l1, c0, c1, c2, c3, c4, c5, c6, c7, c8, c9⟩ := keep.out w1 hb1'
  have HB1 := hide hb1'
  have BW1 := hide bw1
  have hs1 := hb1'.size
  have S1 := hide (ups.out w1 bw1).1
  clear hb1' bw1 hW0 c0 c1 c2 c3 c4 c5 c7 c9
  go_wp2_with (first
    | (at_builtin
       refine wpList_append_opt rfl (.tmp 24) (.tmp 26) 24 rfl w1.heap.size 42 i46 (.int .u64 0) 1 8 Try.underlying24 hi46 hz46 hs46 hy46 rfl (by decide) (.slice (some ⟨w1.heap.size, 0, none⟩) 0 0) 0 [] rfl (by have := World.ownsRow_lit (base := w1.heap.size) (e := 42) (size := 1) w1 #[] 0 (by simp) (by unfold maxLen; omega) rfl; simpa using this) ao P.n cap (wordCells P.n f) rfl HNW.out (by simp [wordCells]) (Sees.news (S1.out.alloc _)) (wordCells_one P.n f) (by unfold maxLen; omega) (by omega) (by simp) ?_
       intro v4 w4 hown4 hgrow4 hnn
       rw [Nat.zero_add, List.nil_append] at hown4
       obtain ⟨g4, c4, rfl, _, hg4⟩ := owned_row hown4 (fun he => by have := hnn he; cases this) HF.out
       have B4 := hide (show Below w1.heap.size w1 w4 from ((Below.refl _ w1).alloc (Nat.le_refl _) (.cells #[] 42)).grown hgrow4 (by simp) (by simp [Value.ownBlock]))
       have O4 := hide hown4
       clear hown4 hgrow4 hnn c6 c8)
    | (at_builtin
       refine wpList_append_opt rfl (.tmp 27) (.tmp 28) 24 rfl w1.heap.size 42 i46 (.int .u64 0) 1 8 Try.underlying24 hi46 hz46 hs46 hy46 rfl (by decide) (.slice (some ⟨g4, 0, none⟩) P.n c4) P.n (wordCells P.n f) rfl (O4.out.alloc _) (some ⟨w4.heap.size, 0, none⟩) 2 2 [.int .u64 71, .int .u64 72] rfl (fun h => by cases h) rfl (fun ad had q u hu => by cases had; rw [Go.WideShapes.add_plain]; match q, hu with | 0, hu => injection hu with hu; subst hu; simp | 1, hu => injection hu with hu; subst hu; simp) (by simp [Value.oneCell']) mxW hb1 (by have := B4.out.size; simp; omega) ?_
       intro v5 w5 hown5 hgrow5 hnn5
       obtain ⟨gw, cw, Fw, rfl, hgw, roww, prew, hcw, hmw⟩ := row_of_owns hown5 (by omega)
       have lgw5 := roww.lt
       have B5 := hide (show Below w1.heap.size w1 w5 from B4.out.trans ((((Below.refl _ w4).alloc (Nat.le_refl _) _).mono B4.out.size).trans (grown_below (r := g4) (by simpa [Value.ownBlock] using hgrow5) (by have := B4.out.size; simp; omega) hg4)))
       have BW5 := hide (HB1.out.trans (B5.out.mono hs1))
       have ROWW := hide roww
       have PREW := hide prew
       have s5' := B5.out.size
       obtain ⟨bw5, l5, -, -, -, -, -, -, c6, c7, c8, c9⟩ := keep.out w5 BW5.out
       have I5 := hide (ups.out w5 bw5).2.2
       clear hown5 hgrow5 hnn5 roww prew O4 c6 c7 c9)
    | (at_builtin
       refine wpList_append_opt rfl (.tmp 30) (.tmp 32) 26 rfl w5.heap.size 3 i3 (.int .i64 0) 1 8 Try.underlying26 hi3 hz3 hs3 hy3 rfl (by decide) (.slice (some ⟨w5.heap.size, 0, none⟩) 0 0) 0 [] rfl (by have := World.ownsRow_lit (base := w5.heap.size) (e := 3) (size := 1) w5 #[] 0 (by simp) (by unfold maxLen; omega) rfl; simpa using this) aos P.ns caps (numCells P.ns P.sched) rfl HNI.out (by simp [numCells]) (seesI_news (seesI_alloc I5.out _)) (numCells_one P.ns P.sched) (by unfold maxLen; omega) (by omega) (by simp) ?_
       intro v6 w6 hown6 hgrow6 hnn6
       rw [Nat.zero_add, List.nil_append] at hown6
       obtain ⟨g6, c6', rfl, hg6, _⟩ := owned_some hown6 (fun he => by have := hnn6 he; cases this)
       have B6 := hide (show Below w5.heap.size w5 w6 from ((Below.refl _ w5).alloc (Nat.le_refl _) (.cells #[] 3)).grown hgrow6 (by simp) (by simp [Value.ownBlock]))
       have O6 := hide hown6
       clear hown6 hgrow6 hnn6 c8)
    | (at_builtin
       refine wpList_append_opt rfl (.tmp 33) (.tmp 34) 26 rfl w5.heap.size 3 i3 (.int .i64 0) 1 8 Try.underlying26 hi3 hz3 hs3 hy3 rfl (by decide) (.slice (some ⟨g6, 0, none⟩) P.ns c6') P.ns (numCells P.ns P.sched) rfl (O6.out.alloc _) (some ⟨w6.heap.size, 0, none⟩) 2 2 [.int .i64 73, .int .i64 74] rfl (fun h => by cases h) rfl (fun ad had q u hu => by cases had; rw [Go.WideShapes.add_plain]; match q, hu with | 0, hu => injection hu with hu; subst hu; simp | 1, hu => injection hu with hu; subst hu; simp) (by simp [Value.oneCell']) mxI hb4 (by have := B6.out.size; simp; omega) ?_
       intro v7 w7 hown7 hgrow7 hnn7
       obtain ⟨gs, cs, Fs, rfl, hgs, rows, pres, hcs, hms⟩ := row_of_owns hown7 (by omega)
       have B7 := hide (show Below w5.heap.size w5 w7 from B6.out.trans ((((Below.refl _ w6).alloc (Nat.le_refl _) _).mono B6.out.size).trans (grown_below (r := g6) (by simpa [Value.ownBlock] using hgrow7) (by have := B6.out.size; simp; omega) hg6)))
       have BW7 := hide (BW5.out.trans (B7.out.mono BW5.out.size))
       have ROWS := hide rows
       have PRES := hide pres
       have ROWW7 := hide (ROWW.out.of_block (B7.out.block gw ROWW.out.lt))
       have s7' := B7.out.size
       have hwx : P.n ≤ cw := by omega
       have hsx : P.ns ≤ cs := by omega
       obtain ⟨bw7, l7, -, -, -, -, -, -, c6, c7, c8, c9⟩ := keep.out w7 BW7.out
       clear hown7 hgrow7 hnn7 rows pres O6 c7 c9 ROWW))
  have hwx' : (P.n : Int) ≤ (cw : Int) := by omega
  have hsx' : (P.ns : Int) ≤ (cs : Int) := by omega
  have ga : ¬ (cw : Int) < (P.n : Int) := by omega
  have gb : ¬ (cs : Int) < (P.ns : Int) := by omega
  have gc : ¬ cw < P.n := by omega
  have gd : ¬ cs < P.ns := by omega
  go_region_held (fun w' => w'.cell? ⟨w.heap.size, 6, none⟩ = some (.slice ao P.n cap) ∧ w'.cell? ⟨w.heap.size, 8, none⟩ = some (.slice aos P.ns caps)) (go_keep) (fail)
  go_wp2_with fail
  obtain ⟨W8, hW8⟩ : ∃ W8, (w7.alloc (.cells #[.int .i64 0, .int .i64 0, .int .i64 0, .int .i64 0, .int .i64 0, .int .i64 0, .slice (some ⟨gw, 0, none⟩) P.n cw, .slice none 0 0, .slice (some ⟨gs, 0, none⟩) P.ns cs, .int .i64 0] 28)).drew = W8 := ⟨_, rfl⟩
  have RO8 : W8.rowIs w7.heap.size 28 10 (ownC P gw gs cw cs (.slice none 0 0)) := by
    rw [← hW8]
    exact (rowIs_cells _ 28 _ 10 rfl (fun i hi => by
      match i, hi with
      | 0, _ | 1, _ | 2, _ | 3, _ | 4, _ | 5, _ | 6, _ | 7, _ | 8, _ | 9, _ => rfl)).drew
  have sz8 : W8.heap.size = w7.heap.size + 1 := by rw [← hW8]; simp
  have B8 := hide (show Below W0.heap.size W0 W8 from by rw [← hW8]; exact (BW7.out.alloc BW7.out.size _).drew)
  have lw := ROWW7.out.lt
  have ls := ROWS.out.lt
  have s5'' := BW5.out.size
  obtain ⟨bo, hbo⟩ : ∃ b, w7.heap.size = b := ⟨_, rfl⟩
  have K8 : ∃ blk c, KS P f 28 W0.heap.size W8 blk c (fun _ => 0) 0 0 0 gw gs bo cw cs (.slice none 0 0) (.slice none 0 0) := by
    have r1 : W8.rowIs gw 42 (cw * 1) Fw := by rw [← hW8]; exact (ROWW7.out.alloc _).drew
    have r2 : W8.rowIs gs 3 (cs * 1) Fs := by rw [← hW8]; exact (ROWS.out.alloc _).drew
    rw [hbo] at RO8
    exact KS.start r1 PREW.out hcw r2 PRES.out hcs RO8 (by omega) (by omega) (by omega) (by omega) (by omega) (by omega)
  have HK8 := hide K8
  clear RO8 K8 ROWW7 ROWS PREW PRES c6 c8
  rw [hbo]
  rw [hbo] at sz8 lw ls
  simp only [hW8]
  have BIG := hide (And.intro lenW (And.intro lenI lenH))
  have BIGH := hide hb2
  have HV := hide (And.intro v1 (And.intro v2 (And.intro v3 v4)))
  clear hW8 hb1 hb2 hb4 lenW lenI lenH mxW mxI mxH v1 v2 v3 v4 hcw hmw hcs hms ga gb gc gd hwx hsx hwx' hsx' hs1 s5' s7' s5'' lgw5 lw ls hgw hgs hg4 hg6 B4 B5 BW5 B6 B7 BW7 S1 I5 HB1 BW1 bw5 bw7 l1 l5 l7
  go_loopw [6, 7] (fun v i wr => ∃ k blk c cp vh, k ≤ P.nh ∧ i = .int .i64 (k : Nat) ∧ KS P f 28 W0.heap.size wr blk c cp k k k gw gs bo cw cs v vh ∧ Below W0.heap.size W0 wr) (fun _ i _ => P.nh - (intOf i).toNat)
  case atStart =>
    obtain ⟨blk, c, K0⟩ := HK8.out
    exact ⟨0, blk, c, _, _, Nat.zero_le _, rfl, K0, B8.out⟩
  case round =>
    obtain ⟨k, blk, c, cp, vh, hk, rfl, K1, B1⟩ := hrel
    obtain ⟨bwr, lr, d0, d1, d2, d3, d4, d5, d6, d7, d8, d9⟩ := keep.out wr B1
    clear HK8
    by_cases hlt : k < P.nh
    · have hlt' : (k : Int) < P.nh := by omega
      obtain ⟨bh, offh, av, cv, e0, hl1, hc0, hj0⟩ := HSH.out k hlt
      have hc1 : wr.cell? ⟨bh, offh + k, none⟩ = some (.slice av (P.jn k) cv) := (bwr.cell (p := ⟨bh, offh + k, none⟩) hl1).trans hc0
      have hj1 : SeesJ wr w.heap.size av (P.jn k) (P.jb k) := hj0.below bwr (Nat.le_refl _)
      have hcv : av = none → P.jn k = 0 ∧ cv = 0 := fun e => by
        refine ⟨?_, HNH.out k hlt bh offh cv e0 (by rw [← e]; exact hc0)⟩
        rcases Nat.eq_zero_or_pos (P.jn k) with h | h
        · exact h
        · obtain ⟨_, _, e', _⟩ := hj0 0 h
          rw [e] at e'; cases e'
      have hbk := HB3.out k hlt
      have HC0 := hide hc0
      obtain ⟨jk, hjk⟩ : ∃ x, P.jn k = x := ⟨_, rfl⟩
      obtain ⟨pj, hpj⟩ : ∃ x, P.jb k = x := ⟨_, rfl⟩
      rw [hjk] at hc1 hj1 hcv hbk HC0
      rw [hpj] at hj1
      have HJ := hide hj1
      have HCV := hide hcv
      have HK := hide K1
      have HB := hide B1
      have sz1 := B1.size
      have szw := bwr.size
      have HM := hide (show 0 + jk ≤ maxLen ∧ (0 + jk) * 40 ≤ 140737488355328 ∧ jk + 1 ≤ maxLen ∧ (jk + 1) * 40 ≤ 140737488355328 ∧ k + 1 ≤ maxLen ∧ (k + 1) * 24 ≤ 140737488355328 by have := BIGH.out; unfold maxLen; omega)
      subst e0
      clear hj1 hcv K1 B1 hc0 hj0 d0 d1 d2 d3 d4 d5 d6 d8 d9
      have lbh : bh < wr.heap.size := by omega
      have HM2 := hide (show k + 1 ≤ maxLen ∧ (k + 1) * 24 ≤ 140737488355328 from HM.out.2.2.2.2)
      have HGK := hide (And.intro (up_wrap (k := k) (by have := BIG.out.2.2; omega)) (meas_up hlt))
      clear hbk
      go_upto_block 1 with (fail)
      go_cut [6] from 47 to 80 (fun s6 wx => ∃ blk7 c7 cp7 vh7, KS P f 28 W0.heap.size wx blk7 c7 cp7 (k + 1) (k + 1) (k + 1) gw gs bo cw cs s6 vh7 ∧ Below W0.heap.size W0 wx)
      case first =>
        go_wp2_with (first
          | (at_builtin
             refine wpList_append_opt rfl (.tmp 54) (.tmp 59) 79 rfl wr.heap.size 44 iJ (.agg #[.int .i64 0, .int .i64 0, .int .i64 0, .int .i64 0, .int .u64 0]) 5 40 Try.underlying79 hiJ hzJ hsJ hyJ rfl (by decide) (.slice (some ⟨wr.heap.size, 0, none⟩) 0 0) 0 [] rfl (by have := World.ownsRow_lit (base := wr.heap.size) (e := 44) (size := 5) wr #[] 0 (by simp) (by unfold maxLen; omega) rfl; simpa using this) av jk cv (jobCells pj jk) rfl HCV.out (jobCells_length pj jk) (sees_news (HJ.out.below ((Below.refl w.heap.size wr).alloc szw _) (Nat.le_refl _))) (jobCells_one pj jk) HM.out.1 HM.out.2.1 (by simp) ?_
             intro v4' w4' hown4 hgrow4 hnn
             rw [Nat.zero_add, List.nil_append] at hown4
             obtain ⟨g4', c4', rfl, hg4', _⟩ := owned_some hown4 (fun he => by have := hnn he; cases this)
             have O4 := hide hown4
             have BB4 := hide (show Below wr.heap.size wr w4' from ((Below.refl _ wr).alloc (Nat.le_refl _) (.cells #[] 44)).grown hgrow4 (by simp) (by simp [Value.ownBlock]))
             have sz4 := BB4.out.size
             clear hown4 hgrow4 hnn)
          | (at_builtin
             refine wpList_append_opt rfl (.tmp 60) (.tmp 62) 79 rfl wr.heap.size 44 iJ (.agg #[.int .i64 0, .int .i64 0, .int .i64 0, .int .i64 0, .int .u64 0]) 5 40 Try.underlying79 hiJ hzJ hsJ hyJ rfl (by decide) (.slice (some ⟨g4', 0, none⟩) jk c4') jk (jobCells pj jk) rfl (O4.out.alloc _) (some ⟨w4'.heap.size, 0, none⟩) 1 1 [.int .i64 75, .int .i64 0, .int .i64 0, .int .i64 0, .int .u64 0] rfl (fun h => by cases h) rfl (fun ad had q u hu => by cases had; rw [Go.WideShapes.add_plain]; match q, hu with | 0, hu => injection hu with hu; subst hu; simp | 1, hu => injection hu with hu; subst hu; simp | 2, hu => injection hu with hu; subst hu; simp | 3, hu => injection hu with hu; subst hu; simp | 4, hu => injection hu with hu; subst hu; simp) (by simp [Value.oneCell']) HM.out.2.2.1 HM.out.2.2.2.1 (by simp; omega) ?_
             intro v5' w5' hown5 hgrow5 hnn5
             obtain ⟨g5, c5, F5, rfl, hg5, row5, pre5, hc5, hm5⟩ := row_of_owns hown5 (by omega)
             have BB5 := hide (show Below wr.heap.size wr w5' from BB4.out.trans ((((Below.refl _ w4').alloc (Nat.le_refl _) _).mono BB4.out.size).trans (grown_below (r := g4') (by simpa [Value.ownBlock] using hgrow5) (by have := BB4.out.size; simp; omega) hg4')))
             have sz5 := BB5.out.size
             have K5 := hide (HK.out.addRow sz1 (Touch.of_below BB5.out _) hg5 row5 (by rw [hjk]; exact hc5) (by rw [hjk, hpj]; exact pre5))
             clear hown5 hgrow5 hnn5 row5 pre5 O4 d7)
          | (at_builtin
             refine wpList_append_d rfl (.tmp 64) (.tmp 66) 25 rfl W0.heap.size 79 iS (.slice none 0 0) 1 24 Try.underlying25 hiS hzS hsS hyS rfl (by decide) u6 k (fullL P (upd blk (.trow k) g5) (upd cp k c5) k) rfl (K5.out.full.owns (K5.out.has.alloc _) (fullL_len _ _ _ _)) ⟨w5'.heap.size, 0, none⟩ 1 1 [.slice (some ⟨g5, 0, none⟩) (jk + 1) c5] rfl rfl (fun q u hu => by rw [Go.WideShapes.add_plain]; match q, hu with | 0, hu => injection hu with hu; subst hu; simp) (by simp [Value.oneCell']) HM.out.2.2.2.2.1 HM.out.2.2.2.2.2 (by simp; omega) ?_
             intro v6' w6' hown6 hgrow6 hnn6 hd6
             obtain ⟨blk6, c6'', K6, e6⟩ := K5.out.addF (Nat.lt_succ_self k) (by omega) ((Touch.refl w5' (fun _ => False)).alloc (.cells #[.slice (some ⟨g5, 0, none⟩) (jk + 1) c5] 79)) (by rw [upd_same, upd_same, hjk]; exact hown6) hgrow6 hd6
             have BB6 := hide (show Below W0.heap.size W0 w6' from (HB.out.trans (BB5.out.mono sz1)).trans (((Below.refl W0.heap.size w5').alloc (by omega) (.cells #[.slice (some ⟨g5, 0, none⟩) (jk + 1) c5] 79)).grown hgrow6 (by simp; omega) (fun q hq => ((K5.out.full.owns K5.out.has (fullL_len _ _ _ _)).lt q hq).1)))
             have sz6 := BB6.out.size
             obtain ⟨bw6', lr6, -, -, -, -, -, -, -, d7, -, -⟩ := keep.out w6' BB6.out
             have hc6 : w6'.cell? ⟨bh, offh + k, none⟩ = some (.slice av jk cv) := (bw6'.cell (p := ⟨bh, offh + k, none⟩) hl1).trans HC0.out
             have oc : w6'.cell? ⟨bo, 7, none⟩ = some vh := by have := K6.has.cell K6.own (i := 7) (show 7 < 10 by decide); rw [K6.ebo] at this; exact this
             have of_ : w6'.frozen? ⟨bo, 7, none⟩ = false := by have := K6.has.frozen K6.own 7; rw [K6.ebo] at this; exact this
             have lbo : bo < w6'.heap.size := by have := K6.has.lt K6.own; rw [K6.ebo] at this; exact this
             have lbh6 : bh < w6'.heap.size := Nat.lt_of_lt_of_le hl1 bw6'.size
             have e6k : blk6 (.trow k) = g5 := by rw [e6, upd_same]
             have HK6 := hide K6
             have HC5 := hide hc5
             have hq1 : (jk : Int) ≤ (c5 : Int) := by omega
             have hq2 : ¬ (c5 : Int) < (jk : Int) := by omega
             have hq3 : ¬ c5 < jk := by omega
             have hq4 : jk ≤ c5 := by omega
             clear hown6 hgrow6 hnn6 hd6 K6 K5 e6))
        refine RH.region (ks := [(0, 68), (1, 69), (2, 70), (3, 71), (4, 72), (5, 73), (6, 74), (7, 75), (8, 76), (9, 77), (12, 80)]) (vals := fun i => match i with
            | 0 => .pointer (some ⟨bo, 7, none⟩)
            | 1 => vh
            | 2 => .slice (some ⟨g5, 0, none⟩) (jk + 1) c5
            | 3 => .pointer (some ⟨w.heap.size, 7, none⟩)
            | 4 => .slice (some ⟨bh, offh, none⟩) P.nh caph
            | 5 => .int .i64 (k : Int)
            | 6 => .pointer (some ⟨bh, offh + k * 1, none⟩)
            | 7 => .slice av jk cv
            | 8 => .int .i64 (jk : Int)
            | 9 => .slice (some ⟨g5, 0, none⟩) jk c5
            | 12 => .pointer (some ⟨bo, 7, none⟩)
            | _ => undef) (xs := [78, 79]) (WI := fun L s w' => KA P f 28 W0 blk6 c6'' (upd cp k c5) k gw gs bo cw cs v6' vh g5 jk c5 (L 1) (L 10) (L 11) (L 13) (s 78) (s 79) w') (by kernel_rfl) ?gg ?bk rfl ?dd ?xx ?loc ?w0 ?does ?fin
        case gg =>
          intro i o ho
          have hi : i < 14 := by have := (Array.getElem?_eq_some_iff.1 ho).1; simpa using this
          match i, hi with
          | 0, _ | 1, _ | 2, _ | 3, _ | 4, _ | 5, _ | 6, _ | 7, _ | 8, _ | 9, _ | 10, _ | 11, _ | 12, _ | 13, _ => injection ho with ho; subst ho; rfl
        case bk =>
          intro i o ho
          have hi : i < 14 := by have := (Array.getElem?_eq_some_iff.1 ho).1; simpa using this
          match i, hi with
          | 0, _ | 1, _ | 2, _ | 3, _ | 4, _ | 5, _ | 6, _ | 7, _ | 8, _ | 9, _ | 10, _ | 11, _ | 12, _ | 13, _ => injection ho with ho; subst ho; simp [Region.binds]
        case dd =>
          intro k' hk'
          have hk2 : k' < 284 := by
            simp [RetN.D] at hk'
            omega
          simpa using hk2
        case xx =>
          intro k' hk'
          have hk2 : k' < 284 := by
            simp at hk'
            omega
          simpa using hk2
        case loc =>
          intro L s s' w' hs h
          rw [← hs 78 rfl, ← hs 79 rfl]
          exact h
        case w0 => exact fun s => KA.start BB6.out HK6.out
        case does =>
          intro i o ho
          have hi : i < 14 := by have := (Array.getElem?_eq_some_iff.1 ho).1; simpa using this
          match i, hi with
          | 0, _ => injection ho with ho; subst ho; exact RH.Does.read rfl (fun L s w' h => KA.skip (by decide) (by decide) (by decide) (by decide) h) (fun L a w' hI hd => ex_field rfl (hI.fix 5 (Reg.notD rfl) rfl) (fieldR2 w' _))
          | 1, _ => injection ho with ho; subst ho; exact .mk rfl (fun L a w' K hI hL hd hk => wp_value (ex_load rfl (hI.pure 0 _ _ rfl (hd ⟨0, .data⟩ (by simp) rfl)) (aggSS w') (by have h11 : L 11 = false := (by cases e : L 11 with | false => rfl | true => (have := hI.world.d1 e; rw [hL] at this; cases this)); exact ((hI.world.pre h11).own_at.2.2.cell (i := 7) (by omega)))) (hk w' _ (fun _ _ => rfl) (KA.read hI.world)))
          | 2, _ => injection ho with ho; subst ho; exact RH.Does.read rfl (fun L s w' h => KA.skip (by decide) (by decide) (by decide) (by decide) h) (fun L a w' hI hd => ex_move rfl (hI.fix 8 (Reg.notD rfl) rfl))
          | 3, _ => injection ho with ho; subst ho; exact RH.Does.read rfl (fun L s w' h => KA.skip (by decide) (by decide) (by decide) (by decide) h) (fun L a w' hI hd => ex_field rfl (hI.fix 1 (Reg.notD rfl) rfl) (fieldR2 w' _))
          | 4, _ => injection ho with ho; subst ho; exact RH.Does.read rfl (fun L s w' h => KA.skip (by decide) (by decide) (by decide) (by decide) h) (fun L a w' hI hd => ex_load rfl (hI.pure 3 _ _ rfl (hd ⟨3, .data⟩ (by simp) rfl)) (aggSS w') (keep.out w' hI.world.bel).2.2.2.2.2.2.2.2.2.1)
          | 5, _ => injection ho with ho; subst ho; exact RH.Does.read rfl (fun L s w' h => KA.skip (by decide) (by decide) (by decide) (by decide) h) (fun L a w' hI hd => ex_move rfl (hI.fix 7 (Reg.notD rfl) rfl))
          | 6, _ => injection ho with ho; subst ho; exact RH.Does.read rfl (fun L s w' h => KA.skip (by decide) (by decide) (by decide) (by decide) h) (fun L a w' hI hd => ex_index rfl (hI.pure 4 _ _ rfl (hd ⟨4, .data⟩ (by simp) rfl)) (hI.pure 5 _ _ rfl (hd ⟨5, .data⟩ (by simp) rfl)) hlt Try.underlying25 sizeSJ)
          | 7, _ => injection ho with ho; subst ho; exact RH.Does.read rfl (fun L s w' h => KA.skip (by decide) (by decide) (by decide) (by decide) h) (fun L a w' hI hd => ex_load rfl (hI.pure 6 _ _ rfl (hd ⟨6, .data⟩ (by simp) rfl)) (aggSJ w') (by rw [Nat.mul_one]; exact ((keep.out w' hI.world.bel).1.cell (p := ⟨bh, offh + k, none⟩) hl1).trans HC0.out))
          | 8, _ => injection ho with ho; subst ho; exact RH.Does.read rfl (fun L s w' h => KA.skip (by decide) (by decide) (by decide) (by decide) h) (fun L a w' hI hd => ex_lenJ rfl (hI.pure 7 _ _ rfl (hd ⟨7, .data⟩ (by simp) rfl)))
          | 9, _ => injection ho with ho; subst ho; exact RH.Does.read rfl (fun L s w' h => KA.skip (by decide) (by decide) (by decide) (by decide) h) (fun L a w' hI hd => ex_sliceJ rfl (hI.pure 2 _ _ rfl (hd ⟨2, .data⟩ (by simp) rfl)) (hI.pure 8 _ _ rfl (hd ⟨8, .data⟩ (by simp) rfl)) hq4)
          | 10, _ => injection ho with ho; subst ho; exact .own 78 rfl rfl rfl (fun L a w' K hI hL hd hk => wp_value (ex_bslice rfl (hI.pure 9 _ _ rfl (hd ⟨9, .data⟩ (by simp) rfl))) (hk _ _ (by have := KA.build hI.world hL; rw [← upd_same L 10 true] at this; simpa only [upd_other _ _ (show (1 : Nat) ≠ 10 by decide), upd_other _ _ (show (11 : Nat) ≠ 10 by decide), upd_other _ _ (show (13 : Nat) ≠ 10 by decide), if_true, if_false, Nat.reduceEqDiff] using this)))
          | 11, _ => injection ho with ho; subst ho; exact .own 79 rfl rfl rfl (fun L a w' K hI hL hd hk => KA.append hI.world hL (hd ⟨1, .data⟩ (by simp) rfl) (hd ⟨10, .data⟩ (by simp) rfl) rfl rfl (hI.pure 1 _ _ rfl (hd ⟨1, .data⟩ (by simp) rfl)) rfl e6k (upd_same _ _ _) hjk HM2.out (fun w'' v h => hk w'' v (by rw [← upd_same L 11 true] at h; simpa only [upd_other _ _ (show (1 : Nat) ≠ 11 by decide), upd_other _ _ (show (10 : Nat) ≠ 11 by decide), upd_other _ _ (show (13 : Nat) ≠ 11 by decide), if_true, if_false, Nat.reduceEqDiff] using h)))
          | 12, _ => injection ho with ho; subst ho; exact RH.Does.read rfl (fun L s w' h => KA.skip (by decide) (by decide) (by decide) (by decide) h) (fun L a w' hI hd => ex_field rfl (hI.fix 5 (Reg.notD rfl) rfl) (fieldR2 w' _))
          | 13, _ => injection ho with ho; subst ho; exact .mk rfl (fun L a w' K hI hL hd hk => by have h11 := hd ⟨11, .data⟩ (by simp) rfl; obtain ⟨⟨x1, x2, x3, e9⟩, _, oc, of_, _⟩ := hI.world.app h11 hL; refine wp_store_sl rfl (hI.pure 12 _ _ rfl (hd ⟨12, .data⟩ (by simp) rfl)) e9 oc of_ (hk _ _ (fun d hd' => by cases hd') (by have := KA.put hI.world h11 hL; rw [e9] at this; rw [← upd_same L 13 true] at this; simpa only [e9, upd_other _ _ (show (1 : Nat) ≠ 13 by decide), upd_other _ _ (show (10 : Nat) ≠ 13 by decide), upd_other _ _ (show (11 : Nat) ≠ 13 by decide)] using this)))
        case fin =>
          intro L a' wx hI hall
          have hw := hI.world
          rw [hall 13 (by decide)] at hw
          have hfin := hw.fin rfl
          have hbelx := hw.bel
          have ea := act_all a' 284 (by rw [hI.sz]; rfl) hI.df
          simp only [List.range, List.range.loop, List.map] at ea
          rw [hI.fix 0 (Reg.notD rfl) rfl, hI.fix 1 (Reg.notD rfl) rfl, hI.fix 2 (Reg.notD rfl) rfl, hI.fix 3 (Reg.notD rfl) rfl, hI.fix 4 (Reg.notD rfl) rfl, hI.fix 5 (Reg.notD rfl) rfl, hI.fix 6 (Reg.notD rfl) rfl, hI.fix 7 (Reg.notD rfl) rfl, hI.fix 8 (Reg.notD rfl) rfl, hI.fix 9 (Reg.notD rfl) rfl, hI.fix 10 (Reg.notD rfl) rfl, hI.fix 11 (Reg.notD rfl) rfl, hI.fix 12 (Reg.notD rfl) rfl, hI.fix 13 (Reg.notD rfl) rfl, hI.fix 14 (Reg.notD rfl) rfl, hI.fix 15 (Reg.notD rfl) rfl, hI.fix 16 (Reg.notD rfl) rfl, hI.fix 17 (Reg.notD rfl) rfl, hI.fix 18 (Reg.notD rfl) rfl, hI.fix 19 (Reg.notD rfl) rfl, hI.fix 20 (Reg.notD rfl) rfl, hI.fix 21 (Reg.notD rfl) rfl, hI.fix 22 (Reg.notD rfl) rfl, hI.fix 23 (Reg.notD rfl) rfl, hI.fix 24 (Reg.notD rfl) rfl, hI.fix 25 (Reg.notD rfl) rfl, hI.fix 26 (Reg.notD rfl) rfl, hI.fix 27 (Reg.notD rfl) rfl, hI.fix 28 (Reg.notD rfl) rfl, hI.fix 29 (Reg.notD rfl) rfl, hI.fix 30 (Reg.notD rfl) rfl, hI.fix 31 (Reg.notD rfl) rfl, hI.fix 32 (Reg.notD rfl) rfl, hI.fix 33 (Reg.notD rfl) rfl, hI.fix 34 (Reg.notD rfl) rfl, hI.fix 35 (Reg.notD rfl) rfl, hI.fix 36 (Reg.notD rfl) rfl, hI.fix 37 (Reg.notD rfl) rfl, hI.fix 38 (Reg.notD rfl) rfl, hI.fix 39 (Reg.notD rfl) rfl, hI.fix 40 (Reg.notD rfl) rfl, hI.fix 41 (Reg.notD rfl) rfl, hI.fix 42 (Reg.notD rfl) rfl, hI.fix 43 (Reg.notD rfl) rfl, hI.fix 44 (Reg.notD rfl) rfl, hI.fix 45 (Reg.notD rfl) rfl, hI.fix 46 (Reg.notD rfl) rfl, hI.fix 47 (Reg.notD rfl) rfl, hI.fix 48 (Reg.notD rfl) rfl, hI.fix 49 (Reg.notD rfl) rfl, hI.fix 50 (Reg.notD rfl) rfl, hI.fix 51 (Reg.notD rfl) rfl, hI.fix 52 (Reg.notD rfl) rfl, hI.fix 53 (Reg.notD rfl) rfl, hI.fix 54 (Reg.notD rfl) rfl, hI.fix 55 (Reg.notD rfl) rfl, hI.fix 56 (Reg.notD rfl) rfl, hI.fix 57 (Reg.notD rfl) rfl, hI.fix 58 (Reg.notD rfl) rfl, hI.fix 59 (Reg.notD rfl) rfl, hI.fix 60 (Reg.notD rfl) rfl, hI.fix 61 (Reg.notD rfl) rfl, hI.fix 62 (Reg.notD rfl) rfl, hI.fix 63 (Reg.notD rfl) rfl, hI.fix 64 (Reg.notD rfl) rfl, hI.fix 65 (Reg.notD rfl) rfl, hI.fix 66 (Reg.notD rfl) rfl, hI.fix 67 (Reg.notD rfl) rfl, hI.fix 81 (Reg.notD rfl) rfl, hI.fix 82 (Reg.notD rfl) rfl, hI.fix 83 (Reg.notD rfl) rfl, hI.fix 84 (Reg.notD rfl) rfl, hI.fix 85 (Reg.notD rfl) rfl, hI.fix 86 (Reg.notD rfl) rfl, hI.fix 87 (Reg.notD rfl) rfl, hI.fix 88 (Reg.notD rfl) rfl, hI.fix 89 (Reg.notD rfl) rfl, hI.fix 90 (Reg.notD rfl) rfl, hI.fix 91 (Reg.notD rfl) rfl, hI.fix 92 (Reg.notD rfl) rfl, hI.fix 93 (Reg.notD rfl) rfl, hI.fix 94 (Reg.notD rfl) rfl, hI.fix 95 (Reg.notD rfl) rfl, hI.fix 96 (Reg.notD rfl) rfl, hI.fix 97 (Reg.notD rfl) rfl, hI.fix 98 (Reg.notD rfl) rfl, hI.fix 99 (Reg.notD rfl) rfl, hI.fix 100 (Reg.notD rfl) rfl, hI.fix 101 (Reg.notD rfl) rfl, hI.fix 102 (Reg.notD rfl) rfl, hI.fix 103 (Reg.notD rfl) rfl, hI.fix 104 (Reg.notD rfl) rfl, hI.fix 105 (Reg.notD rfl) rfl, hI.fix 106 (Reg.notD rfl) rfl, hI.fix 107 (Reg.notD rfl) rfl, hI.fix 108 (Reg.notD rfl) rfl, hI.fix 109 (Reg.notD rfl) rfl, hI.fix 110 (Reg.notD rfl) rfl, hI.fix 111 (Reg.notD rfl) rfl, hI.fix 112 (Reg.notD rfl) rfl, hI.fix 113 (Reg.notD rfl) rfl, hI.fix 114 (Reg.notD rfl) rfl, hI.fix 115 (Reg.notD rfl) rfl, hI.fix 116 (Reg.notD rfl) rfl, hI.fix 117 (Reg.notD rfl) rfl, hI.fix 118 (Reg.notD rfl) rfl, hI.fix 119 (Reg.notD rfl) rfl, hI.fix 120 (Reg.notD rfl) rfl, hI.fix 121 (Reg.notD rfl) rfl, hI.fix 122 (Reg.notD rfl) rfl, hI.fix 123 (Reg.notD rfl) rfl, hI.fix 124 (Reg.notD rfl) rfl, hI.fix 125 (Reg.notD rfl) rfl, hI.fix 126 (Reg.notD rfl) rfl, hI.fix 127 (Reg.notD rfl) rfl, hI.fix 128 (Reg.notD rfl) rfl, hI.fix 129 (Reg.notD rfl) rfl, hI.fix 130 (Reg.notD rfl) rfl, hI.fix 131 (Reg.notD rfl) rfl, hI.fix 132 (Reg.notD rfl) rfl, hI.fix 133 (Reg.notD rfl) rfl, hI.fix 134 (Reg.notD rfl) rfl, hI.fix 135 (Reg.notD rfl) rfl, hI.fix 136 (Reg.notD rfl) rfl, hI.fix 137 (Reg.notD rfl) rfl, hI.fix 138 (Reg.notD rfl) rfl, hI.fix 139 (Reg.notD rfl) rfl, hI.fix 140 (Reg.notD rfl) rfl, hI.fix 141 (Reg.notD rfl) rfl, hI.fix 142 (Reg.notD rfl) rfl, hI.fix 143 (Reg.notD rfl) rfl, hI.fix 144 (Reg.notD rfl) rfl, hI.fix 145 (Reg.notD rfl) rfl, hI.fix 146 (Reg.notD rfl) rfl, hI.fix 147 (Reg.notD rfl) rfl, hI.fix 148 (Reg.notD rfl) rfl, hI.fix 149 (Reg.notD rfl) rfl, hI.fix 150 (Reg.notD rfl) rfl, hI.fix 151 (Reg.notD rfl) rfl, hI.fix 152 (Reg.notD rfl) rfl, hI.fix 153 (Reg.notD rfl) rfl, hI.fix 154 (Reg.notD rfl) rfl, hI.fix 155 (Reg.notD rfl) rfl, hI.fix 156 (Reg.notD rfl) rfl, hI.fix 157 (Reg.notD rfl) rfl, hI.fix 158 (Reg.notD rfl) rfl, hI.fix 159 (Reg.notD rfl) rfl, hI.fix 160 (Reg.notD rfl) rfl, hI.fix 161 (Reg.notD rfl) rfl, hI.fix 162 (Reg.notD rfl) rfl, hI.fix 163 (Reg.notD rfl) rfl, hI.fix 164 (Reg.notD rfl) rfl, hI.fix 165 (Reg.notD rfl) rfl, hI.fix 166 (Reg.notD rfl) rfl, hI.fix 167 (Reg.notD rfl) rfl, hI.fix 168 (Reg.notD rfl) rfl, hI.fix 169 (Reg.notD rfl) rfl, hI.fix 170 (Reg.notD rfl) rfl, hI.fix 171 (Reg.notD rfl) rfl, hI.fix 172 (Reg.notD rfl) rfl, hI.fix 173 (Reg.notD rfl) rfl, hI.fix 174 (Reg.notD rfl) rfl, hI.fix 175 (Reg.notD rfl) rfl, hI.fix 176 (Reg.notD rfl) rfl, hI.fix 177 (Reg.notD rfl) rfl, hI.fix 178 (Reg.notD rfl) rfl, hI.fix 179 (Reg.notD rfl) rfl, hI.fix 180 (Reg.notD rfl) rfl, hI.fix 181 (Reg.notD rfl) rfl, hI.fix 182 (Reg.notD rfl) rfl, hI.fix 183 (Reg.notD rfl) rfl, hI.fix 184 (Reg.notD rfl) rfl, hI.fix 185 (Reg.notD rfl) rfl, hI.fix 186 (Reg.notD rfl) rfl, hI.fix 187 (Reg.notD rfl) rfl, hI.fix 188 (Reg.notD rfl) rfl, hI.fix 189 (Reg.notD rfl) rfl, hI.fix 190 (Reg.notD rfl) rfl, hI.fix 191 (Reg.notD rfl) rfl, hI.fix 192 (Reg.notD rfl) rfl, hI.fix 193 (Reg.notD rfl) rfl, hI.fix 194 (Reg.notD rfl) rfl, hI.fix 195 (Reg.notD rfl) rfl, hI.fix 196 (Reg.notD rfl) rfl, hI.fix 197 (Reg.notD rfl) rfl, hI.fix 198 (Reg.notD rfl) rfl, hI.fix 199 (Reg.notD rfl) rfl, hI.fix 200 (Reg.notD rfl) rfl, hI.fix 201 (Reg.notD rfl) rfl, hI.fix 202 (Reg.notD rfl) rfl, hI.fix 203 (Reg.notD rfl) rfl, hI.fix 204 (Reg.notD rfl) rfl, hI.fix 205 (Reg.notD rfl) rfl, hI.fix 206 (Reg.notD rfl) rfl, hI.fix 207 (Reg.notD rfl) rfl, hI.fix 208 (Reg.notD rfl) rfl, hI.fix 209 (Reg.notD rfl) rfl, hI.fix 210 (Reg.notD rfl) rfl, hI.fix 211 (Reg.notD rfl) rfl, hI.fix 212 (Reg.notD rfl) rfl, hI.fix 213 (Reg.notD rfl) rfl, hI.fix 214 (Reg.notD rfl) rfl, hI.fix 215 (Reg.notD rfl) rfl, hI.fix 216 (Reg.notD rfl) rfl, hI.fix 217 (Reg.notD rfl) rfl, hI.fix 218 (Reg.notD rfl) rfl, hI.fix 219 (Reg.notD rfl) rfl, hI.fix 220 (Reg.notD rfl) rfl, hI.fix 221 (Reg.notD rfl) rfl, hI.fix 222 (Reg.notD rfl) rfl, hI.fix 223 (Reg.notD rfl) rfl, hI.fix 224 (Reg.notD rfl) rfl, hI.fix 225 (Reg.notD rfl) rfl, hI.fix 226 (Reg.notD rfl) rfl, hI.fix 227 (Reg.notD rfl) rfl, hI.fix 228 (Reg.notD rfl) rfl, hI.fix 229 (Reg.notD rfl) rfl, hI.fix 230 (Reg.notD rfl) rfl, hI.fix 231 (Reg.notD rfl) rfl, hI.fix 232 (Reg.notD rfl) rfl, hI.fix 233 (Reg.notD rfl) rfl, hI.fix 234 (Reg.notD rfl) rfl, hI.fix 235 (Reg.notD rfl) rfl, hI.fix 236 (Reg.notD rfl) rfl, hI.fix 237 (Reg.notD rfl) rfl, hI.fix 238 (Reg.notD rfl) rfl, hI.fix 239 (Reg.notD rfl) rfl, hI.fix 240 (Reg.notD rfl) rfl, hI.fix 241 (Reg.notD rfl) rfl, hI.fix 242 (Reg.notD rfl) rfl, hI.fix 243 (Reg.notD rfl) rfl, hI.fix 244 (Reg.notD rfl) rfl, hI.fix 245 (Reg.notD rfl) rfl, hI.fix 246 (Reg.notD rfl) rfl, hI.fix 247 (Reg.notD rfl) rfl, hI.fix 248 (Reg.notD rfl) rfl, hI.fix 249 (Reg.notD rfl) rfl, hI.fix 250 (Reg.notD rfl) rfl, hI.fix 251 (Reg.notD rfl) rfl, hI.fix 252 (Reg.notD rfl) rfl, hI.fix 253 (Reg.notD rfl) rfl, hI.fix 254 (Reg.notD rfl) rfl, hI.fix 255 (Reg.notD rfl) rfl, hI.fix 256 (Reg.notD rfl) rfl, hI.fix 257 (Reg.notD rfl) rfl, hI.fix 258 (Reg.notD rfl) rfl, hI.fix 259 (Reg.notD rfl) rfl, hI.fix 260 (Reg.notD rfl) rfl, hI.fix 261 (Reg.notD rfl) rfl, hI.fix 262 (Reg.notD rfl) rfl, hI.fix 263 (Reg.notD rfl) rfl, hI.fix 264 (Reg.notD rfl) rfl, hI.fix 265 (Reg.notD rfl) rfl, hI.fix 266 (Reg.notD rfl) rfl, hI.fix 267 (Reg.notD rfl) rfl, hI.fix 268 (Reg.notD rfl) rfl, hI.fix 269 (Reg.notD rfl) rfl, hI.fix 270 (Reg.notD rfl) rfl, hI.fix 271 (Reg.notD rfl) rfl, hI.fix 272 (Reg.notD rfl) rfl, hI.fix 273 (Reg.notD rfl) rfl, hI.fix 274 (Reg.notD rfl) rfl, hI.fix 275 (Reg.notD rfl) rfl, hI.fix 276 (Reg.notD rfl) rfl, hI.fix 277 (Reg.notD rfl) rfl, hI.fix 278 (Reg.notD rfl) rfl, hI.fix 279 (Reg.notD rfl) rfl, hI.fix 280 (Reg.notD rfl) rfl, hI.fix 281 (Reg.notD rfl) rfl, hI.fix 282 (Reg.notD rfl) rfl, hI.fix 283 (Reg.notD rfl) rfl] at ea
          clear hI hall hw
          generalize a'.eval (.tmp 68) = u68 at ea
          generalize a'.eval (.tmp 69) = u69 at ea
          generalize a'.eval (.tmp 70) = u70 at ea
          generalize a'.eval (.tmp 71) = u71 at ea
          generalize a'.eval (.tmp 72) = u72 at ea
          generalize a'.eval (.tmp 73) = u73 at ea
          generalize a'.eval (.tmp 74) = u74 at ea
          generalize a'.eval (.tmp 75) = u75 at ea
          generalize a'.eval (.tmp 76) = u76 at ea
          generalize a'.eval (.tmp 77) = u77 at ea
          generalize a'.eval (.tmp 78) = u78 at ea
          generalize a'.eval (.tmp 79) = u79 at ea
          generalize a'.eval (.tmp 80) = u80 at ea
          simp only [show ∀ (ts : Array Value) (ds) (i : Nat), (Act.mk ts ds).eval (.tmp i) = ts.getD i undef from fun _ _ _ => rfl] at ea
          simp (maxSteps := 4000000) at ea
          subst ea
          obtain ⟨blk7, c7', vh7, K7⟩ := hfin
          go_wp2_with fail
          go_meet
          case rel => exact ⟨blk7, c7', _, vh7, K7, hbelx⟩
      case rest =>
        obtain ⟨blk7, c7', cp7, vh7, K7, B7x⟩ := hcut
        have HK7 := hide K7
        have HB7 := hide B7x
        clear K7 B7x HK HB d7 HM sz0 sz1 szw sz8 lr lbh hl1
        go_wp2_with fail
        go_roundw
        case rel => exact ⟨k + 1, blk7, c7', _, vh7, hlt, congrArg (Value.int .i64) HGK.out.1, HK7.out, HB7.out⟩
        case measure => rw [HGK.out.1]; exact HGK.out.2
    · have hlt' : ¬ (k : Int) < P.nh := by omega
      obtain rfl : k = P.nh := by omega
      obtain ⟨v1, v2, v3, v4⟩ := HV.out
      have V4 := hide v4
      obtain ⟨ah, ch, rfl, hH⟩ := K1.seesH
      obtain ⟨lbo, hbo2, rowO⟩ := K1.own_at
      have o6 : wr.cell? ⟨bo, 6, none⟩ = some (.slice (some ⟨gw, 0, none⟩) P.n cw) := rowO.cell (i := 6) (by omega)
      have o7 : wr.cell? ⟨bo, 7, none⟩ = some (.slice ah P.nh ch) := rowO.cell (i := 7) (by omega)
      have o8 : wr.cell? ⟨bo, 8, none⟩ = some (.slice (some ⟨gs, 0, none⟩) P.ns cs) := rowO.cell (i := 8) (by omega)
      obtain ⟨af, cf, ef⟩ := K1.over.vfLen
      subst ef
      obtain ⟨wA, hwA⟩ : ∃ x, x = wr := ⟨_, rfl⟩
      subst hwA
      have HJB := hide (show ∀ h, h < P.nh → (P.jn h : Int) ≤ 9223372036854775805 from fun h hh => by have := HB3.out h hh; omega)
      have HK1 := hide K1
      have HBr := hide B1
      have HRO := hide rowO
      have HHr := hide hH
      have szr := B1.size
      clear K1 B1 rowO hH v4 bwr HV BIGH HB3 HS0 HNW HNI HNH HF HJW
      go_wp2_with fail
      refine (HPP.out wA (some ⟨gw, 0, none⟩) cw ah ch (some ⟨gs, 0, none⟩) cs HK1.out.sees HHr.out HK1.out.seesI).mono ?_
      rintro e w10 ⟨hb10, v, rfl, hD⟩
      obtain ⟨sa, sc, wa, wcp, aa, ac, ev, -, -, -⟩ := HKD.out.sees hD
      simp only at ev
      subst ev
      have hs10 := hb10.size
      have HB10 := hide hb10
      have HD10 := hide hD
      clear hb10 hD o6 o7 o8 d0 d1 d2 d3 d4 d5 d6 d7 d8 d9
      simp only
      obtain ⟨W11, hW11⟩ : ∃ W11, w10.alloc (.cells #[.slice sa vk sc, .slice wa vn wcp, .bool ven] 32) = W11 := ⟨_, rfl⟩
      have T11 := hide (show Touch w10 W11 (fun q => q < wA.heap.size) from by rw [← hW11]; exact (Touch.refl w10 _).alloc _)
      have B11 := hide (show Below w10.heap.size w10 W11 from by rw [← hW11]; exact (Below.refl _ w10).alloc (Nat.le_refl _) _)
      have R11 := hide (show W11.rowIs w10.heap.size 32 3 (lrow [.slice sa vk sc, .slice wa vn wcp, .bool ven]) from by rw [← hW11]; exact rowL_alloc w10 [.slice sa vk sc, .slice wa vn wcp, .bool ven] _ rfl)
      have hs11 : W11.heap.size = w10.heap.size + 1 := by rw [← hW11]; simp
      have Br11 := hide (HB10.out.trans (B11.out.mono hs10))
      have B011 := hide (HBr.out.trans (Br11.out.mono szr))
      have K11 := hide (HK1.out.below Br11.out)
      obtain ⟨ah', ch', eh', hH'⟩ := K11.out.seesH
      cases eh'
      obtain ⟨bw11, l11, d0, d1, d2, d3, d4, d5, -, -, -, d9⟩ := keep.out W11 B011.out
      obtain ⟨lbo11, _, rowO11⟩ := K11.out.own_at
      have o6 : W11.cell? ⟨bo, 6, none⟩ = some (.slice (some ⟨gw, 0, none⟩) P.n cw) := rowO11.cell (i := 6) (by omega)
      have o7 : W11.cell? ⟨bo, 7, none⟩ = some (.slice ah P.nh ch) := rowO11.cell (i := 7) (by omega)
      have o8 : W11.cell? ⟨bo, 8, none⟩ = some (.slice (some ⟨gs, 0, none⟩) P.ns cs) := rowO11.cell (i := 8) (by omega)
      have HH11 := hide hH'
      clear hH' bw11 rowO11
      go_wp2_with fail
      refine (HPP.out W11 (some ⟨gw, 0, none⟩) cw ah ch (some ⟨gs, 0, none⟩) cs K11.out.sees HH11.out K11.out.seesI).mono ?_
      rintro e w12 ⟨hb12, v, rfl, hD⟩
      obtain ⟨su, tu, wu, xu, au, bu, ev, -, -, -⟩ := HKD.out.sees hD
      simp only at ev
      subst ev
      have hs12 := hb12.size
      have HB12 := hide hb12
      have HD12 := hide hD
      clear hb12 hD hW11 o6 o7 o8 d0 d1 d2 d3 d4 d5 d9
      simp only
      obtain ⟨W13, hW13⟩ : ∃ W13, w12.alloc (.cells #[.slice su vk tu, .slice wu vn xu, .bool ven] 32) = W13 := ⟨_, rfl⟩
      have T13 := hide (show Touch w12 W13 (fun q => q < wA.heap.size) from by rw [← hW13]; exact (Touch.refl w12 _).alloc _)
      have B13 := hide (show Below w12.heap.size w12 W13 from by rw [← hW13]; exact (Below.refl _ w12).alloc (Nat.le_refl _) _)
      have R13 := hide (show W13.rowIs w12.heap.size 32 3 (lrow [.slice su vk tu, .slice wu vn xu, .bool ven]) from by rw [← hW13]; exact rowL_alloc w12 [.slice su vk tu, .slice wu vn xu, .bool ven] _ rfl)
      have hs13 : W13.heap.size = w12.heap.size + 1 := by rw [← hW13]; simp
      have B1113 := hide (HB12.out.trans (B13.out.mono hs12))
      have B013 := hide (B011.out.trans (B1113.out.mono (by omega)))
      obtain ⟨bw13, l13, d0, d1, d2, d3, d4, d5, d6, d7, d8, d9⟩ := keep.out W13 B013.out
      have BW13 := hide bw13
      clear bw13
      go_wp2_with fail
      refine (HRP.out W13 BW13.out).mono ?_
      rintro e w14 ⟨hb14, v, rfl, hR⟩
      obtain ⟨sx, tx, wx, xx, ax, bx, ev, -, -, -⟩ := HKR.out.sees hR
      simp only at ev
      subst ev
      have hs14 := hb14.size
      have HB14 := hide hb14
      have HR14 := hide hR
      clear hb14 hR hW13 d0 d1 d2 d3 d4 d5 d6 d7 d8 d9
      simp only
      obtain ⟨W15, hW15⟩ : ∃ W15, w14.alloc (.cells #[.slice sx vk tx, .slice wx vn xx, .bool ven] 32) = W15 := ⟨_, rfl⟩
      have B15 := hide (show Below w14.heap.size w14 W15 from by rw [← hW15]; exact (Below.refl _ w14).alloc (Nat.le_refl _) _)
      have R15 := hide (show W15.rowIs w14.heap.size 32 3 (lrow [.slice sx vk tx, .slice wx vn xx, .bool ven]) from by rw [← hW15]; exact rowL_alloc w14 [.slice sx vk tx, .slice wx vn xx, .bool ven] _ rfl)
      have hs15 : W15.heap.size = w14.heap.size + 1 := by rw [← hW15]; simp
      have B1315 := hide (HB14.out.trans (B15.out.mono hs14))
      have B1115 := hide (B1113.out.trans (B1315.out.mono (by omega)))
      have T15 := hide (show Touch w10 W15 (fun q => q < wA.heap.size) from T11.out.trans' (Touch.of_below B1115.out (fun q => q < wA.heap.size)) (fun k _ h => h))
      have U15 := hide (show Touch w12 W15 (fun q => q < wA.heap.size) from T13.out.trans' (Touch.of_below B1315.out (fun q => q < wA.heap.size)) (fun k _ h => h))
      have HDa := hide (HKD.out.keep HD10.out T15.out (fun q h => h))
      have HDu := hide (HKD.out.keep HD12.out U15.out (fun q h => by have : q < wA.heap.size := h; omega))
      have HDx := hide (HKR.out.keep HR14.out (Touch.of_below B15.out (fun q => q < wA.heap.size)) (fun q h => by have : q < wA.heap.size := h; omega))
      have HO10 := hide (HKD.out.own HD10.out)
      obtain ⟨sa', sc', wa', wc', aa', ac', ev, S1, Y1, A1⟩ := HKD.out.sees HDa.out
      simp only at ev S1 Y1 A1
      cases ev
      obtain ⟨sx', tx', wx', xx', ax', bx', ev, Sx, Yx, Ax⟩ := HKR.out.sees HDx.out
      simp only at ev Sx Yx Ax
      cases ev
      have HS1 := hide S1
      have HY1 := hide Y1
      have HA1 := hide A1
      have HSx := hide Sx
      have HYx := hide Yx
      have HAx := hide Ax
      have K15 := hide (K11.out.below B1115.out)
      have B015 := hide (B013.out.trans (B1315.out.mono (by omega)))
      have R1115 := hide (R11.out.of_block (B1115.out.block w10.heap.size (by omega)))
      have R1315 := hide (R13.out.of_block (B1315.out.block w12.heap.size (by omega)))
      have t0 : W15.cell? ⟨w10.heap.size, 0, none⟩ = some (.slice sa vk sc) := R1115.out.cell (i := 0) (by omega)
      have t1 : W15.cell? ⟨w10.heap.size, 1, none⟩ = some (.slice wa vn wcp) := R1115.out.cell (i := 1) (by omega)
      have t2 : W15.cell? ⟨w10.heap.size, 2, none⟩ = some (.bool ven) := R1115.out.cell (i := 2) (by omega)
      have x0 : W15.cell? ⟨w14.heap.size, 0, none⟩ = some (.slice sx vk tx) := R15.out.cell (i := 0) (by omega)
      have x1 : W15.cell? ⟨w14.heap.size, 1, none⟩ = some (.slice wx vn xx) := R15.out.cell (i := 1) (by omega)
      have x2 : W15.cell? ⟨w14.heap.size, 2, none⟩ = some (.bool ven) := R15.out.cell (i := 2) (by omega)
      have l10 : w10.heap.size < W15.heap.size := by omega
      have l14 : w14.heap.size < W15.heap.size := by omega
      clear S1 Y1 A1 Sx Yx Ax HB10 HB12 HB14 B11 B13 B15 R11 R13 T11 T13 HH11 HHr HRO K11 B013 B011 BW13
      go_upto_region 18 with (first
        | (go_at_call 12; refine (same_trace HS1.out HSx.out HY1.out HYx.out v2 v1).mono ?_; rintro e w16 ⟨rfl, hb16⟩; have HB16 := hide hb16; have hs16 := hb16.size; have B016 := hide (B015.out.trans (hb16.mono B015.out.size)); have K16 := hide (K15.out.below hb16); obtain ⟨-, l16, -, -, -, -, -, -, d6, -, d8, -⟩ := keep.out w16 B016.out; obtain ⟨lb16, -, rowO16⟩ := K16.out.own_at; have o6 : w16.cell? ⟨bo, 6, none⟩ = some (.slice (some ⟨gw, 0, none⟩) P.n cw) := rowO16.cell (i := 6) (by omega); clear hb16 rowO16 t0 t1 t2 x0 x1 x2)
        | (go_at_call 13; refine (same_answers (HA1.out.below HB16.out (Nat.le_refl _)) (HAx.out.below HB16.out (Nat.le_refl _)) v3 V4.out).mono ?_; rintro e w17 ⟨rfl, m17, hw17⟩; subst hw17)
        | (go_at_call 18; refine (same_words (w := w16.drewN m17) (B := w16.heap.size) (B' := w16.heap.size) (f := f) (f' := f) K16.out.sees (ups.out w16 (keep.out w16 B016.out).1).1 (fun _ _ => rfl) (by have := BIG.out.1; omega)).mono ?_; rintro e w18 ⟨rfl, m18, hw18⟩; have HB18 := hide (show Below w16.heap.size w16 w18 from (by rw [hw18]; exact below_drewN (below_drewN (Below.refl _ w16) _) _)); have hs18 := HB18.out.size; have B018 := hide (B016.out.trans (HB18.out.mono B016.out.size)); have K18 := hide (K16.out.below HB18.out); have hm18 := K18.out.marks; have hl18 := K18.out.lts; clear hw18 d6 d8 o6; obtain ⟨k71, k72, k73, k74⟩ := hm18; obtain ⟨lw18, ls18, -⟩ := hl18; obtain ⟨-, l18, -, -, -, -, -, -, d6, -, d8, -⟩ := keep.out w18 B018.out))
      go_cut [189] from 154 to 188 (fun s wy => s = .bool false ∧ wy = w18)
      case first =>
        clear hs10 hs11 hs12 hs13 hs14 hs15 hs16 hs18 szr sz0 sz8 l10 l14 l11 l13 l16 l18 lbo lbo11 lb16 lw18 ls18 hbo2 hbo v1 v2 v3 hlt' HK1 HBr K15 K16 K18 HB16 HB18 B016 B018 B015 HS1 HY1 HA1 HSx HYx HAx HDa HDu HDx HO10 HPP HRP T15 U15 R15 R1115 R1315
        obtain ⟨n1, hn1⟩ : ∃ x : Nat, P.n + 1 = x := ⟨_, rfl⟩
        obtain ⟨n2, hn2⟩ : ∃ x : Nat, P.n + 2 = x := ⟨_, rfl⟩
        obtain ⟨m1, hm1⟩ : ∃ x : Nat, P.ns + 1 = x := ⟨_, rfl⟩
        obtain ⟨m2, hm2⟩ : ∃ x : Nat, P.ns + 2 = x := ⟨_, rfl⟩
        have j1 : (P.n : Int) < (n2 : Int) := by omega
        have j2 : (n1 : Int) < (n2 : Int) := by omega
        have j3 : (P.ns : Int) < (m2 : Int) := by omega
        have j4 : (m1 : Int) < (m2 : Int) := by omega
        have j1' : P.n < n2 := by omega
        have j2' : n1 < n2 := by omega
        have j3' : P.ns < m2 := by omega
        have j4' : m1 < m2 := by omega
        have wr3 : wrap64 ((P.n : Int) + 1) = (n1 : Int) := by have := BIG.out.1; unfold wrap64; omega
        have wr4 : wrap64 ((P.ns : Int) + 1) = (m1 : Int) := by clear wr3; have := BIG.out.2.1; unfold wrap64; omega
        rw [hn1] at k72
        rw [hm1] at k74
        rw [hn2, hm2]
        have HN := hide (And.intro hn2 hm2)
        clear hn1 hn2 hm1 hm2 hk hlt hW15
        go_wp2_with fail
        obtain ⟨hn2, hm2⟩ := HN.out
        subst hn2 hm2
        go_meet
        case rel => exact ⟨rfl, rfl⟩
      case rest =>
        obtain ⟨e1, e2⟩ := hcut
        subst e1
        rw [e2]
        clear e2
        have LTS := hide HK1.out.lts
        have B1518 := hide (HB16.out.trans (HB18.out.mono hs16))
        have HT18 := hide (show KT P W0.heap.size w18 blk c cp gw gs cw cs (.slice af P.nh cf) 0 (fun _ => 0) from K18.out.over)
        clear k71 k72 k73 k74 d6 d8 HK1 HBr K15 K16 K18 HB16 B016 B015 HS1 HY1 HA1 HSx HYx HAx HPP HRP
        go_wp2_with fail
        go_loopw [18] (fun i wy => ∃ si c', si ≤ P.ns ∧ i = .int .i64 ((si : Nat) : Int) ∧ KT P W0.heap.size wy blk c' cp gw gs cw cs (.slice af P.nh cf) si (fun _ => 0) ∧ Below W0.heap.size W0 wy ∧ Touch w18 wy (fun q => q < wA.heap.size)) (fun i _ => P.ns - (intOf i).toNat)
        case atStart => exact ⟨0, c, Nat.zero_le _, rfl, HT18.out, B018.out, Touch.refl _ _⟩
        case round =>
          obtain ⟨si, c', hsi, rfl, KT1, B1, T1⟩ := hrel
          obtain ⟨bwr, lr2, -, -, -, -, -, -, -, -, d8, -⟩ := keep.out wr B1
          have HKT := hide KT1
          have HB := hide B1
          have HT := hide T1
          by_cases hlt2 : si < P.ns
          · have hlt3 : (si : Int) < P.ns := by omega
            have hlt4 : (si : Int) < (P.ns : Int) + 2 := by omega
            have hlt5 : si < P.ns + 2 := by omega
            obtain ⟨bI, oI, rfl, hl1, hc0⟩ := HSI.out si hlt2
            have hc1 : wr.cell? ⟨bI, oI + si, none⟩ = some (.int .i64 (P.sched si)) := (bwr.cell (p := ⟨bI, oI + si, none⟩) hl1).trans hc0
            obtain ⟨lbs, hbs2, cS, fS⟩ := KT1.cellS (Nat.le_refl si) hlt2
            obtain ⟨sv, hsv⟩ : ∃ x, P.sched si = x := ⟨_, rfl⟩
            rw [hsv] at hc1 cS
            have HGK := hide (And.intro (up_wrap (k := si) (by have := BIG.out.2.1; omega)) (meas_up hlt2))
            have HBS := hide hbs2
            clear KT1 B1 T1 bwr hc0 hsv hbs2 hsi hs10 hs11 hs12 hs13 hs14 hs15 hs16 hs18 szr sz0 sz8 l10 l14 l11 l13 l16 l18 lbo lbo11 lb16 lw18 ls18 hbo2 hbo v1 v2 v3 hlt' hk hlt hl1 lr lr2
            go_wp2_with fail
            go_quiet (fail)
            go_wp2_with fail
            go_roundw
            case rel =>
              obtain ⟨c2, K2, -⟩ := (HKT.out.drewN nq).setS (.int .i64 76)
              exact ⟨si + 1, c2, hlt2, congrArg (Value.int .i64) HGK.out.1, K2, (below_drewN HB.out nq).setCell HBS.out _, Touch.setCell (touch_drewN HT.out nq) ⟨gs, si, none⟩ (.inl LTS.out.2.1) _⟩
            case measure => rw [HGK.out.1]; exact HGK.out.2
          · have hlt3 : ¬ (si : Int) < P.ns := by omega
            obtain rfl : si = P.ns := by omega
            obtain ⟨wB, hwB⟩ : ∃ x, x = wr := ⟨_, rfl⟩
            subst hwB
            clear KT1 B1 T1 bwr HT18
            go_wp2_with fail
            clear d8
            go_loopw [19] (fun i wy => ∃ h c' lo, h ≤ P.nh ∧ i = .int .i64 ((h : Nat) : Int) ∧ KT P W0.heap.size wy blk c' cp gw gs cw cs (.slice af P.nh cf) P.ns lo ∧ (∀ q, h ≤ q → lo q = 0) ∧ Below W0.heap.size W0 wy ∧ Touch w18 wy (fun q => q < wA.heap.size)) (fun i _ => P.nh - (intOf i).toNat)
            case atStart => exact ⟨0, c', _, Nat.zero_le _, rfl, HKT.out, fun _ _ => rfl, HB.out, HT.out⟩
            case round =>
              obtain ⟨h, c3, lo, hh, rfl, KT1, hlo, B1, T1⟩ := hrel
              clear HKT HB HT
              obtain ⟨bwr, lr3, -, -, -, -, -, -, -, d7, -, -⟩ := keep.out wr B1
              have HKT := hide KT1
              have HB := hide B1
              have HT := hide T1
              by_cases hlt4 : h < P.nh
              · have hlt5 : (h : Int) < P.nh := by omega
                obtain ⟨bh, offh, av, cv, rfl, hl1, hc0, hj0⟩ := HSH.out h hlt4
                obtain ⟨bf, cf', ef, lbf, hcf⟩ := KT1.cellF hlt4
                cases ef
                obtain ⟨gj, hgj⟩ : ∃ x, blk (.trow h) = x := ⟨_, rfl⟩
                obtain ⟨cj, hcj⟩ : ∃ x, cp h = x := ⟨_, rfl⟩
                obtain ⟨jk, hjk⟩ : ∃ x, P.jn h = x := ⟨_, rfl⟩
                have HC0 := hide (show w.cell? ⟨bh, offh + h, none⟩ = some (.slice av jk cv) from by rw [← hjk]; exact hc0)
                have HJ0 := hide hj0
                have HGK3 := hide (And.intro (up_wrap (k := h) (by have := BIG.out.2.2; omega)) (meas_up hlt4))
                have HE := hide (And.intro hgj (And.intro hcj hjk))
                have HL1 := hide hl1
                have HLO := hide hlo
                have LTR := hide (show gj < wA.heap.size from by rw [← hgj]; exact LTS.out.2.2 h hlt4)
                obtain ⟨wC, hwC⟩ : ∃ x, x = wr := ⟨_, rfl⟩
                subst hwC
                clear KT1 B1 T1 bwr hc0 hj0 hlo hl1 lbf hcf hgj hcj hjk hh
                go_wp2_with fail
                clear d7
                go_loopw [20] (fun i wy => ∃ jj c' lo', jj ≤ jk ∧ i = .int .i64 ((jj : Nat) : Int) ∧ KT P W0.heap.size wy blk c' cp gw gs cw cs (.slice (some ⟨bf, 0, none⟩) P.nh cf) P.ns lo' ∧ lo' h ≤ jj ∧ (∀ q, h < q → lo' q = 0) ∧ Below W0.heap.size W0 wy ∧ Touch w18 wy (fun q => q < wA.heap.size)) (fun i _ => jk - (intOf i).toNat)
                case atStart => exact ⟨0, c3, lo, Nat.zero_le _, rfl, HKT.out, Nat.le_of_eq (HLO.out h (Nat.le_refl _)), fun q hq => HLO.out q (Nat.le_of_lt hq), HB.out, HT.out⟩
                case round =>
                  obtain ⟨jj, c4, lo', hjj, rfl, KT1, hl4, hl5, B1, T1⟩ := hrel
                  clear HKT HB HT
                  obtain ⟨bwr, lr4, -, -, -, -, -, -, -, d7, -, -⟩ := keep.out wr B1
                  obtain ⟨bf', cf2, ef, lbf, hcf⟩ := KT1.cellF hlt4
                  cases ef
                  rw [HE.out.1, HE.out.2.1, HE.out.2.2] at hcf
                  have hc1 : wr.cell? ⟨bh, offh + h, none⟩ = some (.slice av jk cv) := (bwr.cell (p := ⟨bh, offh + h, none⟩) HL1.out).trans HC0.out
                  have HKT := hide KT1
                  have HB := hide B1
                  have HT := hide T1
                  by_cases hlt6 : jj < jk
                  · have hlt7 : (jj : Int) < jk := by omega
                    have hlt8 : (jj : Int) < (jk : Int) + 1 := by omega
                    have hlt9 : jj < jk + 1 := by omega
                    obtain ⟨bJ, oJ, rfl, hlJ, hcJ⟩ := HJ0.out jj (by rw [HE.out.2.2]; exact hlt6)
                    obtain ⟨ltj, hbj, cJ, fJ⟩ := KT1.cellJ hlt4 hl4 (by rw [HE.out.2.2]; exact hlt6)
                    rw [HE.out.1] at ltj hbj cJ fJ
                    obtain ⟨x0, x1, x2, x3, x4, hx⟩ : ∃ x0 x1 x2 x3 x4, P.jb h jj = ⟨x0, x1, x2, x3, x4⟩ := ⟨_, _, _, _, _, rfl⟩
                    rw [hx] at hcJ cJ
                    have a0 : wr.cell? ⟨bJ, oJ + jj * 5 + 0, none⟩ = some (.int .i64 x0) := (bwr.cell (p := ⟨bJ, oJ + jj * 5 + 0, none⟩) hlJ).trans (hcJ 0 (by decide))
                    have a1 : wr.cell? ⟨bJ, oJ + jj * 5 + 1, none⟩ = some (.int .i64 x1) := (bwr.cell (p := ⟨bJ, oJ + jj * 5 + 1, none⟩) hlJ).trans (hcJ 1 (by decide))
                    have a2 : wr.cell? ⟨bJ, oJ + jj * 5 + 2, none⟩ = some (.int .i64 x2) := (bwr.cell (p := ⟨bJ, oJ + jj * 5 + 2, none⟩) hlJ).trans (hcJ 2 (by decide))
                    have a3 : wr.cell? ⟨bJ, oJ + jj * 5 + 3, none⟩ = some (.int .i64 x3) := (bwr.cell (p := ⟨bJ, oJ + jj * 5 + 3, none⟩) hlJ).trans (hcJ 3 (by decide))
                    have a4 : wr.cell? ⟨bJ, oJ + jj * 5 + 4, none⟩ = some (.int .u64 x4) := (bwr.cell (p := ⟨bJ, oJ + jj * 5 + 4, none⟩) hlJ).trans (hcJ 4 (by decide))
                    have b0 : wr.cell? ⟨gj, jj * 5 + 0, none⟩ = some (.int .i64 x0) := cJ 0 (by decide)
                    have b1 : wr.cell? ⟨gj, jj * 5 + 1, none⟩ = some (.int .i64 x1) := cJ 1 (by decide)
                    have b2 : wr.cell? ⟨gj, jj * 5 + 2, none⟩ = some (.int .i64 x2) := cJ 2 (by decide)
                    have b3 : wr.cell? ⟨gj, jj * 5 + 3, none⟩ = some (.int .i64 x3) := cJ 3 (by decide)
                    have b4 : wr.cell? ⟨gj, jj * 5 + 4, none⟩ = some (.int .u64 x4) := cJ 4 (by decide)
                    rw [Nat.add_zero] at a0 b0
                    have f0 := fJ (jj * 5)
                    have f1 := fJ (jj * 5 + 1)
                    have f2 := fJ (jj * 5 + 2)
                    have f3 := fJ (jj * 5 + 3)
                    have f4 := fJ (jj * 5 + 4)
                    have HGK := hide (And.intro (up_wrap (k := jj) (by have := HJB.out h hlt4; rw [HE.out.2.2] at this; omega)) (meas_up hlt6))
                    have HBJ := hide hbj
                    have HL4 := hide hl4
                    have HL5 := hide hl5
                    clear KT1 B1 T1 bwr hcJ cJ fJ hbj hl4 hl5 hx hjj hlJ lr3 lr4 lr2 hsi hs10 hs11 hs12 hs13 hs14 hs15 hs16 hs18 szr sz0 sz8 l10 l14 l11 l13 l16 l18 lbo lbo11 lb16 lw18 ls18 hbo2 hbo v1 v2 v3 hlt' hk hlt lr
                    go_wp2_with fail
                    go_quiet (fail)
                    go_wp2_with fail
                    go_roundw
                    case rel =>
                      obtain ⟨c5, K5, -⟩ := (HKT.out.drewN nq).setJ hlt4 HL4.out (by rw [HE.out.2.2]; exact hlt6) (.int .i64 77) (.int .i64 0) (.int .i64 0) (.int .i64 0) (.int .u64 0)
                      rw [HE.out.1] at K5
                      refine ⟨jj + 1, c5, _, hlt6, congrArg (Value.int .i64) HGK.out.1, K5, ?_, fun q hq => ?_, ?_, ?_⟩
                      · rw [upd_same]
                        exact Nat.le_refl _
                      · rw [upd_other _ _ (by omega)]
                        exact HL5.out q hq
                      · exact (((((below_drewN HB.out nq).setCell HBJ.out _).setCell HBJ.out _).setCell HBJ.out _).setCell HBJ.out _).setCell HBJ.out _
                      · exact Touch.setCell (Touch.setCell (Touch.setCell (Touch.setCell (Touch.setCell (touch_drewN HT.out nq) ⟨gj, jj * 5, none⟩ (.inl LTR.out) _) ⟨gj, jj * 5 + 1, none⟩ (.inl LTR.out) _) ⟨gj, jj * 5 + 2, none⟩ (.inl LTR.out) _) ⟨gj, jj * 5 + 3, none⟩ (.inl LTR.out) _) ⟨gj, jj * 5 + 4, none⟩ (.inl LTR.out) _
                    case measure => rw [HGK.out.1]; exact HGK.out.2
                  · have hlt7 : ¬ (jj : Int) < jk := by omega
                    have ejj : jk = jj := by omega
                    subst ejj
                    obtain ⟨ltm, hcm⟩ := KT1.cellM hlt4
                    rw [HE.out.1] at ltm
                    rw [HE.out.1, HE.out.2.2] at hcm
                    have hlt8 : (jk : Int) < (jk : Int) + 1 := by omega
                    have hlt9 : jk < jk + 1 := by omega
                    have HL5 := hide hl5
                    clear KT1 B1 T1 bwr hl4 hl5 hjj lr3 lr4 lr2 hsi hs10 hs11 hs12 hs13 hs14 hs15 hs16 hs18 szr sz0 sz8 l10 l14 l11 l13 l16 l18 lbo lbo11 lb16 lw18 ls18 hbo2 hbo v1 v2 v3 hlt' hk hlt lr
                    go_wp2_with fail
                    go_quiet (fail)
                    go_wp2_with fail
                    go_roundw
                    case rel => exact ⟨h + 1, c4, lo', hlt4, congrArg (Value.int .i64) HGK3.out.1, HKT.out.drewN nq, fun q hq => HL5.out q hq, below_drewN HB.out nq, touch_drewN HT.out nq⟩
                    case measure => rw [HGK3.out.1]; exact HGK3.out.2
              · have hlt5 : ¬ (h : Int) < P.nh := by omega
                obtain rfl : h = P.nh := by omega
                obtain ⟨wD, hwD⟩ : ∃ x, x = wr := ⟨_, rfl⟩
                subst hwD
                clear KT1 B1 T1 bwr hlo
                go_wp2_with fail
                clear d7
                go_loopw [21] (fun i wy => ∃ q c', q ≤ P.n ∧ i = .int .i64 ((q : Nat) : Int) ∧ KT P W0.heap.size wy blk c' cp gw gs cw cs (.slice af P.nh cf) P.ns lo ∧ Below W0.heap.size W0 wy ∧ Touch w18 wy (fun q => q < wA.heap.size)) (fun i _ => P.n - (intOf i).toNat)
                case atStart => exact ⟨0, c3, Nat.zero_le _, rfl, HKT.out, HB.out, HT.out⟩
                case round =>
                  obtain ⟨q, c5, hq, rfl, KT1, B1, T1⟩ := hrel
                  clear HKT HB HT
                  obtain ⟨bwr, lr5, -, -, -, -, -, -, d6, -, -, -⟩ := keep.out wr B1
                  have HKT := hide KT1
                  have HB := hide B1
                  have HT := hide T1
                  by_cases hlt6 : q < P.n
                  · have hlt7 : (q : Int) < P.n := by omega
                    have hlt8 : (q : Int) < (P.n : Int) + 2 := by omega
                    have hlt9 : q < P.n + 2 := by omega
                    obtain ⟨lbw, hbw2, ⟨uv, cW⟩, fW⟩ := KT1.cellW hlt6
                    have HGK := hide (And.intro (up_wrap (k := q) (by have := BIG.out.1; omega)) (meas_up hlt6))
                    have HBW := hide hbw2
                    clear KT1 B1 T1 bwr hbw2 hq lr5 lr3 lr2 hsi hh hs10 hs11 hs12 hs13 hs14 hs15 hs16 hs18 szr sz0 sz8 l10 l14 l11 l13 l16 l18 lbo lbo11 lb16 lw18 ls18 hbo2 hbo v1 v2 v3 hlt' hk hlt lr
                    go_wp2_with fail
                    go_roundw
                    case rel =>
                      obtain ⟨c6, K6, -⟩ := HKT.out.setW q (.int .u64 78)
                      exact ⟨q + 1, c6, hlt6, congrArg (Value.int .i64) HGK.out.1, K6, HB.out.setCell HBW.out _, Touch.setCell HT.out ⟨gw, q, none⟩ (.inl LTS.out.1) _⟩
                    case measure => rw [HGK.out.1]; exact HGK.out.2
                  · have hlt7 : ¬ (q : Int) < P.n := by omega
                    obtain rfl : q = P.n := by omega
                    obtain ⟨wE, hwE⟩ : ∃ x, x = wr := ⟨_, rfl⟩
                    subst hwE
                    have T15E := hide (show Touch W15 wE (fun q => q < wA.heap.size) from (Touch.of_below B1518.out (fun q => q < wA.heap.size)).trans' T1 (fun k _ h => h))
                    have TaE := hide (show Touch w10 wE (fun q => q < wA.heap.size) from T15.out.trans' T15E.out (fun k _ h => h))
                    have sE := T15E.out.size
                    have HOV := hide (HO10.out.keep TaE.out (fun q h => h))
                    have HDuE := hide (HKD.out.keep HDu.out T15E.out (fun q h => by have : q < wA.heap.size := h; omega))
                    have HDxE := hide (HKR.out.keep HDx.out T15E.out (fun q h => by have : q < wA.heap.size := h; omega))
                    have RtE := hide (R1115.out.of_block (T15E.out.block w10.heap.size (by omega) (by omega)))
                    have RuE := hide (R1315.out.of_block (T15E.out.block w12.heap.size (by omega) (by omega)))
                    have RxE := hide (R15.out.of_block (T15E.out.block w14.heap.size (by omega) (by omega)))
                    have t0 : wE.cell? ⟨w10.heap.size, 0, none⟩ = some (.slice sa vk sc) := RtE.out.cell (i := 0) (by omega)
                    have t1 : wE.cell? ⟨w10.heap.size, 1, none⟩ = some (.slice wa vn wcp) := RtE.out.cell (i := 1) (by omega)
                    have t2 : wE.cell? ⟨w10.heap.size, 2, none⟩ = some (.bool ven) := RtE.out.cell (i := 2) (by omega)
                    have BWE := hide bwr
                    clear KT1 B1 T1 bwr
                    go_wp2_with fail
                    refine (L11.spoil_any HOV.out v1 v2 v3 V4.out).mono ?_
                    rintro e w20 ⟨rfl, t20⟩
                    have s20 := t20.size
                    have HDu20 := hide (HKD.out.keep HDuE.out t20 (fun q h => by have : wA.heap.size ≤ q ∧ q < w10.heap.size := h; omega))
                    have HDx20 := hide (HKR.out.keep HDxE.out t20 (fun q h => by have : wA.heap.size ≤ q ∧ q < w10.heap.size := h; omega))
                    obtain ⟨su', tu', wu', xu', au', bu', ev, Su, Yu, Au⟩ := HKD.out.sees HDu20.out
                    simp only at ev Su Yu Au
                    cases ev
                    obtain ⟨sx', tx', wx', xx', ax', bx', ev, Sx, Yx, Ax⟩ := HKR.out.sees HDx20.out
                    simp only at ev Sx Yx Ax
                    cases ev
                    have HSu := hide Su
                    have HYu := hide Yu
                    have HAu := hide Au
                    have HSx := hide Sx
                    have HYx := hide Yx
                    have HAx := hide Ax
                    have Ru20 := hide (RuE.out.of_block (t20.block w12.heap.size (by omega) (by omega)))
                    have Rx20 := hide (RxE.out.of_block (t20.block w14.heap.size (by omega) (by omega)))
                    have g0 : w20.cell? ⟨w12.heap.size, 0, none⟩ = some (.slice su vk tu) := Ru20.out.cell (i := 0) (by omega)
                    have g1 : w20.cell? ⟨w12.heap.size, 1, none⟩ = some (.slice wu vn xu) := Ru20.out.cell (i := 1) (by omega)
                    have g2 : w20.cell? ⟨w12.heap.size, 2, none⟩ = some (.bool ven) := Ru20.out.cell (i := 2) (by omega)
                    have x0 : w20.cell? ⟨w14.heap.size, 0, none⟩ = some (.slice sx vk tx) := Rx20.out.cell (i := 0) (by omega)
                    have x1 : w20.cell? ⟨w14.heap.size, 1, none⟩ = some (.slice wx vn xx) := Rx20.out.cell (i := 1) (by omega)
                    have x2 : w20.cell? ⟨w14.heap.size, 2, none⟩ = some (.bool ven) := Rx20.out.cell (i := 2) (by omega)
                    have B20 := hide (show Below w.heap.size w w20 from BWE.out.trans (t20.below (fun k hk => by omega) (by omega)))
                    clear Su Yu Au Sx Yx Ax t20 t0 t1 t2
                    go_wp2_with (first
                      | (go_at_call 12; refine (same_trace HSu.out HSx.out HYu.out HYx.out v2 v1).mono ?_; rintro e w21 ⟨rfl, hb21⟩; have HB21 := hide hb21; have hs21 := hb21.size; clear hb21 g0 g1 g2 x0 x1 x2)
                      | (go_at_call 13; refine (same_answers (HAu.out.below HB21.out (Nat.le_refl _)) (HAx.out.below HB21.out (Nat.le_refl _)) v3 V4.out).mono ?_; rintro e w22 ⟨rfl, m22, hw22⟩; subst hw22))
                    go_ret
                    exact ⟨rfl, below_drewN (B20.out.trans (HB21.out.mono B20.out.size)) _⟩
end Epoch
end Go.Proofs.Ytdflicgjkleonaa
